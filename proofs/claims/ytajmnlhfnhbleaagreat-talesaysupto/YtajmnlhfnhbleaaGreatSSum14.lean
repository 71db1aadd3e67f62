/- Several texts of one proof, in their order. -/
import Derived.Test.YtajmnlhfnhbleaaGreatSSum13
namespace Go.Proofs.YtajmnlhfnhbleaaGreat
open Go.RowKit CurveMath Go.Maps
set_option linter.unusedVariables false
set_option maxHeartbeats 2000000
set_option maxRecDepth 10000
theorem split_no(nd of sz:Int)(v:Value)(w:World)(hp:¬planOk nd of sz=true){n:Nat}{D:Nat→Int}(h:IntSl w w.heap.size v n D):
 Calls Tryz.prog 79 #[planV nd of sz,v] w fun e w'=>e=.returned (.tuple #[.slice none 0 0,.int .i64 2])∧Below w.heap.size w w':=by
 have HBx:=hid (below_alloc w (.cells #[.int .i64 nd,.int .i64 of,.int .i64 sz] 59))
 have HC:=hid (shCheck nd of sz (w.alloc (.cells #[.int .i64 nd,.int .i64 of,.int .i64 sz] 59)))
 have e:chkP nd of sz=2:=by unfold chkP;rw[if_neg hp]
 rw[e]at HC
 obtain⟨a,c,rfl,_,_⟩:=h
 clear hp e
 unfold planV
 go_enter Tryz.func79,Tryz.ntmps79
 go_wp2_with(go_at_call 110;go_must(refine HC.out.mono ?_;rintro e w1 ⟨rfl,hb1⟩;have HB1:=hid (HBx.out.trans (hb1.mono HBx.out.size));clear hb1))
 go_ret2
 exact⟨rfl,HB1.out⟩
theorem split_num(nd of sz:Int)(v:Value)(n:Nat)(D:Nat→Int)(w:World)(hp:planOk nd of sz=true)(hn:¬numE n D sz=0)(h:IntSl w w.heap.size v n D):
 Calls Tryz.prog 79 #[planV nd of sz,v] w fun e w'=>e=.returned (.tuple #[.slice none 0 0,.int .i64 (numE n D sz)])∧Below w.heap.size w w':=by
 have hbx:=below_alloc w (.cells #[.int .i64 nd,.int .i64 of,.int .i64 sz] 59)
 have HC:=hid (shCheck nd of sz (w.alloc (.cells #[.int .i64 nd,.int .i64 of,.int .i64 sz] 59)))
 have e:chkP nd of sz=0:=by unfold chkP;rw[if_pos hp]
 rw[e]at HC
 have HI:=hid (h.up hbx)
 have HBx:=hid hbx
 have HN:=hid (fun(w1:World) (hb:IntSl w1 w1.heap.size v n D)=>shNumbers v n D sz w1 hb)
 obtain⟨a,c,rfl,_,_⟩:=h
 generalize numE n D sz=ec at *
 have hb:(ec != 0)=true:=by simpa using hn
 clear hp e hbx hn
 unfold planV
 go_enter Tryz.func79,Tryz.ntmps79
 go_wp2_with fail
 refine HC.out.mono ?_
 rintro e w1 ⟨rfl,hb1⟩
 have p2:w1.cell? ⟨w.heap.size,2,none⟩=some (.int .i64 sz):=by rw[hb1.cell (by simp)];exact cell_at (heap_alloc_new _ _) rfl
 have HI1:=hid (HI.out.up hb1)
 have HB1:=hid (HBx.out.trans (hb1.mono HBx.out.size))
 clear hb1
 go_wp2_with fail
 refine(HN.out w1 HI1.out).mono ?_
 rintro e w2 ⟨rfl,hw2⟩
 subst w2
 go_wp2
 go_ret2
 exact⟨rfl,HB1.out⟩
theorem split_good(d m s:Nat)(D:Nat→Int)(a:Option Addr)(cp:Nat)(w:World)(hp:planOk (d:Int) (m:Int) (s:Int)=true)(hD:∀j,j<s→0≤D j∧D j≤30){R:Nat}(hR:rowsN (d:Int) (s:Int)=R)
 (h:IntSl w w.heap.size (.slice a s cp) s D) :
 Calls Tryz.prog 79 #[planV (d:Int) (m:Int) (s:Int),.slice a s cp] w fun e w'=>∃g0 gl G,e=.returned (.tuple #[.slice (some ⟨gl,0,none⟩) m m,.int .i64 0])∧SpInv w w' d m s R s D g0 gl G m (fun k j=>shv d s D k j):=by
 obtain⟨hnd,hof,hsz⟩:=planOk_spec hp
 have hrb:=rowsN_bd hnd hsz
 rw[hR]at hrb
 have hRo:=fun w=>shLong (d:Int) (m:Int) (s:Int) w
 have e2:longP (d:Int) (m:Int) (s:Int)=(R:Int):=by unfold longP;rw[if_pos hp,hR]
 rw[e2]at hRo
 have HRo:=hid hRo
 have hdd:1≤d∧d≤4:=by omega
 have hmm:d≤m∧m≤8:=by omega
 have hRR:1≤R∧R≤24:=by omega
 have hss:1≤s∧s≤24:=by omega
 have hsR:s≤R*d∧R*d≤27:=by
  have h1:=hrb.1;have h2:=hrb.2.2.2.2;have h3:((R*d:Nat):Int)=(R:Int)*(d:Int):=by simp
  omega
 have hmul:(R:Int)*(d:Int)=((R*d:Nat):Int):=by simp
 have hbx:=below_alloc w (.cells #[.int .i64 (d:Int),.int .i64 (m:Int),.int .i64 (s:Int)] 59)
 have HC:=hid (shCheck (d:Int) (m:Int) (s:Int) (w.alloc (.cells #[.int .i64 (d:Int),.int .i64 (m:Int),.int .i64 (s:Int)] 59)))
 have e:chkP (d:Int) (m:Int) (s:Int)=0:=by unfold chkP;rw[if_pos hp]
 rw[e]at HC
 have hnum:numE s D (s:Int)=0:=by
  unfold numE;have h4:numsB s D=true:=decide_eq_true fun j hj=>(isNum_iff _).2 (hD j hj);rw[if_pos rfl,if_pos h4]
 have HI:=hid (h.up hbx)
 have HBx:=hid hbx
 have HD:=hid hD
 have HMul:=hid hmul
 obtain⟨ii,hi,hzz0,hzz1,hzz2⟩:=info_parts Tryz.infoInt
 obtain⟨is,his,hsz0,hsz1,hsz2⟩:=info_parts Tryz.infoShare
 clear hRo e2 hrb hnd hof hsz hp hR h hD e hbx hmul
 unfold planV
 go_enter Tryz.func79,Tryz.ntmps79
 go_wp2_with fail
 refine HC.out.mono ?_
 rintro e w1 ⟨rfl,hb1⟩
 have p0:w1.cell? ⟨w.heap.size,0,none⟩=some (.int .i64 (d:Int)):=by rw[hb1.cell (by simp)];exact cell_at (heap_alloc_new _ _) rfl
 have p1:w1.cell? ⟨w.heap.size,1,none⟩=some (.int .i64 (m:Int)):=by rw[hb1.cell (by simp)];exact cell_at (heap_alloc_new _ _) rfl
 have p2:w1.cell? ⟨w.heap.size,2,none⟩=some (.int .i64 (s:Int)):=by rw[hb1.cell (by simp)];exact cell_at (heap_alloc_new _ _) rfl
 have HI1:=hid (HI.out.up hb1)
 have HB1:=hid (HBx.out.trans (hb1.mono HBx.out.size))
 have HN:=hid (shNumbers _ s D (s:Int) w1 HI1.out)
 rw[hnum]at HN
 clear hb1 hnum
 have KP:Hid (∀w',Below w1.heap.size w1 w'→w'.cell? ⟨w.heap.size,0,none⟩=some (.int .i64 (d:Int))∧w'.cell? ⟨w.heap.size,1,none⟩=some (.int .i64 (m:Int))∧w'.cell? ⟨w.heap.size,2,none⟩=some (.int .i64 (s:Int))):=fun w' hb' =>
  ⟨by rw[hb'.cell (cell_lt p0)];exact p0,by rw[hb'.cell (cell_lt p1)];exact p1,by rw[hb'.cell (cell_lt p2)];exact p2⟩
 have hwl:w.heap.size<w1.heap.size:=cell_lt p0
 go_wp2_with fail
 refine HN.out.mono ?_
 rintro e w2 ⟨rfl,hw2⟩
 subst w2
 go_wp2_with fail
 have hne:Nonempty (Of (Below w1.heap.size w1)):=⟨⟨w1,Below.refl _ _⟩⟩
 have F0:∀u:Of (Below w1.heap.size w1),u.val.cell? ⟨w.heap.size,0,none⟩=some (.int .i64 (d:Int)):=fun u=>(KP.out u.val u.is).1
 have F1:∀u:Of (Below w1.heap.size w1),u.val.cell? ⟨w.heap.size,1,none⟩=some (.int .i64 (m:Int)):=fun u=>(KP.out u.val u.is).2.1
 have F2:∀u:Of (Below w1.heap.size w1),u.val.cell? ⟨w.heap.size,2,none⟩=some (.int .i64 (s:Int)):=fun u=>(KP.out u.val u.is).2.2
 have HD1:Hid (Below w1.heap.size w1 w1.drew):=⟨rfl,rfl,rfl,Nat.le_refl _,fun _ _=>rfl⟩
 refine region_mixed (Below w1.heap.size w1) [([0,2,3],1),([4],5)] [6] (by kernel_rfl) (by kernel_rfl) HD1.out ?_
 refine mixO_cons ?_
 repeat(go_big_quiet_step (fail))
 refine wpQuiet_nil ?_
 intro K hK
 go_wp2_with fail
 refine Calls.mono (HRo.out _) ?_
 rintro e w2 ⟨rfl,hb2⟩
 have HB2:Hid (Below w1.heap.size w1 w2):=HD1.out.trans (hb2.mono HD1.out.size)
 clear hb2
 go_wp2
 refine⟨rfl,hK _ _ HB2.out ?_⟩
 clear hK K
 have hb3:0≤(R:Int)*(d:Int)∧(R:Int)*(d:Int)≤27:=by rw[HMul.out];omega
 refine mixO_cons ?_
 repeat(go_big_quiet_step (fail))
 refine wpQuiet_nil ?_
 intro K hK
 go_wp2_with(at_make;refine wpList_make_full _ rfl (.tmp 30) (.tmp 30) 28 rfl _ 3 ii (.int .i64 0) 1 Tryz.underlying28 hi hzz0 hzz1 _ _ _ _ (R*d) rfl rfl HMul.out HMul.out (by rw[hzz2];omega) (by unfold maxLen;omega) (Nat.le_refl _) ?_;intro w3 ho3 hg3;have HO3:=hid ho3;have HG3:=hid hg3;clear ho3 hg3)
 have HW3:=hid (below_of_grown HG3.out)
 have HB3:Hid (Below w1.heap.size w1 w3):=HB2.out.trans (HW3.out.mono HB2.out.size)
 refine⟨rfl,hK _ _ HB3.out ?_⟩
 clear hK K
 refine mixO_nil ?_
 repeat(go_big_quiet_step (fail))
 refine wpQuiet_nil ?_
 have HBl3:=hid (made_block HO3.out)
 have hg0:w.heap.size<w2.heap.size:=Nat.lt_of_lt_of_le hwl HB2.out.size
 have hI3:=HI1.out.up HB3.out
 obtain⟨w4,hrun,hc4,hf4,hb4⟩:=copy_run (cm:=R*d) HBl3.out hI3 (c:=s) (Nat.min_eq_left hsR.1).symm hss.1
 have HW4:=hid (hb4 w2.heap.size w2 HW3.out (Nat.le_refl _))
 have HC4:=hid hc4
 have HB4:Hid (Below w1.heap.size w1 w4):=HB2.out.trans (HW4.out.mono HB2.out.size)
 obtain⟨q0,q1,q2⟩:=KP.out w4 HB4.out
 have hg4:w2.heap.size<w4.heap.size:=cell_lt (hc4 0 (by omega))
 clear hc4 hf4 hb4 hI3 HBl3 p0 p1 p2
 go_wp2_with(at_make;refine wpList_make_full _ rfl (.tmp 36) (.tmp 36) 103 rfl _ 81 is (.agg #[.int .i64 0,.slice none 0 0]) 2 Tryz.underlying103 his hsz0 hsz1 _ _ _ _ m rfl rfl rfl rfl (by rw[hsz2];omega) (by unfold maxLen;omega) (Nat.le_refl _) ?_;intro w5 ho5 hg5;have HO5:=hid ho5;have HG5:=hid hg5;clear ho5 hg5)
 have hW5:=below_of_grown HG5.out
 have J0:Hid (SpInv w w5 d m s R s D w2.heap.size w4.heap.size (fun _=>0) 0 (fun _ _=>0)):=by
  have hB5:=HB4.out.trans (hW5.mono HB4.out.size);obtain⟨r0,r1,r2⟩:=KP.out w5 hB5;exact⟨HB1.out.trans (hB5.mono HB1.out.size),r0,r1,r2,fun j hj=>by rw[hW5.cell (cell_lt (HC4.out j hj))];exact HC4.out j hj,fun i hi=>owns_room HO5.out i hi,fun k hk=>absurd hk (Nat.not_lt_zero _),fun k hk=>absurd hk (Nat.not_lt_zero _),fun k hk=>absurd hk (Nat.not_lt_zero _),fun k hk=>absurd hk (Nat.not_lt_zero _),hg0,hg4,fun k hk=>absurd hk (Nat.not_lt_zero _),fun i j hi=>absurd hi (Nat.not_lt_zero _)⟩
 generalize w2.heap.size=g0 at *
 generalize w4.heap.size=gl at *
 clear hrun q0 q1 q2 HO5 HG5 HC4 HW4 HB4 hW5 HO3 HG3 HW3 HB3
 go_loopw [40] (fun iv wr=>∃(k:Nat) (G:Nat→Nat),k≤m∧iv=.int .i64 k∧Hid (SpInv w wr d m s R s D g0 gl G k (fun _ _=>0))) (fun iv _=>m-(intOf iv).toNat)
 case atStart=>exact⟨0,_,Nat.zero_le _,rfl,J0⟩
 case round =>
  obtain⟨k,G,hk,rfl,J⟩:=hrel;by_cases hlt:k<m
  ·have hki:(k:Int)<(m:Int):=by omega
   have r0:=J.out.p0;have r1:=J.out.p1;have r2:=J.out.p2;go_wp2_with fail
   refine Calls.mono (HRo.out _) ?_;rintro e w6 ⟨rfl,hb6⟩;have J6:=hid (J.out.up hb6);clear hb6;go_wp2_with(at_make;refine wpList_make_full _ rfl (.tmp 47) (.tmp 47) 28 rfl _ 3 ii (.int .i64 0) 1 Tryz.underlying28 hi hzz0 hzz1 _ _ _ _ R rfl rfl rfl rfl (by rw[hzz2];omega) (by unfold maxLen;omega) (Nat.le_refl _) ?_;intro w7 ho7 hg7;have R7:=hid (row_made ho7 hg7);clear ho7 hg7;obtain⟨⟨u0,c0⟩,f0⟩:=(J6.out.up R7.out.below).room (k*2) (by omega);obtain⟨⟨u1,c1⟩,f1⟩:=(J6.out.up R7.out.below).room (k*2+1) (by omega))
   go_roundw
   case rel=>exact⟨k+1,_,by omega,by go_num,J6.out.push hlt hRR.1 R7.out⟩
   case measure=>simp only[intOf];omega
  have hke:k=m:=by omega
  subst hke;have r0:=J.out.p0;have r1:=J.out.p1;have r2:=J.out.p2;go_wp2_with fail
  refine Calls.mono (HRo.out _) ?_;rintro e w6 ⟨rfl,hb6⟩;have J6:=hid (J.out.up hb6);clear hb6;go_wp2;go_loopw [54] (fun iv wr=>∃r:Nat,r≤R∧iv=.int .i64 r∧Hid (SpInv w wr d k s R s D g0 gl G k (fun k' j=>if j<r then shv d s D k' j else 0))) (fun iv _=>R-(intOf iv).toNat)
  case atStart=>exact⟨0,Nat.zero_le _,rfl,J6.out.congr fun k' j _ _=>by rw[if_neg (Nat.not_lt_zero _)]⟩
  case round =>
   obtain⟨r,hr,rfl,JR⟩:=hrel;by_cases hrR:r<R
   ·have hri:(r:Int)<(R:Int):=by omega
    have hrd:0≤(r:Int)*(d:Int)∧(r:Int)*(d:Int)≤27:=⟨Int.mul_nonneg (by omega) (by omega),by
     have h1:(r:Int)*(d:Int)≤(R:Int)*(d:Int):=Int.mul_le_mul_of_nonneg_right (by omega) (by omega);omega⟩
    have hrd2:((r:Int)+1)*(d:Int)=(r:Int)*(d:Int)+(d:Int):=by rw[Int.add_mul,Int.one_mul]
    have hrd3:(r:Int)*(d:Int)+(d:Int)≤((R*d:Nat):Int):=by
     rw[←hrd2,←HMul.out];exact Int.mul_le_mul_of_nonneg_right (by omega) (by omega)
    have r0:=JR.out.p0;have hne2:Nonempty (Of (fun u:World=>u.cell? ⟨w.heap.size,0,none⟩=some (.int .i64 (d:Int)))):=⟨⟨wr,r0⟩⟩;have E0:∀u:Of (fun u:World=>u.cell? ⟨w.heap.size,0,none⟩=some (.int .i64 (d:Int))),u.val.cell? ⟨w.heap.size,0,none⟩=some (.int .i64 (d:Int)):=fun u=>u.is;go_wp2_with fail
    refine region_mixed (fun u:World=>u.cell? ⟨w.heap.size,0,none⟩=some (.int .i64 (d:Int))) [([0,1,3,4,5,6,7,8,9,10,11,12,13],2),([],14)] [15] (by kernel_rfl) (by kernel_rfl) r0 ?_;refine mixO_cons ?_;repeat(go_big_quiet_step (fail))
    refine wpQuiet_nil ?_;intro K hK;go_wp2_with fail
    refine Calls.mono (shUpTo d (by omega) _) ?_;rintro e w7 ⟨vp,rfl,hvp⟩;have hb7:Below wr.heap.size wr w7:=Below.trans (⟨rfl,rfl,rfl,Nat.le_refl _,fun _ _=>rfl⟩:Below wr.heap.size wr wr.drew) hvp.2;have J7:=hid (JR.out.up hb7);have HVp:=hid (hvp.isl hdd.1 (by omega));have HVb:=hid (fun g (hg:vp.ownBlock=some g)=>(hvp.1.lt g hg).1);clear hvp hb7;go_wp2;refine⟨rfl,hK _ _ J7.out.p0 ?_⟩;clear hK K;refine mixO_cons (lq:=[]) ?_ rfl;refine wpQuiet_nil ?_;intro K hK;go_wp2_with fail
    have hrn:r*d+d≤R*d:=by
     have h1:((r*d:Nat):Int)=(r:Int)*(d:Int):=by simp
     omega
    have HVy:Hid (IntSl w7 w7.heap.size (.slice (some ⟨g0,r*d,none⟩) d (R*d-r*d)) d (fun i=>padD s D (r*d+i))) :=
     ⟨_,_,rfl,⟨by omega,by omega⟩,Or.inr ⟨g0,r*d,rfl,cell_lt (J7.out.whole 0 (by omega)),fun j hj=>J7.out.whole (r*d+j) (by omega)⟩⟩
    refine Calls.mono (shThrough vp _ d (fun j=>(j:Int)) (fun i=>padD s D (r*d+i)) w7 HVp.out HVy.out) ?_;rintro e w8 ⟨rfl,hb8,hf8,k8x,k8z⟩;have J8:=hid (J7.out.up hb8);have AF:=hid hf8;have AO:Hid (∀k',k'<k→AtOff (G k') w8 w7.heap.size (w7.heap.size+1)):=fun k' hk'=>by
     have hlt7:G k'<w7.heap.size:=cell_lt (J7.out.row k' hk' 0 (by omega));have hltr:G k'<wr.heap.size:=cell_lt (JR.out.row k' hk' 0 (by omega));have hgo:=J7.out.oG k' hk';have hgl:=J7.out.ol;refine⟨by omega,by omega,fun v hv e=>?_,fun v hv e=>?_⟩
     ·rw[k8x]at hv
      injection hv with hv;rw[←hv]at e;have:=HVb.out _ e;have h9:wr.drew.heap.size=wr.heap.size:=rfl;omega
     rw[k8z]at hv;injection hv with hv;rw[←hv]at e;injection e with e;have e2:g0=G k':=e;omega
    have HGd:=hid (good_row (n:=s) (D:=D) ⟨hdd.1,by omega⟩ HD.out r);clear hb8 hf8 k8x k8z;generalize w7.heap.size=bx at *;go_wp2;refine⟨rfl,hK _ _ J8.out.p0 ?_⟩;clear hK K;refine mixO_nil ?_;repeat(go_big_quiet_step (fail))
    refine wpQuiet_nil ?_;unfold atF;clear r0 hne2 E0;go_wp2;go_loopw [74] (fun iv wz=>∃k2:Nat,k2≤k∧iv=.int .i64 k2∧Hid (SpInv w wz d k s R s D g0 gl G k (fun k' j=>if j<r∨(j=r∧k'<k2)then shv d s D k' j else 0))∧Hid (AtFn wz bx (bx+1) d (fun j=>(j:Int)) (fun i=>padD s D (r*d+i)))∧Hid (∀k',k'<k→AtOff (G k') wz bx (bx+1))) (fun iv _=>k-(intOf iv).toNat)
    case atStart=>exact⟨0,Nat.zero_le _,rfl,J8.out.congr fun k' j _ _=>by
     by_cases h:j<r;·rw[if_pos h,if_pos (Or.inl h)]
     rw[if_neg h,if_neg (by omega)],AF,AO⟩
    case round =>
     obtain⟨k2,hk2,rfl,JZ,AF,AO⟩:=hrel;by_cases hkk:k2<k
     ·have hkki:(k2:Int)<(k:Int):=by omega
      have l1:=JZ.out.l1 k2 hkk;have hne3:Nonempty (Of (fun u:World=>u.cell? ⟨gl,k2*2+1,none⟩=some (.slice (some ⟨G k2,0,none⟩) R R))):=⟨⟨wr,l1⟩⟩;have E1:∀u:Of (fun u:World=>u.cell? ⟨gl,k2*2+1,none⟩=some (.slice (some ⟨G k2,0,none⟩) R R)),u.val.cell? ⟨gl,k2*2+1,none⟩=some (.slice (some ⟨G k2,0,none⟩) R R):=fun u=>u.is;go_wp2_with fail
      refine region_mixed_last (fun u:World=>u.cell? ⟨gl,k2*2+1,none⟩=some (.slice (some ⟨G k2,0,none⟩) R R)) [([0,1,2,3,4,5,6,7],8)] [9] 10 (by kernel_rfl) (by kernel_rfl) l1 ?_;refine mixO_cons ?_;repeat(go_big_quiet_step (fail))
      refine wpQuiet_nil ?_;intro K hK;go_wp2_with fail
      have hdr:Below wr.heap.size wr wr.drew:=⟨rfl,rfl,rfl,Nat.le_refl _,fun _ _=>rfl⟩;have hk30:0≤(k2:Int)∧(k2:Int)≤30:=by omega
      refine Calls.mono (shAt bx (bx+1) d _ _ (k2:Int) _ (AF.out.up hdr) HGd.out hk30) ?_;rintro e w9 ⟨rfl,hb9⟩;have hb9':=hdr.trans hb9;have J9:=hid (JZ.out.up hb9');have AF9:=hid (AF.out.up hb9');have AO9:Hid (∀k',k'<k→AtOff (G k') w9 bx (bx+1)):=fun k' hk'=>(AO.out k' hk').up AF.out hb9';clear hb9 hb9' hdr;obtain⟨x,hx⟩:∃x,crv d (fun j=>(j:Int)) (fun i=>padD s D (r*d+i)) (k2:Int)=x:=⟨_,rfl⟩;rw[hx];have HX:Hid (shv d s D k2 r=x):=hx;clear hx;have c9:=J9.out.row k2 hkk r hrR;have f9:=J9.out.free k2 hkk r hrR;go_wp2;refine⟨rfl,hK _ _ (J9.out.l1 k2 hkk) ?_⟩;clear hK K;refine mixO_last ?_;repeat(go_big_quiet_step (fail))
      refine wpQuiet_nil ?_;go_wp2;go_roundw
      case rel=>exact⟨k2+1,by omega,by go_num,(J9.out.set k2 r hkk hrR x).congr fun k' j hk' hj=>by
       by_cases e:k'=k2∧j=r;·rw[if_pos e,if_pos (by omega),e.1,e.2];exact HX.out.symm
       rw[if_neg e];by_cases e2:j<r∨(j=r∧k'<k2);·rw[if_pos e2,if_pos (by omega)]
       rw[if_neg e2,if_neg (by omega)],AF9.out.set (AO9.out k2 hkk) r _,fun k' hk'=>(AO9.out k' hk').set (AO9.out k2 hkk) r _⟩
      case measure=>simp only[intOf];omega
     have hkke:k2=k:=by omega
     subst hkke;go_wp2;go_roundw
     case rel=>exact⟨r+1,by omega,by go_num,JZ.out.congr fun k' j hk' _=>by
      by_cases h:j<r;·rw[if_pos (Or.inl h),if_pos (by omega)]
      by_cases h2:j=r;·rw[if_pos (Or.inr ⟨h2,hk'⟩),if_pos (by omega)]
      rw[if_neg (by omega),if_neg (by omega)]⟩
     case measure=>simp only[intOf];omega
   have hre:r=R:=by omega
   subst hre;go_wp2;go_ret2;exact⟨g0,gl,G,rfl,JR.out.congr fun k' j _ hj=>by rw[if_pos hj]⟩
theorem shSplit(nd of sz:Int)(v:Value)(n:Nat)(D:Nat→Int)(w:World)(h:IntSl w w.heap.size v n D):
 Calls Tryz.prog 79 #[planV nd of sz,v] w fun e w'=>Below w.heap.size w w'∧∃(r:Value) (m:Nat) (V:Nat→Value),e=.returned (.tuple #[r,.int .i64 (splitE nd of sz n D)]) ∧
  (m:Int)=(if splitE nd of sz n D=0 then of else 0)∧ShSl w' w'.heap.size r m (fun k=>(k:Int)) V (fun _=>rowsN nd sz) (fun k i=>shv nd.toNat n D k i) ∧
  Above w.heap.size r∧∀k,k<m→Above w.heap.size (V k):=by
 have none_post:∀ {c:Int} {e:Ending} {w':World},c≠0→e=.returned (.tuple #[.slice none 0 0,.int .i64 c])→Below w.heap.size w w'→(Below w.heap.size w w'∧∃(r:Value) (m:Nat) (V:Nat→Value),e=.returned (.tuple #[r,.int .i64 c]) ∧
  (m:Int)=(if c=0 then of else 0)∧ShSl w' w'.heap.size r m (fun k=>(k:Int)) V (fun _=>rowsN nd sz) (fun k i=>shv nd.toNat n D k i)∧Above w.heap.size r∧∀k,k<m→Above w.heap.size (V k)):=by
  intro c e w' hc he hb
  refine⟨hb,.slice none 0 0,0,fun _=>.slice none 0 0,he,by rw[if_neg hc];rfl,⟨none,0,rfl,⟨Nat.le_refl _,by omega⟩,Or.inl rfl⟩,fun ad _ _ e=>(by cases e),fun k hk=>absurd hk (Nat.not_lt_zero _)⟩
 by_cases hp:planOk nd of sz=true
 ·have hE:splitE nd of sz n D=numE n D sz:=by unfold splitE numE;rw[if_pos hp]
  rw[hE];by_cases hn:numE n D sz=0
  ·have hok:splitE nd of sz n D=0:=by rw[hE];exact hn
   obtain⟨_,hnz,hD⟩:=splitE_ok hok;obtain⟨hnd,hof,hsz⟩:=planOk_spec hp;obtain⟨d,rfl⟩:∃d:Nat,nd=d:=⟨nd.toNat,by omega⟩;obtain⟨m,rfl⟩:∃m:Nat,of=m:=⟨of.toNat,by omega⟩;subst hnz;have hI:=h;obtain⟨a,c,rfl,_,_⟩:=h;refine(split_good d m n D a c w hp hD rfl hI).mono ?_;rintro e w' ⟨g0,gl,G,rfl,J⟩;have ho:=J.o0;have hl:=J.ol;have hRb:=rowsN_bd hnd hsz;have hgl:gl<w'.heap.size:=by
    obtain⟨⟨u,hu⟩,_⟩:=J.room 0 (by omega);exact cell_lt hu
   refine⟨J.below,_,m,fun k=>.slice (some ⟨G k,0,none⟩) (rowsN (d:Int) (n:Int)) (rowsN (d:Int) (n:Int)),by rw[hn],by rw[if_pos hn],?_,?_,?_⟩
   ·refine⟨_,m,rfl,⟨Nat.le_refl _,by omega⟩,Or.inr ⟨gl,0,rfl,hgl,fun k hk=>⟨?_,?_,?_⟩⟩⟩
    ·rw[Nat.zero_add];exact J.l0 k hk
    ·rw[Nat.zero_add];exact J.l1 k hk
    refine⟨_,_,rfl,⟨Nat.le_refl _,by show rowsN (d:Int) (n:Int)*8≤_;omega⟩,Or.inr ⟨G k,0,rfl,cell_lt (J.row k hk 0 (by omega)),fun j hj=>?_⟩⟩;rw[Nat.zero_add,Int.toNat_natCast];exact J.row k hk j hj
   ·intro ad _ _ e
    injection e with e1;injection e1 with e1;rw[←e1];show w.heap.size≤gl;omega
   intro k hk ad _ _ e;injection e with e1;injection e1 with e1;rw[←e1];have:=J.oG k hk;show w.heap.size≤G k;omega
  refine(split_num nd of sz v n D w hp hn h).mono ?_;rintro e w' ⟨he,hb⟩;exact none_post hn he hb
 ·have hE:splitE nd of sz n D=2:=by unfold splitE;rw[if_neg hp]
  rw[hE];refine(split_no nd of sz v w hp h).mono ?_;rintro e w' ⟨he,hb⟩;exact none_post (by decide) he hb
structure SeenM(w wr:World)(A:Nat)(nd of sz:Int)(N:Nat→Int)(j:Nat):Prop where
 below:Below w.heap.size w wr
 ge:w.heap.size<A
 p0:wr.cell? ⟨w.heap.size,0,none⟩=some (.int .i64 nd)
 p1:wr.cell? ⟨w.heap.size,1,none⟩=some (.int .i64 of)
 p2:wr.cell? ⟨w.heap.size,2,none⟩=some (.int .i64 sz)
 m:wr.ownsMap Tryz.prog 3 (plainElem Tryz.prog 3) A j (setX (H:=Empty) (.lit (.int .i64 1)) N j)
theorem SeenM.up{w wr w':World}{A:Nat}{nd of sz:Int}{N:Nat→Int}{j:Nat}(h:SeenM w wr A nd of sz N j)(hb:Below wr.heap.size wr w'):SeenM w w' A nd of sz N j :=
 ⟨h.below.trans (hb.mono h.below.size),h.ge,by rw[hb.cell (cell_lt h.p0)];exact h.p0,by rw[hb.cell (cell_lt h.p1)];exact h.p1,by rw[hb.cell (cell_lt h.p2)];exact h.p2,h.m.kept (grown_of_below hb none) (by intro e;cases e)⟩
theorem SeenM.next{w wr w':World}{A:Nat}{nd of sz:Int}{N:Nat→Int}{j:Nat}{x:Int}(h:SeenM w wr A nd of sz N j)(hx:N j=x)
 (ho:w'.ownsMap Tryz.prog 3 (plainElem Tryz.prog 3) A (j+1) ((setX (H:=Empty) (.lit (.int .i64 1)) N j).put (.int .i64 x) (.lit (.int .i64 1)))) (hg:wr.grownBy w' (some A)):SeenM w w' A nd of sz N (j+1):=by
 have hge:=h.ge
 have hne:some w.heap.size≠some A:=by intro e;injection e with e;omega
 refine⟨h.below.grown hg h.below.size (fun k hk=>by injection hk with hk;omega),h.ge,hg.cell h.p0 hne,hg.cell h.p1 hne,hg.cell h.p2 hne,?_⟩
 rw[setX_succ,hx]
 exact ho
theorem shEnough(nd of sz:Int)(v:Value)(n:Nat)(N:Nat→Int)(V:Nat→Value)(L:Nat→Nat)(X:Nat→Nat→Int)(w:World)(h:ShSl w w.heap.size v n N V L X):
 Calls Tryz.prog 138 #[planV nd of sz,v] w fun e w'=>e=.returned (.int .i64 (checksE nd of sz n N L X))∧Below w.heap.size w w':=by
 have hbx:=below_alloc w (.cells #[.int .i64 nd,.int .i64 of,.int .i64 sz] 59)
 have HC:=hid (shCheck nd of sz (w.alloc (.cells #[.int .i64 nd,.int .i64 of,.int .i64 sz] 59)))
 have HS:=hid h
 have HBx:=hid hbx
 obtain⟨ad,cap,rfl,⟨hcap,hbig⟩,hx⟩:=h
 obtain⟨ans,hans⟩:∃a,checksE nd of sz n N L X=a:=⟨_,rfl⟩
 rw[hans]
 unfold checksE at hans
 clear hbx
 by_cases hp:planOk nd of sz=true
 ·have e:chkP nd of sz=0:=by unfold chkP;rw[if_pos hp]
  rw[e]at HC;rw[if_pos hp]at hans;obtain⟨hnd,hof,hsz⟩:=planOk_spec hp;clear hp e;have hmm:=@run_makeMap Tryz.prog;unfold planV;go_enter Tryz.func138,Tryz.ntmps138;go_wp2_with fail
  refine HC.out.mono ?_;rintro e w1 ⟨rfl,hb1⟩;have p0:w1.cell? ⟨w.heap.size,0,none⟩=some (.int .i64 nd):=by rw[hb1.cell (by simp)];exact cell_at (heap_alloc_new _ _) rfl
  have p1:w1.cell? ⟨w.heap.size,1,none⟩=some (.int .i64 of):=by rw[hb1.cell (by simp)];exact cell_at (heap_alloc_new _ _) rfl
  have p2:w1.cell? ⟨w.heap.size,2,none⟩=some (.int .i64 sz):=by rw[hb1.cell (by simp)];exact cell_at (heap_alloc_new _ _) rfl
  have HB1:=hid (HBx.out.trans (hb1.mono HBx.out.size));have hwl:w.heap.size<w1.heap.size:=cell_lt p0;clear hb1;by_cases hn8:n≤8
  ·rw[if_pos hn8]at hans
   have hn9:((n:Int)≤8):=by omega
   have HA:=hid hans;clear hans;have J0:Hid (SeenM w (w1.alloc (.map #[] 0)) w1.heap.size nd of sz N 0):=by
    have hb:Below w1.heap.size w1 (w1.alloc (.map #[] 0)):=(Below.refl _ _).alloc (Nat.le_refl _) _;exact⟨HB1.out.trans (hb.mono HB1.out.size),hwl,by rw[hb.cell (cell_lt p0)];exact p0,by rw[hb.cell (cell_lt p1)];exact p1,by rw[hb.cell (cell_lt p2)];exact p2,World.ownsMap_made _ _ _ _⟩
   clear p0 p1 p2;go_wp2;go_loopw [21] (fun iv wr=>∃j:Nat,j≤n∧iv=.int .i64 j∧Hid (SeenM w wr w1.heap.size nd of sz N j)∧Hid (scanS nd of sz N L X (n-j) j=scanS nd of sz N L X n 0)) (fun iv _=>n-(intOf iv).toNat)
   case atStart=>exact⟨0,Nat.zero_le _,rfl,J0,rfl⟩
   case round =>
    obtain⟨j,hj,rfl,J,SC⟩:=hrel;generalize w1.heap.size=A at *;by_cases hlt:j<n
    ·have hji:(j:Int)<(n:Int):=by omega
     have hx5:∃b off,ad=some ⟨b,off,none⟩∧b<w.heap.size∧(w.cell? ⟨b,off+j*2,none⟩=some (.int .i64 (N j))∧w.cell? ⟨b,off+j*2+1,none⟩=some (V j)∧IntSl w w.heap.size (V j) (L j) (X j)):=by
      rcases hx with h0|⟨b,off,rfl,hb,h5⟩;·omega
      exact⟨b,off,rfl,hb,h5 j hlt⟩
     obtain⟨b,off,rfl,hb,x1,x2,x3⟩:=hx5;have HI3:Hid (∀w',Below w.heap.size w w'→IntSl w' w'.heap.size (V j) (L j) (X j)):=fun w' hb'=>x3.up hb';obtain⟨av,cv,hve,_,_⟩:=x3;rw[hve]at HI3;have g1:wr.cell? ⟨b,off+j*2,none⟩=some (.int .i64 (N j)):=by rw[J.out.below.cell hb];exact x1
     have g2:wr.cell? ⟨b,off+j*2+1,none⟩=some (.slice av (L j) cv):=by rw[J.out.below.cell hb,x2,hve]
     have q0:=J.out.p0;have q1:=J.out.p1;have q2:=J.out.p2;have lp:w.heap.size<wr.heap.size:=cell_lt q0;obtain⟨W,hW⟩:∃W,wr.alloc (.cells #[.int .i64 (N j),.slice av (L j) cv] 81)=W:=⟨_,rfl⟩;have JA:=J.out.up (below_alloc wr (.cells #[.int .i64 (N j),.slice av (L j) cv] 81));have bx:W.cell? ⟨wr.heap.size,0,none⟩=some (.int .i64 (N j)):=by rw[←hW];exact cell_at (heap_alloc_new _ _) rfl
     have by':W.cell? ⟨wr.heap.size,1,none⟩=some (.slice av (L j) cv):=by rw[←hW];exact cell_at (heap_alloc_new _ _) rfl
     rw[hW]at JA;have q0':=JA.p0;have q1':=JA.p1;have q2':=JA.p2;have HOn:=hid (shOne nd of sz (N j) _ (L j) (X j) W (HI3.out W JA.below));have HJA:=hid JA;have hAl:A<wr.heap.size:=J.out.m.lt;clear x1 x2 hve JA;obtain⟨c,hc⟩:∃c,oneE nd of sz (N j) (L j) (X j)=c:=⟨_,rfl⟩;rw[hc]at HOn;have HCc:=hid hc;clear hc;by_cases hc0:c=0
     ·subst hc0
      obtain⟨_,hwho,_,_⟩:=oneE_who HCc.out;obtain⟨x,hνx⟩:∃x,N j=x:=⟨_,rfl⟩;rw[hνx]at hwho;have hxr:0≤x∧x≤30:=by omega
      have hkey:keyOf Tryz.prog 3 (.int .i64 x)=some (.int .i64 x):=keyOf_int_mk Tryz.underlying3 (WalkArith.wf_i64 (by omega));have HK:=hid hkey;have HN:=hid hνx;have HNe:Hid (some wr.heap.size≠some A):=fun e=>by injection e with e;omega
      clear hνx hwho hkey;go_wp2_with fail
      refine Calls.mono HOn.out ?_;rintro e w2 ⟨rfl,hb2⟩;have J2:=hid (HJA.out.up hb2);have bx2:w2.cell? ⟨wr.heap.size,0,none⟩=some (.int .i64 x):=by rw[hb2.cell (cell_lt bx),←HN.out];exact bx
      have HBX:=hid bx2;have HO2:=hid J2.out.m;clear hb2;cases hd:hasB N j x with
      |true =>
       have h5:=scanS_dup hlt SC.out HCc.out (by rw[HN.out];exact hd);have hA:=HA.out;rw[h5,if_neg (by decide)]at hA;subst hA;clear h5;go_wp2_with(first
        |(at_lookup;refine wpList_lookup_own_int _ rfl _ _ 102 rfl 3 3 .i64 keyed_int Tryz.underlying102 Tryz.underlying3 (zero_int _) A (j+1) _ rfl HO3.out _ _ rfl HK.out ?_;intro c hat hwc;obtain rfl:=look_put (isMap_setX _ N j) hat;clear hat hwc)
        |(at_lookup;refine wpList_lookup_own_int _ rfl _ _ 102 rfl 3 3 .i64 keyed_int Tryz.underlying102 Tryz.underlying3 (zero_int _) A j _ rfl HO2.out _ _ rfl HK.out ?_;intro c hat hwc;obtain rfl:=look_has HN.out hd hat;clear hat hwc)
        |(at_mapUpdate;refine wpList_mapUpdate_own _ rfl _ _ _ 102 rfl 3 3 keyed_int Tryz.underlying102 _ A j _ rfl HO2.out (by unfold maxLen;omega) _ _ _ rfl rfl HK.out _ [] (plainElem_int Tryz.underlying3 (by first|exact wrap64_wf _|exact WalkArith.wf_i64 (by omega))) ?_;intro w3 hown3 hgrow3;have HO3:=hid hown3;have bx3:w3.cell? ⟨wr.heap.size,0,none⟩=some (.int .i64 x):=hgrow3.cell HBX.out HNe.out;have HB3:Hid (Below w.heap.size w w3):=J2.out.below.grown hgrow3 J2.out.below.size (fun g hg=>by cases hg;have:=J2.out.ge;omega);clear hown3 hgrow3))
       go_ret;exact⟨rfl,HB3.out⟩
      |false =>
       go_wp2_with(first
        |(at_lookup;refine wpList_lookup_own_int _ rfl _ _ 102 rfl 3 3 .i64 keyed_int Tryz.underlying102 Tryz.underlying3 (zero_int _) A (j+1) _ rfl HO3.out _ _ rfl HK.out ?_;intro c hat hwc;obtain rfl:=look_put (isMap_setX _ N j) hat;clear hat hwc)
        |(at_lookup;refine wpList_lookup_own_int _ rfl _ _ 102 rfl 3 3 .i64 keyed_int Tryz.underlying102 Tryz.underlying3 (zero_int _) A j _ rfl HO2.out _ _ rfl HK.out ?_;intro c hat hwc;obtain rfl:=look_not HN.out hd hat;clear hat hwc)
        |(at_mapUpdate;refine wpList_mapUpdate_own _ rfl _ _ _ 102 rfl 3 3 keyed_int Tryz.underlying102 _ A j _ rfl HO2.out (by unfold maxLen;omega) _ _ _ rfl rfl HK.out _ [] (plainElem_int Tryz.underlying3 (by first|exact wrap64_wf _|exact WalkArith.wf_i64 (by omega))) ?_;intro w3 hown3 hgrow3;have HO3:=hid hown3;have bx3:w3.cell? ⟨wr.heap.size,0,none⟩=some (.int .i64 x):=hgrow3.cell HBX.out HNe.out;have HG3:=hid hgrow3;clear hown3 hgrow3))
       go_roundw
       case rel=>exact⟨j+1,by omega,by go_num,J2.out.next HN.out HO3.out HG3.out,scanS_next hlt SC.out HCc.out (by rw[HN.out];exact hd)⟩
       case measure=>simp only[intOf];omega
     have hcb:(c != 0)=true:=by simpa using hc0
     have h5:=scanS_bad hlt SC.out (by rw[HCc.out];exact hc0);rw[HCc.out]at h5;have hA:=HA.out;rw[h5,if_neg hc0]at hA;subst hA;clear h5 hc0;go_wp2_with fail
     refine Calls.mono HOn.out ?_;rintro e w2 ⟨rfl,hb2⟩;have J2:=hid (HJA.out.up hb2);clear hb2;go_wp2;go_ret;exact⟨rfl,J2.out.below⟩
    have hje:j=n:=by omega
    subst hje;have h5:=SC.out;rw[Nat.sub_self]at h5;have h6:scanS nd of sz N L X j 0=0:=h5.symm;have hA:=HA.out;rw[if_pos h6]at hA;have q0:=J.out.p0;clear h5 h6;by_cases hle:nd≤(j:Int)
    ·rw[if_pos hle]at hA
     subst hA;go_wp2;go_ret;exact⟨rfl,J.out.below⟩
    rw[if_neg hle]at hA;subst hA;have hle2:(j:Int)<nd:=by omega
    clear hle;go_wp2;go_ret;exact⟨rfl,J.out.below⟩
  rw[if_neg hn8]at hans;subst hans;have hn9:(8:Int)<(n:Int):=by omega
  go_wp2;go_ret;exact⟨rfl,HB1.out⟩
 ·have e:chkP nd of sz=2:=by unfold chkP;rw[if_neg hp]
  rw[e]at HC;rw[if_neg hp]at hans;subst hans;clear hp e;unfold planV;go_enter Tryz.func138,Tryz.ntmps138;go_wp2_with(go_at_call 110;go_must(refine HC.out.mono ?_;rintro e w1 ⟨rfl,hb1⟩;have HB1:=hid (HBx.out.trans (hb1.mono HBx.out.size));clear hb1))
  go_ret;exact⟨rfl,HB1.out⟩
theorem shPoints(d cp r:Nat)(a:Option Addr)(N:Nat→Int)(V:Nat→Value)(L:Nat→Nat)(X:Nat→Nat→Int)(w:World)(hd:1≤d∧d≤8)(hr:r≤100)(hL:∀j,j<d→r<L j)(h:ShSl w w.heap.size (.slice a d cp) d N V L X):
 Calls Tryz.prog 139 #[.slice a d cp,.int .i64 (r:Int)] w fun e w'=>∃vx vy,e=.returned (.tuple #[vx,vy])∧OwnI w w' vx d N∧OwnI w w' vy d (fun j=>X j r):=by
 obtain⟨ad,cap,e,⟨hcap,hbig⟩,hx⟩:=h
 injection e with e3 _ e4
 subst e3 e4
 rcases hx with h0|⟨b,off,rfl,hb,hx⟩
 ·omega
 have HX:=hid hx
 have HL:=hid hL
 obtain⟨ii,hi,hzz0,hzz1,hzz2⟩:=info_parts Tryz.infoInt
 clear hx hL
 go_enter Tryz.func139,Tryz.ntmps139
 go_wp2
 go_loopw [4,5,10] (fun vx vy iv wr=>∃k:Nat,k≤d∧iv=.int .i64 k∧Hid (Two w wr vx vy k N (fun j=>X j r))) (fun _ _ iv _=>d-(intOf iv).toNat)
 case atStart=>exact⟨0,Nat.zero_le _,rfl,Two.nil _ _ _⟩
 case round =>
  obtain⟨k,hk,rfl,TW⟩:=hrel;by_cases hlt:k<d
  ·have hki:(k:Int)<(d:Int):=by omega
   obtain⟨x1,x2,x3⟩:=HX.out k hlt;have hrL:=HL.out k hlt;have hbel:=TW.out.a.2;obtain⟨av,cv,hve,hvc,h5⟩:=x3;rcases h5 with h0|⟨bv,ov,rfl,hbv,h5⟩;·omega
   have g1:wr.cell? ⟨b,off+k*2,none⟩=some (.int .i64 (N k)):=by rw[hbel.cell hb];exact x1
   have g2:wr.cell? ⟨b,off+k*2+1,none⟩=some (.slice (some ⟨bv,ov,none⟩) (L k) cv):=by rw[hbel.cell hb,x2,hve]
   have hri:(r:Int)<(L k:Int):=by omega
   have hLb:((L k:Nat):Int)*8≤140737488351232:=by omega
   have gx:w.cell? ⟨bv,ov+r,none⟩=some (.int .i64 (X k r)):=h5 r hrL;have T2:=hid (TW.out.below (below_alloc wr (.cells #[.int .i64 (N k),.slice (some ⟨bv,ov,none⟩) (L k) cv] 81)));obtain⟨ax,cx,hvx⟩:=TW.out.a.shape;obtain⟨ay,cy,hvy⟩:=TW.out.b.shape;subst hvx hvy;have HF:Hid (∀(w6:World) (o:Obj),((wr.alloc (.cells #[.int .i64 (N k),.slice (some ⟨bv,ov,none⟩) (L k) cv] 81)).alloc o).grownBy w6 (Value.slice ax k cx).ownBlock →
    w6.cell? ⟨wr.heap.size,1,none⟩=some (.slice (some ⟨bv,ov,none⟩) (L k) cv)∧w6.cell? ⟨bv,ov+r,none⟩=some (.int .i64 (X k r))):=fun w6 o hg=>by
    have hl:∀g,(Value.slice ax k cx).ownBlock=some g→w.heap.size≤g∧g<wr.heap.size:=fun g hg=>TW.out.a.1.lt g hg
    have hb1:=below_alloc wr (.cells #[.int .i64 (N k),.slice (some ⟨bv,ov,none⟩) (L k) cv] 81)
    have hb2:=below_alloc (wr.alloc (.cells #[.int .i64 (N k),.slice (some ⟨bv,ov,none⟩) (L k) cv] 81)) o
    have hc:(wr.alloc (.cells #[.int .i64 (N k),.slice (some ⟨bv,ov,none⟩) (L k) cv] 81)).cell? ⟨wr.heap.size,1,none⟩=some (.slice (some ⟨bv,ov,none⟩) (L k) cv):=cell_at (heap_alloc_new wr _) rfl
    refine⟨hg.cell (by rw[hb2.cell (cell_lt hc)];exact hc) (fun e=>?_),hg.cell (v:=.int .i64 (X k r)) ?_ (fun e=>?_)⟩
    ·have:=(hl _ e.symm).2
     exact Nat.lt_irrefl _ this
    ·have h6:wr.cell? ⟨bv,ov+r,none⟩=some (.int .i64 (X k r)):=by rw[hbel.cell hbv];exact gx
     have h7:(wr.alloc (.cells #[.int .i64 (N k),.slice (some ⟨bv,ov,none⟩) (L k) cv] 81)).cell? ⟨bv,ov+r,none⟩=some (.int .i64 (X k r)):=by rw[hb1.cell (cell_lt h6)];exact h6
     rw[hb2.cell (cell_lt h7)];exact h7
    ·have h8:=(hl _ e.symm).1
     have h9:w.heap.size≤bv:=h8;omega
   clear x1 x2 hve h5 gx hbel;go_wp2_with(first
    |(at_builtin;refine wpList_append_own_at _ rfl (.tmp 14) (.tmp 17) 28 rfl w.heap.size 3 ii (.int .i64 0) 1 8 Tryz.underlying28 hi hzz0 hzz1 hzz2 rfl (by decide) _ _ _ rfl (World.ownsRow.alloc T2.out.a.1 _) ⟨_,0,none⟩ 1 1 [.int .i64 (N k)] rfl rfl (fun j u hj=>by rw[Addr.add_lit];match j,hj with|0,hj=>(simp at hj;subst hj;exact cell_at (by have h9:=heap_alloc_new (wr.alloc (.cells #[.int .i64 (N k),.slice (some ⟨bv,ov,none⟩) (L k) cv] 81)) (.cells #[.int .i64 (N k)] 3);simpa using h9) rfl)) (oneCell _) (by unfold maxLen;omega) (by omega) (by have:=T2.out.a.2.size;simp at *;omega) ?_;intro v1 w6 ho6 hg6 _ hat6;obtain⟨c6,d6⟩:=HF.out w6 _ hg6;have TA:=hid (T2.out.after _ ho6 hg6 hat6);clear ho6 hg6 hat6)
    |(at_builtin;(refine wpList_append_own_at _ rfl (.tmp 19) (.tmp 25) 28 rfl w.heap.size 3 ii (.int .i64 0) 1 8 Tryz.underlying28 hi hzz0 hzz1 hzz2 rfl (by decide) _ _ _ rfl (World.ownsRow.alloc TA.out.2.1.1 _) ⟨_,0,none⟩ 1 1 [.int .i64 (X k r)] rfl rfl (newCell _ _ _) (oneCell _) (by unfold maxLen;omega) (by omega) (by have:=TA.out.2.1.2.size;simp;omega) ?_;intro v2 w7 ho7 hg7 _ hat7;have TB:=hid (Two.both TA.out.1 TA.out.2.1 TA.out.2.2 _ ho7 hg7 hat7);clear ho7 hg7 hat7)))
   go_roundw
   case rel =>
    refine⟨k+1,by omega,by go_num,⟨TB.out.a.congr fun j hj=>?_,TB.out.b.congr fun j hj=>?_,TB.out.ne⟩⟩
    ·by_cases e:j=k
     ·rw[if_pos e,e]
     rw[if_neg e]
    by_cases e:j=k;·rw[if_pos e,e]
    rw[if_neg e]
   case measure=>simp only[intOf];omega
  have hke:k=d:=by omega
  subst hke;go_wp2;go_ret2;exact⟨_,_,rfl,TW.out.a,TW.out.b⟩
def fitsB(d m r:Nat)(A B:Nat→Int)(N:Nat→Int)(X:Nat→Nat→Int):Bool:=decide (∀j,j<m→X j r=crv d A B (N j))
theorem shFit(d m cp r bx bz:Nat)(a:Option Addr)(A B:Nat→Int)(N:Nat→Int)(V:Nat→Value)(L:Nat→Nat)(X:Nat→Nat→Int)(w:World)(hm:m≤8)(hr:r≤100)(hL:∀j,j<m→r<L j)(hN:∀j,j<m→0≤N j∧N j≤30)
 (h:ShSl w w.heap.size (.slice a m cp) m N V L X) (hF:AtFn w bx bz d A B) (hG:Good d d A B) :
 Calls Tryz.prog 140 #[.slice a m cp,.int .i64 (r:Int),atF bx bz] w fun e w'=>e=.returned (.bool (fitsB d m r A B N X))∧Below w.heap.size w w':=by
 obtain⟨ans,hans⟩:∃b,fitsB d m r A B N X=b:=⟨_,rfl⟩
 rw[hans]
 obtain⟨ad,cap,e,⟨hcap,hbig⟩,hx⟩:=h
 injection e with e3 _ e4
 subst e3 e4
 have HX:=hid hx
 have HL:=hid hL
 have HN:=hid hN
 have HF:=hid hF
 have HG:=hid hG
 have HA:=hid hans
 unfold atF
 clear hx hL hN hF hG hans
 go_enter Tryz.func140,Tryz.ntmps140
 go_wp2
 go_loopw [11] (fun iv wr=>∃k:Nat,k≤m∧iv=.int .i64 k∧Hid (Below w.heap.size w wr)∧Hid (∀j,j<k→X j r=crv d A B (N j))) (fun iv _=>m-(intOf iv).toNat)
 case atStart=>exact⟨0,Nat.zero_le _,rfl,Below.refl _ _,fun j hj=>absurd hj (Nat.not_lt_zero _)⟩
 case round =>
  obtain⟨k,hk,rfl,HB,HE⟩:=hrel;by_cases hlt:k<m
  ·have hki:(k:Int)<(m:Int):=by omega
   have hx5:∃b off,a=some ⟨b,off,none⟩∧b<w.heap.size∧(w.cell? ⟨b,off+k*2,none⟩=some (.int .i64 (N k))∧w.cell? ⟨b,off+k*2+1,none⟩=some (V k)∧IntSl w w.heap.size (V k) (L k) (X k)):=by
    rcases HX.out with h0|⟨b,off,rfl,hb,h5⟩;·omega
    exact⟨b,off,rfl,hb,h5 k hlt⟩
   obtain⟨b,off,rfl,hb,x1,x2,x3⟩:=hx5;have hrL:=HL.out k hlt;obtain⟨av,cv,hve,hvc,h5⟩:=x3;rcases h5 with h0|⟨bv,ov,rfl,hbv,h5⟩;·omega
   have g1:wr.cell? ⟨b,off+k*2,none⟩=some (.int .i64 (N k)):=by rw[HB.out.cell hb];exact x1
   have g2:wr.cell? ⟨b,off+k*2+1,none⟩=some (.slice (some ⟨bv,ov,none⟩) (L k) cv):=by rw[HB.out.cell hb,x2,hve]
   have gx:wr.cell? ⟨bv,ov+r,none⟩=some (.int .i64 (X k r)):=by rw[HB.out.cell hbv];exact h5 r hrL
   have hri:(r:Int)<(L k:Int):=by omega
   have hLb:((L k:Nat):Int)*8≤140737488351232:=by omega
   have hnk:=HN.out k hlt;have hbA:=below_alloc wr (.cells #[.int .i64 (N k),.slice (some ⟨bv,ov,none⟩) (L k) cv] 81);have m0:(wr.alloc (.cells #[.int .i64 (N k),.slice (some ⟨bv,ov,none⟩) (L k) cv] 81)).cell? ⟨wr.heap.size,0,none⟩=some (.int .i64 (N k)):=cell_at (heap_alloc_new wr _) rfl;have m1:(wr.alloc (.cells #[.int .i64 (N k),.slice (some ⟨bv,ov,none⟩) (L k) cv] 81)).cell? ⟨wr.heap.size,1,none⟩=some (.slice (some ⟨bv,ov,none⟩) (L k) cv):=cell_at (heap_alloc_new wr _) rfl;have m2:(wr.alloc (.cells #[.int .i64 (N k),.slice (some ⟨bv,ov,none⟩) (L k) cv] 81)).cell? ⟨bv,ov+r,none⟩=some (.int .i64 (X k r)):=by rw[hbA.cell (cell_lt gx)];exact gx
   obtain⟨W,hW⟩:∃W,wr.alloc (.cells #[.int .i64 (N k),.slice (some ⟨bv,ov,none⟩) (L k) cv] 81)=W:=⟨_,rfl⟩;rw[hW]at hbA m0 m1 m2;have HBW:=hid (HB.out.trans (hbA.mono HB.out.size));have hne:Nonempty (Of (Below W.heap.size W)):=⟨⟨W,Below.refl _ _⟩⟩;have E0:∀u:Of (Below W.heap.size W),u.val.cell? ⟨wr.heap.size,0,none⟩=some (.int .i64 (N k)):=fun u=>by rw[u.is.cell (cell_lt m0)];exact m0
   have E1:∀u:Of (Below W.heap.size W),u.val.cell? ⟨wr.heap.size,1,none⟩=some (.slice (some ⟨bv,ov,none⟩) (L k) cv):=fun u=>by rw[u.is.cell (cell_lt m1)];exact m1
   have E2:∀u:Of (Below W.heap.size W),u.val.cell? ⟨bv,ov+r,none⟩=some (.int .i64 (X k r)):=fun u=>by rw[u.is.cell (cell_lt m2)];exact m2
   have HD1:Hid (Below W.heap.size W W.drew):=⟨rfl,rfl,rfl,Nat.le_refl _,fun _ _=>rfl⟩;clear x1 x2 hve h5 gx hbA;go_wp2_with fail
   refine region_mixed (Below W.heap.size W) [([0,1,2,3,4,5,6,7],8)] [9] (by kernel_rfl) (by kernel_rfl) HD1.out ?_;refine mixO_cons ?_;repeat(go_big_quiet_step (fail))
   refine wpQuiet_nil ?_;intro K hK;go_wp2_with fail
   refine Calls.mono (shAt bx bz d A B (N k) _ ((HF.out.up HBW.out).up HD1.out) HG.out hnk) ?_;rintro e w9 ⟨rfl,hb9⟩;have HB9:=hid (HD1.out.trans (hb9.mono HD1.out.size));clear hb9;obtain⟨x,hx⟩:∃x,crv d A B (N k)=x:=⟨_,rfl⟩;obtain⟨y,hy⟩:∃y,X k r=y:=⟨_,rfl⟩;rw[hx];have HXx:=hid hx;have HYy:=hid hy;clear hx;go_wp2;refine⟨rfl,hK _ _ HB9.out ?_⟩;clear hK K;refine mixO_nil ?_;clear hy;by_cases hxy:y=x
   ·have hb:(y != x)=false:=by simpa using hxy
    have HEq:=hid hxy;clear hxy;repeat(go_big_quiet_step (fail))
    refine wpQuiet_nil ?_;go_wp2;go_roundw
    case rel =>
     refine⟨k+1,by omega,by go_num,HBW.out.trans (HB9.out.mono HBW.out.size),fun j hj=>?_⟩;by_cases e:j=k;·rw[e,HYy.out,HXx.out,HEq.out]
     exact HE.out j (by omega)
    case measure=>simp only[intOf];omega
   have hb:(y != x)=true:=by simpa using hxy
   have hA:=HA.out;unfold fitsB at hA;rw[decide_eq_false (fun h=>hxy (by rw[←HYy.out,←HXx.out];exact h k hlt))]at hA;subst hA;clear hxy;repeat(go_big_quiet_step (fail))
   refine wpQuiet_nil ?_;go_wp2;go_ret;exact⟨rfl,HBW.out.trans (HB9.out.mono HBW.out.size)⟩
  have hke:k=m:=by omega
  subst hke;have hA:=HA.out;unfold fitsB at hA;rw[decide_eq_true HE.out]at hA;subst hA;go_wp2;go_ret;exact⟨rfl,HB.out⟩
end Go.Proofs.YtajmnlhfnhbleaaGreat
