/- Several texts of one proof, in their order. -/
import Derived.Test.YtajmnlhfnhbleaaGreatSSum14
namespace Go.Proofs.YtajmnlhfnhbleaaGreat
open Go.RowKit CurveMath
set_option linter.unusedVariables false
set_option maxHeartbeats 2000000
set_option maxRecDepth 10000
section
theorem IntSl.grownG{w w':World}{v:Value}{n g:Nat}{X:Nat→Int}(h:IntSl w w.heap.size v n X)(hg:w.grownBy w' (some g))(ho:v.ownBlock≠some g):IntSl w' w'.heap.size v n X:=by
 obtain⟨ad,cap,rfl,h0,h2⟩:=h;refine⟨ad,cap,rfl,h0,?_⟩;rcases h2 with h2|⟨b,off,rfl,h4,h5⟩;·exact Or.inl h2
 exact Or.inr ⟨b,off,rfl,Nat.lt_of_lt_of_le h4 hg.size,fun j hj=>hg.cell (h5 j hj) ho⟩
theorem AtFn.grown{w w':World}{bx bz n g:Nat}{X Y:Nat→Int}(h:AtFn w bx bz n X Y)(ho:AtOff g w bx bz)(hg:w.grownBy w' (some g)):AtFn w' bx bz n X Y:=by
 obtain⟨⟨a1,c1,e1,h1⟩,a2,c2,e2,h2⟩:=h;exact⟨⟨a1,c1,hg.cell e1 (fun e=>ho.x (by injection e)),h1.grownG hg (ho.vx _ e1)⟩,a2,c2,hg.cell e2 (fun e=>ho.z (by injection e)),h2.grownG hg (ho.vz _ e2)⟩
theorem AtOff.grown{w w':World}{bx bz n g:Nat}{X Y:Nat→Int}(h:AtOff g w bx bz)(hf:AtFn w bx bz n X Y)(hg:w.grownBy w' (some g)):AtOff g w' bx bz:=by
 obtain⟨⟨a1,c1,e1,_⟩,a2,c2,e2,_⟩:=hf;refine⟨h.x,h.z,fun v hv=>h.vx v ?_,fun v hv=>h.vz v ?_⟩
 ·have:=hg.cell e1 (fun e=>h.x (by injection e))
  rw[this]at hv;rw[e1];exact hv
 have:=hg.cell e2 (fun e=>h.z (by injection e));rw[this]at hv;rw[e2];exact hv
structure JoInv(w wr:World)(d m s g k cap:Nat)(C:Nat→Int):Prop where
 below:Below w.heap.size w wr
 p0:wr.cell? ⟨w.heap.size,0,none⟩=some (.int .i64 (d:Int))
 p1:wr.cell? ⟨w.heap.size,1,none⟩=some (.int .i64 (m:Int))
 p2:wr.cell? ⟨w.heap.size,2,none⟩=some (.int .i64 (s:Int))
 og:w.heap.size<g
 own:wr.ownsRow g 3 1 (.slice (some ⟨g,0,none⟩) k cap) k ((List.range k).map fun j=>Value.int .i64 (C j))
section
variable {w wr w' : World} {d m s g k cap : Nat} {C : Nat → Int}
theorem JoInv.up(h:JoInv w wr d m s g k cap C)(hb:Below wr.heap.size wr w'):JoInv w w' d m s g k cap C :=
 ⟨h.below.trans (hb.mono h.below.size),by rw[hb.cell (cell_lt h.p0)];exact h.p0,by rw[hb.cell (cell_lt h.p1)];exact h.p1,by rw[hb.cell (cell_lt h.p2)];exact h.p2,h.og,owns_below h.own hb⟩
theorem JoInv.push{x:Int}(h:JoInv w wr d m s g k cap C)(ho:w'.ownsRow g 3 1 (.slice (some ⟨g,0,none⟩) (k+1) cap) (k+1) (((List.range k).map fun j=>Value.int .i64 (C j))++[.int .i64 x]))(hg:wr.grownBy w' (some g))(hx:C k=x):JoInv w w' d m s g (k+1) cap C:=by
 have hog:=h.og;have hne:some w.heap.size≠some g:=by intro e;injection e with e;omega
 refine⟨h.below.grown hg h.below.size (fun i hi=>by injection hi with hi;omega),hg.cell h.p0 hne,hg.cell h.p1 hne,hg.cell h.p2 hne,h.og,?_⟩;have e:((List.range (k+1)).map fun j=>Value.int .i64 (C j))=((List.range k).map fun j=>Value.int .i64 (C j))++[.int .i64 x]:=by
  rw[List.range_succ,List.map_append];simp only[List.map_cons,List.map_nil,hx]
 rw[e];exact ho
theorem JoInv.cells(h:JoInv w wr d m s g k cap C)(j:Nat)(hj:j<k):wr.cell? ⟨g,j,none⟩=some (.int .i64 (C j)):=by
 obtain⟨hl,h2⟩:=h.own;rcases h2 with⟨h1,_⟩|⟨g',cap',cur,hv,_,hh,hc1,hc2,hsz,hcur⟩;·cases h1
 injection hv with e1 _ e3;injection e1 with e1;injection e1 with e1;subst e1;have h3:((List.range k).map fun j=>Value.int .i64 (C j))[j]?=some (.int .i64 (C j)):=by simp[hj]
 rw[←hcur,List.getElem?_take,if_pos (by omega)]at h3;exact cell_at hh (by simpa using h3)
end
theorem torn_fit{d s R n r:Nat}{N:Nat→Int}{X:Nat→Nat→Int}(hr:r<R)(h:fitsB d (n-d) r N (fun i=>X i r) (fun j=>N (d+j)) (fun j=>X (d+j))=false):tornB d s R n N X=true:=by
 unfold tornB;have hne:decide (∀r,r<R→∀j,j<n→crv d N (fun i=>X i r) (N j)=X j r)=false:=by
  refine decide_eq_false fun hall=>?_;have h2:=of_decide_eq_false h;exact h2 fun j hj=>(hall r hr (d+j) (by omega)).symm
 rw[hne];rfl
theorem torn_not{d m s R n:Nat}{N:Nat→Int}{L:Nat→Nat}{X:Nat→Nat→Int}(hS:Shares d m s R n N L X)(hm:madeB d s R N X=true)(hf:∀r,r<R→fitsB d (n-d) r N (fun i=>X i r) (fun j=>N (d+j)) (fun j=>X (d+j))=true):tornB d s R n N X=false:=by
 refine torn_iff hm fun j hj=>decide_eq_true fun r hr=>?_;by_cases hjd:j<d;·exact crv_own (hS.good r hr) j hjd
 have h1:X (d+(j-d)) r=crv d N (fun i=>X i r) (N (d+(j-d))):=(of_decide_eq_true (hf r hr)) (j-d) (by omega);have e:d+(j-d)=j:=by omega
 rw[e]at h1;exact h1.symm
theorem ShSl.drop{w:World}{B b off cap n d:Nat}{N:Nat→Int}{V:Nat→Value}{L:Nat→Nat}{X:Nat→Nat→Int}(h:ShSl w B (.slice (some ⟨b,off,none⟩) n cap) n N V L X)(hd:d≤n):ShSl w B (.slice (some ⟨b,off+d*2,none⟩) (n-d) (cap-d)) (n-d) (fun j=>N (d+j)) (fun j=>V (d+j)) (fun j=>L (d+j)) (fun j=>X (d+j)):=by
 obtain⟨ad,cp,e,h0,hh⟩:=h;injection e with e1 _ e3;subst e1 e3;refine⟨_,cap-d,rfl,⟨by omega,by omega⟩,?_⟩;rcases hh with hh|⟨b',off',e,h4,h5⟩;·exact Or.inl (by omega)
 injection e with e;injection e with e1 e2;subst e1 e2;refine Or.inr ⟨b,_,rfl,h4,fun j hj=>?_⟩;have h6:=h5 (d+j) (by omega);have e1:off+(d+j)*2=off+d*2+j*2:=by omega
 rw[e1]at h6;exact h6
end
theorem join_no(nd of sz:Int)(v:Value)(n:Nat)(N:Nat→Int)(V:Nat→Value)(L:Nat→Nat)(X:Nat→Nat→Int)(w:World)(hc:¬checksE nd of sz n N L X=0)(h:ShSl w w.heap.size v n N V L X):
 Calls Tryz.prog 104 #[planV nd of sz,v] w fun e w'=>e=.returned (.tuple #[.slice none 0 0,.int .i64 (checksE nd of sz n N L X)])∧Below w.heap.size w w':=by
 have hbx:=below_alloc w (.cells #[.int .i64 nd,.int .i64 of,.int .i64 sz] 59)
 have HC:=hid (shEnough nd of sz v n N V L X _ (h.up hbx))
 have HBx:=hid hbx
 obtain⟨a,c,rfl,_,_⟩:=h
 generalize checksE nd of sz n N L X=ec at *
 have hb:(ec != 0)=true:=by simpa using hc
 clear hbx hc
 unfold planV
 go_enter Tryz.func104,Tryz.ntmps104
 go_wp2_with fail
 refine HC.out.mono ?_
 rintro e w1 ⟨rfl,hb1⟩
 have HB1:=hid (HBx.out.trans (hb1.mono HBx.out.size))
 clear hb1
 go_wp2
 go_ret2
 exact⟨rfl,HB1.out⟩
theorem join_good(d m s R n:Nat)(a:Option Addr)(cp:Nat)(N:Nat→Int)(V:Nat→Value)(L:Nat→Nat)(X:Nat→Nat→Int)(w:World)(hS:Shares d m s R n N L X)(hc:checksE (d:Int) (m:Int) (s:Int) n N L X=0)
 (h:ShSl w w.heap.size (.slice a n cp) n N V L X) :
 Calls Tryz.prog 104 #[planV (d:Int) (m:Int) (s:Int),.slice a n cp] w fun e w'=>JoinPost w (d:Int) (m:Int) (s:Int) n N L X e w':=by
 obtain⟨hnd,hof,hsz⟩:=planOk_spec hS.plan
 have hrb:=rowsN_bd hnd hsz
 rw[hS.rows]at hrb
 have hRo:=fun w=>shLong (d:Int) (m:Int) (s:Int) w
 have e2:longP (d:Int) (m:Int) (s:Int)=(R:Int):=by unfold longP;rw[if_pos hS.plan,hS.rows]
 rw[e2]at hRo
 have HRo:=hid hRo
 have hdd:1≤d∧d≤4:=by omega
 have hmm:d≤m∧m≤8:=by omega
 have hRR:1≤R∧R≤24:=by omega
 have hss:1≤s∧s≤24:=by omega
 have hsR:s≤R*d∧R*d≤27:=by
  have h1:=hrb.1;have h2:=hrb.2.2.2.2;have h3:((R*d:Nat):Int)=(R:Int)*(d:Int):=by simp
  omega
 have HMul:Hid ((R:Int)*(d:Int)=((R*d:Nat):Int)):=by show _=_;simp
 have hdn:=hS.le
 have HJe:Hid (joinE (d:Int) (m:Int) (s:Int) n N L X=if tornB d s R n N X=true then 9 else 0):=by
  show _=_;rw[joinE_checks,if_pos hc,Int.toNat_natCast,Int.toNat_natCast,hS.rows]
 have hbx:=below_alloc w (.cells #[.int .i64 (d:Int),.int .i64 (m:Int),.int .i64 (s:Int)] 59)
 have HC:=hid (shEnough (d:Int) (m:Int) (s:Int) _ n N V L X _ (h.up hbx))
 rw[hc]at HC
 have HSl:=hid h
 have HS:=hid hS
 have HBx:=hid hbx
 obtain⟨ii,hi,hzz0,hzz1,hzz2⟩:=info_parts Tryz.infoInt
 obtain⟨ad,cap,e,⟨hcap,hbig⟩,hx⟩:=h
 injection e with e3 _ e4
 subst e3 e4
 rcases hx with h0|⟨b,off,rfl,hb,hx⟩
 ·omega
 clear hRo e2 hrb hnd hof hsz hbx hc hS hx
 unfold planV
 go_enter Tryz.func104,Tryz.ntmps104
 go_wp2_with fail
 refine HC.out.mono ?_
 rintro e w1 ⟨rfl,hb1⟩
 have p0:w1.cell? ⟨w.heap.size,0,none⟩=some (.int .i64 (d:Int)):=by rw[hb1.cell (by simp)];exact cell_at (heap_alloc_new _ _) rfl
 have p1:w1.cell? ⟨w.heap.size,1,none⟩=some (.int .i64 (m:Int)):=by rw[hb1.cell (by simp)];exact cell_at (heap_alloc_new _ _) rfl
 have p2:w1.cell? ⟨w.heap.size,2,none⟩=some (.int .i64 (s:Int)):=by rw[hb1.cell (by simp)];exact cell_at (heap_alloc_new _ _) rfl
 have HB1:=hid (HBx.out.trans (hb1.mono HBx.out.size))
 clear hb1
 have KP:Hid (∀w',Below w1.heap.size w1 w'→w'.cell? ⟨w.heap.size,0,none⟩=some (.int .i64 (d:Int))∧w'.cell? ⟨w.heap.size,1,none⟩=some (.int .i64 (m:Int))∧w'.cell? ⟨w.heap.size,2,none⟩=some (.int .i64 (s:Int))):=fun w' hb' =>
  ⟨by rw[hb'.cell (cell_lt p0)];exact p0,by rw[hb'.cell (cell_lt p1)];exact p1,by rw[hb'.cell (cell_lt p2)];exact p2⟩
 have hwl:w.heap.size<w1.heap.size:=cell_lt p0
 go_wp2_with fail
 have hne:Nonempty (Of (Below w1.heap.size w1)):=⟨⟨w1,Below.refl _ _⟩⟩
 have F0:∀u:Of (Below w1.heap.size w1),u.val.cell? ⟨w.heap.size,0,none⟩=some (.int .i64 (d:Int)):=fun u=>(KP.out u.val u.is).1
 have F1:∀u:Of (Below w1.heap.size w1),u.val.cell? ⟨w.heap.size,1,none⟩=some (.int .i64 (m:Int)):=fun u=>(KP.out u.val u.is).2.1
 have F2:∀u:Of (Below w1.heap.size w1),u.val.cell? ⟨w.heap.size,2,none⟩=some (.int .i64 (s:Int)):=fun u=>(KP.out u.val u.is).2.2
 have HD1:Hid (Below w1.heap.size w1 w1.drew):=⟨rfl,rfl,rfl,Nat.le_refl _,fun _ _=>rfl⟩
 refine region_mixed (Below w1.heap.size w1) [([0,2,3],1),([4],5)] [6] (by kernel_rfl) (by kernel_rfl) HD1.out ?_
 refine mixO_cons ?_
 repeat(go_big_quiet_step (fail))
 refine wpQuiet_nil ?_
 intro K hK
 go_wp2_with fail
 refine Calls.mono (HRo.out _) ?_
 rintro e w2 ⟨rfl,hb2⟩
 have HB2:Hid (Below w1.heap.size w1 w2):=HD1.out.trans (hb2.mono HD1.out.size)
 clear hb2
 go_wp2
 refine⟨rfl,hK _ _ HB2.out ?_⟩
 clear hK K
 have hb3:0≤(R:Int)*(d:Int)∧(R:Int)*(d:Int)≤27:=by rw[HMul.out];omega
 refine mixO_cons ?_
 repeat(go_big_quiet_step (fail))
 refine wpQuiet_nil ?_
 intro K hK
 go_wp2_with(at_make;refine wpList_make_own _ rfl (.const (.int .i64 0)) (.tmp 24) 28 rfl w2.heap.size 3 ii (.int .i64 0) 1 Tryz.underlying28 hi hzz0 hzz1 _ _ _ (R*d) rfl rfl HMul.out (by rw[hzz2];omega) (by unfold maxLen;omega) (Nat.le_refl _) ?_;intro w3 ho3 hg3;have HO3:=hid ho3;have HG3:=hid hg3;clear ho3 hg3)
 have HW3:=hid (below_of_grown HG3.out)
 have HB3:Hid (Below w1.heap.size w1 w3):=HB2.out.trans (HW3.out.mono HB2.out.size)
 refine⟨rfl,hK _ _ HB3.out ?_⟩
 clear hK K
 refine mixO_nil ?_
 repeat(go_big_quiet_step (fail))
 refine wpQuiet_nil ?_
 have J3:Hid (JoInv w w3 d m s w2.heap.size 0 (R*d) (joinD d N X)):=by
  obtain⟨r0,r1,r2⟩:=KP.out w3 HB3.out;exact⟨HB1.out.trans (HB3.out.mono HB1.out.size),r0,r1,r2,Nat.lt_of_lt_of_le hwl HB2.out.size,HO3.out⟩
 generalize w2.heap.size=g at *
 clear p0 p1 p2 HO3 HG3 HW3 HB3
 have r0:=J3.out.p0
 have r1:=J3.out.p1
 have r2:=J3.out.p2
 go_wp2_with fail
 refine Calls.mono (HRo.out _) ?_
 rintro e w4 ⟨rfl,hb4⟩
 have J4:=hid (J3.out.up hb4)
 clear hb4 r0 r1 r2
 go_wp2
 go_loopw [7,28] (fun vd iv wr=>∃r:Nat,r≤R∧iv=.int .i64 r∧vd=.slice (some ⟨g,0,none⟩) (r*d) (R*d)∧Hid (JoInv w wr d m s g (r*d) (R*d) (joinD d N X))∧Hid (∀r',r'<r→fitsB d (n-d) r' N (fun i=>X i r') (fun j=>N (d+j)) (fun j=>X (d+j))=true)) (fun _ iv _=>R-(intOf iv).toNat)
 case atStart=>exact⟨0,Nat.zero_le _,rfl,by rw[Nat.zero_mul],by rw[Nat.zero_mul];exact J4,fun r' hr'=>absurd hr' (Nat.not_lt_zero _)⟩
 case round =>
  obtain⟨r,hr,rfl,rfl,J,HFt⟩:=hrel;have r0:=J.out.p0;have r1:=J.out.p1;have r2:=J.out.p2;by_cases hrR:r<R
  ·have hri:(r:Int)<(R:Int):=by omega
   have hdi:(d:Int)≤(n:Int):=by omega
   have hdc:(d:Int)≤(cp:Int):=by omega
   have hrd:r*d+d≤R*d:=by
    have h1:(r+1)*d≤R*d:=Nat.mul_le_mul_right d hrR;rw[Nat.add_mul,Nat.one_mul]at h1;omega
   have HGd:=hid (HS.out.good r hrR);go_wp2_with fail
   refine Calls.mono (shPoints d cp r _ N V L X wr ⟨hdd.1,by omega⟩ (by omega) (fun j hj=>by rw[HS.out.len j (by omega)];exact hrR) ((HSl.out.up J.out.below).take hdn.1)) ?_;rintro e w5 ⟨vx,vy,rfl,ox,oy⟩;have J5:=hid (J.out.up ox.2);have hglt:g<wr.heap.size:=(J.out.own.lt g rfl).2;have HX:=hid ox;have HY:=hid oy;clear ox oy;go_wp2_with fail
   refine Calls.mono (shThrough vx vy d N (fun i=>X i r) w5 (HX.out.isl hdd.1 (by omega)) (HY.out.isl hdd.1 (by omega))) ?_;rintro e w6 ⟨rfl,hb6,hf6,k6x,k6z⟩;have J6:=hid (J5.out.up hb6);have AF:=hid hf6;have AO:Hid (AtOff g w6 w5.heap.size (w5.heap.size+1)):=by
    have h1:=(J5.out.own.lt g rfl).2;refine⟨by omega,by omega,fun v hv e=>?_,fun v hv e=>?_⟩
    ·rw[k6x]at hv
     injection hv with hv;rw[←hv]at e;have:=(HX.out.1.lt g e).1;omega
    rw[k6z]at hv;injection hv with hv;rw[←hv]at e;have:=(HY.out.1.lt g e).1;omega
   generalize w5.heap.size=bx at *;clear hb6 hf6 k6x k6z r0 r1 r2;have r0:=J6.out.p0;have r1:=J6.out.p1;have r2:=J6.out.p2;by_cases hcd:cp=d
   ·have hcd2:d=cp:=hcd.symm
    subst hcd2;have HN0:Hid (n-d=0):=by show _=_;omega
    have HT:Hid (ShSl w6 w6.heap.size (.slice (some ⟨b,off,none⟩) 0 0) 0 (fun j=>N (d+j)) (fun j=>V (d+j)) (fun j=>L (d+j)) (fun j=>X (d+j))):=⟨_,_,rfl,⟨by omega,by omega⟩,Or.inl (by omega)⟩;go_wp2_with fail
    refine Calls.mono (shFit d 0 _ r bx (bx+1) _ N (fun i=>X i r) (fun j=>N (d+j)) (fun j=>V (d+j)) (fun j=>L (d+j)) (fun j=>X (d+j)) w6 (by omega) (by omega) (fun j hj=>by show r<L (d+j);rw[HS.out.len (d+j) (by omega)];exact hrR) (fun j hj=>by show 0≤N (d+j)∧N (d+j)≤30;have:=HS.out.who (d+j) (by omega);omega) HT.out AF.out HGd.out) ?_;rintro e w7 ⟨rfl,hb7⟩;have J7:=hid (J6.out.up hb7);have AF7:=hid (AF.out.up hb7);have AO7:=hid (AO.out.up AF.out hb7);clear hb7 r0 r1 r2;have r0:=J7.out.p0;have r1:=J7.out.p1;have r2:=J7.out.p2;cases hfb:fitsB d 0 r N (fun i=>X i r) (fun j=>N (d+j)) (fun j=>X (d+j))with
    |false =>
     have HFb:Hid (fitsB d (n-d) r N (fun i=>X i r) (fun j=>N (d+j)) (fun j=>X (d+j))=false):=by show _=_;rw[HN0.out];exact hfb
     clear hfb;go_wp2;go_ret2;exact join_err J7.out.below (by rw[HJe.out,if_pos (torn_fit hrR HFb.out)]) (by decide)
    |true =>
     have HFb:Hid (fitsB d (n-d) r N (fun i=>X i r) (fun j=>N (d+j)) (fun j=>X (d+j))=true):=by show _=_;rw[HN0.out];exact hfb
     clear hfb;unfold atF;go_wp2;go_loopw [7,50] (fun vd iv wz=>∃t:Nat,t≤d∧iv=.int .i64 t∧vd=.slice (some ⟨g,0,none⟩) (r*d+t) (R*d)∧Hid (JoInv w wz d m s g (r*d+t) (R*d) (joinD d N X))∧Hid (AtFn wz bx (bx+1) d N (fun i=>X i r))∧Hid (AtOff g wz bx (bx+1))) (fun _ iv _=>d-(intOf iv).toNat)
     case atStart=>exact⟨0,Nat.zero_le _,rfl,rfl,J7,AF7,AO7⟩
     case round =>
      obtain⟨t,ht,rfl,rfl,JT,AFT,AOT⟩:=hrel;by_cases htd:t<d
      ·have hti:(t:Int)<(d:Int):=by omega
       have ht30:0≤(t:Int)∧(t:Int)≤30:=by omega
       go_wp2_with fail
       refine Calls.mono (shAt bx (bx+1) d N (fun i=>X i r) (t:Int) _ AFT.out HGd.out ht30) ?_;rintro e w8 ⟨rfl,hb8⟩;have J8:=hid (JT.out.up hb8);have AF8:=hid (AFT.out.up hb8);have AO8:=hid (AOT.out.up AFT.out hb8);clear hb8;obtain⟨x,hx⟩:∃x,crv d N (fun i=>X i r) (t:Int)=x:=⟨_,rfl⟩;rw[hx];have HXx:Hid (joinD d N X (r*d+t)=x):=by show _=_;rw[joinD_row htd];exact hx
       clear hx;go_wp2_with(at_builtin;go_must(refine wpList_append_fits _ rfl (.tmp 53) (.tmp 57) 28 rfl g 3 ii 1 Tryz.underlying28 hi hzz1 g (r*d+t) (R*d) _ rfl (World.ownsRow.alloc J8.out.own _) ⟨_,0,none⟩ 1 1 [.int .i64 x] rfl rfl (newCell _ _ _) (oneCell _) (by omega) ?_;intro w9 ho9 hg9;have J9:=hid ((J8.out.up (below_alloc w8 (.cells #[.int .i64 x] 3))).push ho9 hg9 HXx.out);have AF9:=hid ((AF8.out.up (below_alloc w8 (.cells #[.int .i64 x] 3))).grown (AO8.out.up AF8.out (below_alloc w8 (.cells #[.int .i64 x] 3))) hg9);have AO9:=hid ((AO8.out.up AF8.out (below_alloc w8 (.cells #[.int .i64 x] 3))).grown (AF8.out.up (below_alloc w8 (.cells #[.int .i64 x] 3))) hg9);clear ho9 hg9))
       go_roundw
       case rel=>exact⟨t+1,by omega,by go_num,rfl,J9,AF9,AO9⟩
       case measure=>simp only[intOf];omega
      have hte:t=d:=by omega
      subst hte;go_wp2;go_roundw
      case rel =>
       have e9:(r+1)*t=r*t+t:=by rw[Nat.add_mul,Nat.one_mul]
       refine⟨r+1,by omega,by go_num,by rw[e9],by rw[e9];exact JT,fun r' hr'=>?_⟩;by_cases e:r'=r;·rw[e];exact HFb.out
       exact HFt.out r' (by omega)
      case measure=>simp only[intOf];omega
   have HT:Hid (ShSl w6 w6.heap.size (.slice (some ⟨b,off+d*2,none⟩) (n-d) (cp-d)) (n-d) (fun j=>N (d+j)) (fun j=>V (d+j)) (fun j=>L (d+j)) (fun j=>X (d+j))):=(HSl.out.up J6.out.below).drop hdn.1;go_wp2_with fail
   refine Calls.mono (shFit d (n-d) _ r bx (bx+1) _ N (fun i=>X i r) (fun j=>N (d+j)) (fun j=>V (d+j)) (fun j=>L (d+j)) (fun j=>X (d+j)) w6 (by omega) (by omega) (fun j hj=>by show r<L (d+j);rw[HS.out.len (d+j) (by omega)];exact hrR) (fun j hj=>by show 0≤N (d+j)∧N (d+j)≤30;have:=HS.out.who (d+j) (by omega);omega) HT.out AF.out HGd.out) ?_;rintro e w7 ⟨rfl,hb7⟩;have J7:=hid (J6.out.up hb7);have AF7:=hid (AF.out.up hb7);have AO7:=hid (AO.out.up AF.out hb7);clear hb7 r0 r1 r2;have r0:=J7.out.p0;have r1:=J7.out.p1;have r2:=J7.out.p2;cases hfb:fitsB d (n-d) r N (fun i=>X i r) (fun j=>N (d+j)) (fun j=>X (d+j))with
   |false =>
    have HFb:Hid (fitsB d (n-d) r N (fun i=>X i r) (fun j=>N (d+j)) (fun j=>X (d+j))=false):=by show _=_;exact hfb
    clear hfb;go_wp2;go_ret2;exact join_err J7.out.below (by rw[HJe.out,if_pos (torn_fit hrR HFb.out)]) (by decide)
   |true =>
    have HFb:Hid (fitsB d (n-d) r N (fun i=>X i r) (fun j=>N (d+j)) (fun j=>X (d+j))=true):=by show _=_;exact hfb
    clear hfb;unfold atF;go_wp2;go_loopw [7,50] (fun vd iv wz=>∃t:Nat,t≤d∧iv=.int .i64 t∧vd=.slice (some ⟨g,0,none⟩) (r*d+t) (R*d)∧Hid (JoInv w wz d m s g (r*d+t) (R*d) (joinD d N X))∧Hid (AtFn wz bx (bx+1) d N (fun i=>X i r))∧Hid (AtOff g wz bx (bx+1))) (fun _ iv _=>d-(intOf iv).toNat)
    case atStart=>exact⟨0,Nat.zero_le _,rfl,rfl,J7,AF7,AO7⟩
    case round =>
     obtain⟨t,ht,rfl,rfl,JT,AFT,AOT⟩:=hrel;by_cases htd:t<d
     ·have hti:(t:Int)<(d:Int):=by omega
      have ht30:0≤(t:Int)∧(t:Int)≤30:=by omega
      go_wp2_with fail
      refine Calls.mono (shAt bx (bx+1) d N (fun i=>X i r) (t:Int) _ AFT.out HGd.out ht30) ?_;rintro e w8 ⟨rfl,hb8⟩;have J8:=hid (JT.out.up hb8);have AF8:=hid (AFT.out.up hb8);have AO8:=hid (AOT.out.up AFT.out hb8);clear hb8;obtain⟨x,hx⟩:∃x,crv d N (fun i=>X i r) (t:Int)=x:=⟨_,rfl⟩;rw[hx];have HXx:Hid (joinD d N X (r*d+t)=x):=by show _=_;rw[joinD_row htd];exact hx
      clear hx;go_wp2_with(at_builtin;go_must(refine wpList_append_fits _ rfl (.tmp 53) (.tmp 57) 28 rfl g 3 ii 1 Tryz.underlying28 hi hzz1 g (r*d+t) (R*d) _ rfl (World.ownsRow.alloc J8.out.own _) ⟨_,0,none⟩ 1 1 [.int .i64 x] rfl rfl (newCell _ _ _) (oneCell _) (by omega) ?_;intro w9 ho9 hg9;have J9:=hid ((J8.out.up (below_alloc w8 (.cells #[.int .i64 x] 3))).push ho9 hg9 HXx.out);have AF9:=hid ((AF8.out.up (below_alloc w8 (.cells #[.int .i64 x] 3))).grown (AO8.out.up AF8.out (below_alloc w8 (.cells #[.int .i64 x] 3))) hg9);have AO9:=hid ((AO8.out.up AF8.out (below_alloc w8 (.cells #[.int .i64 x] 3))).grown (AF8.out.up (below_alloc w8 (.cells #[.int .i64 x] 3))) hg9);clear ho9 hg9))
      go_roundw
      case rel=>exact⟨t+1,by omega,by go_num,rfl,J9,AF9,AO9⟩
      case measure=>simp only[intOf];omega
     have hte:t=d:=by omega
     subst hte;go_wp2;go_roundw
     case rel =>
      have e9:(r+1)*t=r*t+t:=by rw[Nat.add_mul,Nat.one_mul]
      refine⟨r+1,by omega,by go_num,by rw[e9],by rw[e9];exact JT,fun r' hr'=>?_⟩;by_cases e:r'=r;·rw[e];exact HFb.out
      exact HFt.out r' (by omega)
     case measure=>simp only[intOf];omega
  have hre:r=R:=by omega
  subst hre;have HCel:Hid (∀j,j<r*d→wr.cell? ⟨g,j,none⟩=some (.int .i64 (joinD d N X j))):=fun j hj=>J.out.cells j hj;have JWh:Hid (IntSl wr wr.heap.size (.slice (some ⟨g,0,none⟩) (r*d) (r*d)) (r*d) (joinD d N X)):=⟨_,_,rfl,⟨Nat.le_refl _,by omega⟩,Or.inr ⟨g,0,rfl,(J.out.own.lt g rfl).2,fun j hj=>by rw[Nat.zero_add];exact HCel.out j hj⟩⟩;have hsi:(s:Int)≤((r*d:Nat):Int):=by omega
  by_cases hcs:r*d=s
  ·have hmb:madeB d s r N X=true:=decide_eq_true fun j hj=>Or.inl (by omega)
   have HM:=hid hmb;have hz0:r*d-s=0:=by omega
   rw[hcs]at JWh;clear hmb;go_wp2;refine wp_loop_rounds 1 ?_;rw[rounds_succ];go_wp2_with(at_make;refine wpList_make_full _ rfl (.tmp 74) (.tmp 74) 28 rfl _ 3 ii (.int .i64 0) 1 Tryz.underlying28 hi hzz0 hzz1 _ _ _ _ s rfl rfl rfl rfl (by rw[hzz2];omega) (by unfold maxLen;omega) (Nat.le_refl _) ?_;intro w8 ho8 hg8;have hW8:=below_of_grown hg8;have hI8:=JWh.out.up hW8;obtain⟨w9,hrun,hc9,hf9,hb9⟩:=copy_run (cm:=s) (made_block ho8) hI8 (c:=s) (by first|exact(Nat.min_eq_right hsR.1).symm|exact(Nat.min_self s).symm) hss.1;have HB9:=hid (hb9 w.heap.size w ((J.out.up hW8).below) (by have:=J.out.below.size;omega));have HC9:=hid hc9;clear ho8 hg8 hc9 hf9 hb9 hI8 hW8)
   go_ret2;have hje0:joinE (d:Int) (m:Int) (s:Int) n N L X=0:=by rw[HJe.out,if_neg (by rw[torn_not HS.out HM.out HFt.out];decide)]
   refine⟨HB9.out,_,s,by rw[hje0];rfl,by rw[hje0,if_pos rfl],?_⟩;refine⟨_,s,rfl,⟨Nat.le_refl _,by omega⟩,Or.inr ⟨_,0,rfl,cell_lt (HC9.out 0 (by omega)),fun j hj=>?_⟩⟩;rw[Nat.zero_add,HC9.out j hj,Int.toNat_natCast];unfold padD;rw[if_pos hj]
  go_wp2;go_loop [66] (fun iv=>∃i:Nat,i≤r*d-s∧iv=.int .i64 i∧Hid (∀j,s≤j→j<s+i→joinD d N X j=0)) (fun iv=>r*d-s-(intOf iv).toNat)
  case atStart=>exact⟨0,Nat.zero_le _,rfl,fun j h1 h2=>by omega⟩
  case round =>
   obtain⟨i,hi',rfl,HZ⟩:=hrel;by_cases hil:i<r*d-s
   ·have hii:(i:Int)<((r*d-s:Nat):Int):=by omega
    have c0:=HCel.out (s+i) (by omega);obtain⟨x,hx⟩:∃x,joinD d N X (s+i)=x:=⟨_,rfl⟩;rw[hx]at c0;have HXx:=hid hx;clear hx;by_cases hx0:x=0
    ·subst hx0
     go_wp2;go_round
     case rel =>
      refine⟨i+1,by omega,by go_num,fun j h1 h2=>?_⟩;by_cases e:j=s+i;·rw[e];exact HXx.out
      exact HZ.out j h1 (by omega)
     case measure=>simp only[intOf];omega
    have hxb:(x != 0)=true:=by simpa using hx0
    have hmb:madeB d s r N X=false:=decide_eq_false fun h=>by
     rcases h (s+i) (by omega)with h1|h1;·omega
     rw[HXx.out]at h1;exact hx0 h1
    have HM:=hid hmb;clear hmb hx0;go_wp2;go_ret2;exact join_err J.out.below (by rw[HJe.out,if_pos (torn_made HM.out)]) (by decide)
   have hie:i=r*d-s:=by omega
   have hii:((r*d-s:Nat):Int)≤(i:Int):=by omega
   have hzz:∀j,s≤j→j<r*d→joinD d N X j=0:=fun j h1 h2=>HZ.out j h1 (by omega);have hmb:madeB d s r N X=true:=decide_eq_true fun j hj=>by
    by_cases h:j<s;·exact Or.inl h
    exact Or.inr (hzz j (by omega) hj)
   have HM:=hid hmb;clear hmb hzz hie;go_wp2_with(at_make;refine wpList_make_full _ rfl (.tmp 74) (.tmp 74) 28 rfl _ 3 ii (.int .i64 0) 1 Tryz.underlying28 hi hzz0 hzz1 _ _ _ _ s rfl rfl rfl rfl (by rw[hzz2];omega) (by unfold maxLen;omega) (Nat.le_refl _) ?_;intro w8 ho8 hg8;have hW8:=below_of_grown hg8;have hI8:=JWh.out.up hW8;obtain⟨w9,hrun,hc9,hf9,hb9⟩:=copy_run (cm:=s) (made_block ho8) hI8 (c:=s) (by first|exact(Nat.min_eq_right hsR.1).symm|exact(Nat.min_self s).symm) hss.1;have HB9:=hid (hb9 w.heap.size w ((J.out.up hW8).below) (by have:=J.out.below.size;omega));have HC9:=hid hc9;clear ho8 hg8 hc9 hf9 hb9 hI8 hW8)
   go_ret2;have hje0:joinE (d:Int) (m:Int) (s:Int) n N L X=0:=by rw[HJe.out,if_neg (by rw[torn_not HS.out HM.out HFt.out];decide)]
   refine⟨HB9.out,_,s,by rw[hje0];rfl,by rw[hje0,if_pos rfl],?_⟩;refine⟨_,s,rfl,⟨Nat.le_refl _,by omega⟩,Or.inr ⟨_,0,rfl,cell_lt (HC9.out 0 (by omega)),fun j hj=>?_⟩⟩;rw[Nat.zero_add,HC9.out j hj,Int.toNat_natCast];unfold padD;rw[if_pos hj]
theorem shJoin(nd of sz:Int)(v:Value)(n:Nat)(N:Nat→Int)(V:Nat→Value)(L:Nat→Nat)(X:Nat→Nat→Int)(w:World)(h:ShSl w w.heap.size v n N V L X):
 Calls Tryz.prog 104 #[planV nd of sz,v] w fun e w'=>JoinPost w nd of sz n N L X e w':=by
 by_cases hc:checksE nd of sz n N L X=0
 ·obtain⟨d,m,s,R,rfl,rfl,rfl,hS⟩:=checks_ok hc
  have h2:=h;obtain⟨a,c,rfl,_,_⟩:=h;exact join_good d m s R n a c N V L X w hS hc h2
 ·have he:joinE nd of sz n N L X=checksE nd of sz n N L X:=by rw[joinE_checks,if_neg hc]
  refine(join_no nd of sz v n N V L X w hc h).mono ?_;rintro e w' ⟨rfl,hb⟩;exact join_err hb he hc
theorem owes:Owes where
 check:=shCheck
 long:=shLong
 one:=shOne
 same:=shSame
 split:=shSplit
 join:=shJoin
section
structure Kp(b1 b2:Nat)(w w':World):Prop where
 size:w.heap.size≤w'.heap.size
 block:∀k,k<w.heap.size→k≠b1→k≠b2→w'.heap[k]?=w.heap[k]?
theorem Kp.of_below{b1 b2:Nat}{w w':World}(h:Below w.heap.size w w'):Kp b1 b2 w w':=⟨h.size,fun k hk _ _=>h.block k hk⟩
theorem Kp.trans{b1 b2:Nat}{a b c:World}(h:Kp b1 b2 a b)(k:Kp b1 b2 b c):Kp b1 b2 a c :=
 ⟨Nat.le_trans h.size k.size,fun i hi h1 h2=>(k.block i (Nat.lt_of_lt_of_le hi h.size) h1 h2).trans (h.block i hi h1 h2)⟩
theorem Kp.cell{b1 b2:Nat}{w w':World}(h:Kp b1 b2 w w'){p:Addr}(hp:p.block<w.heap.size)(h1:p.block≠b1)(h2:p.block≠b2):w'.cell? p=w.cell? p:=World.cell?_of_block (w:=w) (h.block p.block hp h1 h2)
theorem Kp.set{b1 b2:Nat}{a w:World}(h:Kp b1 b2 a w){p:Addr}(hp:p.block=b1∨p.block=b2)(u:Value):Kp b1 b2 a (w.setCell p u) :=
 ⟨by rw[size_set];exact h.size,fun k hk h1 h2=>by rw[Below.heap_setCell _ _ _ _ (by rcases hp with e|e<;>omega)];exact h.block k hk h1 h2⟩
def Box(w:World)(b:Nat)(v:Value):Prop:=w.heap[b]?=some (.cells #[v] 28 (0,0))∧∃a n c,v=.slice a n c
theorem Box.lt{w:World}{b:Nat}{v:Value}(h:Box w b v):b<w.heap.size:=(Array.getElem?_eq_some_iff.1 h.1).1
theorem Box.cell{w:World}{b:Nat}{v:Value}(h:Box w b v):w.cell? ⟨b,0,none⟩=some v:=cell_at h.1 rfl
theorem Box.free{w:World}{b:Nat}{v:Value}(h:Box w b v):w.frozen? ⟨b,0,none⟩=false:=by simp[World.frozen?,h.1]
theorem Box.up{w w':World}{b:Nat}{v:Value}(h:Box w b v)(hb:Below w.heap.size w w'):Box w' b v:=⟨by rw[hb.block b h.lt];exact h.1,h.2⟩
theorem Box.set{w:World}{b:Nat}{v:Value}(h:Box w b v)(a:Option Addr)(n c:Nat):Box (w.setCell ⟨b,0,none⟩ (.slice a n c)) b (.slice a n c) :=
 ⟨by simp[World.setCell,Array.getElem?_modify,h.1],_,_,_,rfl⟩
theorem Box.other{w:World}{b b':Nat}{v:Value}(h:Box w b v)(hb:b≠b')(u:Value):Box (w.setCell ⟨b',0,none⟩ u) b v:=⟨by rw[Below.heap_setCell _ _ _ _ hb];exact h.1,h.2⟩
theorem IntSl.box{w:World}{B b:Nat}{v u:Value}{n:Nat}{X:Nat→Int}(h:IntSl w B v n X)(hB:Box w b u)(t:Value):IntSl (w.setCell ⟨b,0,none⟩ t) B v n X:=by
 obtain⟨ad,cap,rfl,h0,h2⟩:=h;refine⟨ad,cap,rfl,h0,?_⟩;rcases h2 with h2|⟨g,off,rfl,h4,h5⟩;·exact Or.inl h2
 by_cases hn:n=0;·exact Or.inl hn
 have hb:g≠b:=fun e=>by
  subst e;have h6:=h5 0 (by omega);obtain⟨h7,a,nn,c,rfl⟩:=hB;by_cases ho:off=0
  ·subst ho
   rw[cell_at h7 rfl]at h6;cases h6
  simp[World.cell?,h7,ho]at h6
 exact Or.inr ⟨g,off,rfl,h4,fun j hj=>by rw[World.cell?_setCell_other _ _ _ _ (by intro e;injection e with e1;omega)];exact h5 j hj⟩
def Held(wr:World)(d s R n:Nat)(N:Nat→Int)(X:Nat→Nat→Int)(st:Option (List Nat))(vb vo:Value):Prop :=
 (st=none∧vb=.slice none 0 0∧vo=.slice none 0 0) ∨
 ∃c,st=some c∧IntSl wr wr.heap.size vb s (conD d N X c)∧IntSl wr wr.heap.size vo (badL d s R n N X (conD d N X c)).length (fun j=>(srt (badL d s R n N X (conD d N X c))).getD j 0)
theorem Held.up{wr w':World}{d s R n:Nat}{N:Nat→Int}{X:Nat→Nat→Int}{st:Option (List Nat)}{vb vo:Value}(h:Held wr d s R n N X st vb vo)(hb:Below wr.heap.size wr w'):Held w' d s R n N X st vb vo:=by
 rcases h with h|⟨c,h1,h2,h3⟩;·exact Or.inl h
 exact Or.inr ⟨c,h1,h2.up hb,h3.up hb⟩
structure VInv(w wr:World)(d m s R n:Nat)(N:Nat→Int)(X:Nat→Nat→Int)(lv:Value)(bb:Nat)(st:Option (List Nat)):Prop where
 below:Below w.heap.size w wr
 p0:wr.cell? ⟨w.heap.size,0,none⟩=some (.int .i64 (d:Int))
 p1:wr.cell? ⟨w.heap.size,1,none⟩=some (.int .i64 (m:Int))
 p2:wr.cell? ⟨w.heap.size,2,none⟩=some (.int .i64 (s:Int))
 l:wr.cell? ⟨w.heap.size+1,0,none⟩=some lv
 lo:w.heap.size+1<bb
 held:∃vb vo,Box wr bb vb∧Box wr (bb+1) vo∧Held wr d s R n N X st vb vo
section
variable {w wr w' : World} {d m s R n : Nat} {N : Nat → Int} {X : Nat → Nat → Int} {lv : Value} {bb : Nat} {st : Option (List Nat)}
theorem VInv.up(h:VInv w wr d m s R n N X lv bb st)(hb:Below wr.heap.size wr w'):VInv w w' d m s R n N X lv bb st:=by
 obtain⟨vb,vo,h1,h2,h3⟩:=h.held;exact⟨h.below.trans (hb.mono h.below.size),by rw[hb.cell (cell_lt h.p0)];exact h.p0,by rw[hb.cell (cell_lt h.p1)];exact h.p1,by rw[hb.cell (cell_lt h.p2)];exact h.p2,by rw[hb.cell (cell_lt h.l)];exact h.l,h.lo,vb,vo,h1.up hb,h2.up hb,h3.up hb⟩
theorem VInv.put(h:VInv w wr d m s R n N X lv bb st){c:List Nat}{a1 a2:Option Addr}{n1 n2 c1 c2:Nat}(g1:IntSl wr wr.heap.size (.slice a1 n1 c1) s (conD d N X c))
 (g2:IntSl wr wr.heap.size (.slice a2 n2 c2) (badL d s R n N X (conD d N X c)).length (fun j=>(srt (badL d s R n N X (conD d N X c))).getD j 0)) :
 VInv w ((wr.setCell ⟨bb,0,none⟩ (.slice a1 n1 c1)).setCell ⟨bb+1,0,none⟩ (.slice a2 n2 c2)) d m s R n N X lv bb (some c)∧Kp bb (bb+1) wr ((wr.setCell ⟨bb,0,none⟩ (.slice a1 n1 c1)).setCell ⟨bb+1,0,none⟩ (.slice a2 n2 c2)):=by
 obtain⟨vb,vo,h1,h2,-⟩:=h.held
 have hlo:=h.lo
 have hk:Kp bb (bb+1) wr ((wr.setCell ⟨bb,0,none⟩ (.slice a1 n1 c1)).setCell ⟨bb+1,0,none⟩ (.slice a2 n2 c2)) :=
  Kp.set (p:=⟨bb+1,0,none⟩) (Kp.set (p:=⟨bb,0,none⟩) (Kp.of_below (Below.refl _ _)) (Or.inl rfl) _) (Or.inr rfl) _
 have e1:Box (wr.setCell ⟨bb,0,none⟩ (.slice a1 n1 c1)) bb (.slice a1 n1 c1):=h1.set a1 n1 c1
 have e2:Box (wr.setCell ⟨bb,0,none⟩ (.slice a1 n1 c1)) (bb+1) vo:=h2.other (by omega) _
 have sz:((wr.setCell ⟨bb,0,none⟩ (.slice a1 n1 c1)).setCell ⟨bb+1,0,none⟩ (.slice a2 n2 c2)).heap.size=wr.heap.size:=by rw[size_set,size_set]
 refine⟨⟨(h.below.setCell (p:=⟨bb,0,none⟩) (by show w.heap.size≤bb;omega) _).setCell (p:=⟨bb+1,0,none⟩) (by show w.heap.size≤bb+1;omega) _,?_,?_,?_,?_,hlo,_,_,e1.other (by omega) _,e2.set a2 n2 c2,Or.inr ⟨c,rfl,?_,?_⟩⟩,hk⟩
 ·rw[hk.cell (cell_lt h.p0) (by show w.heap.size≠bb;omega) (by show w.heap.size≠bb+1;omega)];exact h.p0
 ·rw[hk.cell (cell_lt h.p1) (by show w.heap.size≠bb;omega) (by show w.heap.size≠bb+1;omega)];exact h.p1
 ·rw[hk.cell (cell_lt h.p2) (by show w.heap.size≠bb;omega) (by show w.heap.size≠bb+1;omega)];exact h.p2
 ·rw[hk.cell (cell_lt h.l) (by show w.heap.size+1≠bb;omega) (by show w.heap.size+1≠bb+1;omega)];exact h.l
 ·rw[sz];exact(g1.box h1 _).box e2 _
 ·rw[sz];exact(g2.box h1 _).box e2 _
end
def askF(bp bb:Nat):Value:=.func (.func 106) #[] #[.pointer (some ⟨bp,0,none⟩),.pointer (some ⟨bp+1,0,none⟩),.pointer (some ⟨bb,0,none⟩),.pointer (some ⟨bb+1,0,none⟩)]
def tryF(em:Nat):Value:=.func (.func 141) #[] #[.pointer (some ⟨em,0,none⟩),.pointer (some ⟨em+1,0,none⟩),.pointer (some ⟨em+2,0,none⟩)]
structure EInv(wr:World)(d em bp bb:Nat):Prop where
 m:wr.cell? ⟨em,0,none⟩=some (.int .i64 (d:Int))
 a:wr.cell? ⟨em+1,0,none⟩=some (askF bp bb)
 t:wr.cell? ⟨em+2,0,none⟩=some (tryF em)
 hi:bb+1<em
theorem EInv.keep{wr w':World}{d em bp bb:Nat}(h:EInv wr d em bp bb)(hk:Kp bb (bb+1) wr w'):EInv w' d em bp bb:=by
 have hi:=h.hi;exact⟨by rw[hk.cell (cell_lt h.m) (by show em≠bb;omega) (by show em≠bb+1;omega)];exact h.m,by rw[hk.cell (cell_lt h.a) (by show em+1≠bb;omega) (by show em+1≠bb+1;omega)];exact h.a,
  by rw[hk.cell (cell_lt h.t) (by show em+2≠bb;omega) (by show em+2≠bb+1;omega)];exact h.t,hi⟩
def Cho(wr:World)(lo:Nat)(vc:Value)(c:List Nat)(N:Nat→Int)(V:Nat→Value):Prop :=
 (c=[]∧vc=.slice none 0 0)∨∃g cap,vc=.slice (some ⟨g,0,none⟩) c.length cap∧lo≤g∧g<wr.heap.size∧(1≤c.length∧c.length≤cap) ∧
  ∀j,j<c.length→wr.cell? ⟨g,j*2,none⟩=some (.int .i64 (tak N c j))∧wr.cell? ⟨g,j*2+1,none⟩=some (tak V c j)
theorem Cho.shape{wr:World}{lo:Nat}{vc:Value}{c:List Nat}{N:Nat→Int}{V:Nat→Value}(h:Cho wr lo vc c N V):∃a cap,vc=.slice a c.length cap:=by
 rcases h with⟨rfl,rfl⟩|⟨g,cap,rfl,_⟩;·exact⟨_,_,rfl⟩
 exact⟨_,_,rfl⟩
theorem Cho.keep{wr w':World}{b1 b2 lo:Nat}{vc:Value}{c:List Nat}{N:Nat→Int}{V:Nat→Value}(h:Cho wr lo vc c N V)(hk:Kp b1 b2 wr w')(h1:b1<lo)(h2:b2<lo):Cho w' lo vc c N V:=by
 rcases h with h|⟨g,cap,e,h3,h4,h5,h6⟩;·exact Or.inl h
 refine Or.inr ⟨g,cap,e,h3,Nat.lt_of_lt_of_le h4 hk.size,h5,fun j hj=>?_⟩;obtain⟨g1,g2⟩:=h6 j hj;exact⟨by rw[hk.cell h4 (by show g≠b1;omega) (by show g≠b2;omega)];exact g1,by rw[hk.cell h4 (by show g≠b1;omega) (by show g≠b2;omega)];exact g2⟩
theorem Cho.shl{wr:World}{lo n:Nat}{vc:Value}{c:List Nat}{N:Nat→Int}{V:Nat→Value}{L:Nat→Nat}{X:Nat→Nat→Int}(h:Cho wr lo vc c N V)(hc:Rise n c)(hl:c.length≤8)(hV:∀j,j<n→IntSl wr wr.heap.size (V j) (L j) (X j)):
 ShSl wr wr.heap.size vc c.length (tak N c) (tak V c) (tak L c) (tak X c):=by
 rcases h with⟨rfl,rfl⟩|⟨g,cap,rfl,h3,h4,h5,h6⟩
 ·exact⟨none,0,rfl,⟨Nat.le_refl _,by decide⟩,Or.inl rfl⟩
 ·refine⟨_,cap,rfl,⟨h5.2,by omega⟩,Or.inr ⟨g,0,rfl,h4,fun j hj=>?_⟩⟩
  rw[Nat.zero_add];exact⟨(h6 j hj).1,(h6 j hj).2,hV _ (hc.lt hj)⟩
theorem tak_old{α:Type}(f:Nat→α)(c:List Nat)(i j:Nat)(hj:j<c.length):tak f (c++[i]) j=tak f c j:=by
 unfold tak;rw[List.getD_eq_getElem?_getD,List.getD_eq_getElem?_getD,List.getElem?_append_left hj]
theorem tak_new{α:Type}(f:Nat→α)(c:List Nat)(i:Nat):tak f (c++[i]) c.length=f i:=by
 unfold tak;simp
theorem Cho.of_own{w0 wr:World}{lo i:Nat}{v:Value}{c:List Nat}{N:Nat→Int}{V:Nat→Value}(h:OwnS w0 wr v (c.length+1) (tak N (c++[i])) (tak V (c++[i])))(hlo:lo≤w0.heap.size):Cho wr lo v (c++[i]) N V:=by
 obtain⟨g,cap,cur,rfl,h1,h2,h3,h4,h5,h6⟩:=h.at (by omega);have e:(c++[i]).length=c.length+1:=by simp
 refine Or.inr ⟨g,cap,by rw[e],Nat.le_trans hlo h1,cell_lt (h6 0 (by omega)).1,⟨by omega,by omega⟩,fun j hj=>h6 j (by omega)⟩
theorem OwnS.pushG{w0 wr w1:World}{v v':Value}{k:Nat}{N N':Nat→Int}{V V':Nat→Value}{x:Int}{u:Value}(h:OwnS w0 wr v k N V)
 (ho:w1.ownsRow w0.heap.size 81 2 v' (k+1) (flatS k N V++[.int .i64 x,u])) (hg:wr.grownBy w1 v.ownBlock) (hN:∀j,j<k→N' j=N j∧V' j=V j) (hx:N' k=x) (hu:V' k=u):OwnS w0 w1 v' (k+1) N' V':=by
 refine⟨?_,?_⟩
 ·rw[flatS_succ,hx,hu,flatS_congr (N':=N) (V':=V) hN]
  exact ho
 ·exact h.2.grown hg h.2.size (fun g hgg=>(h.1.lt g hgg).1)
theorem Rise.push{i:Nat}{c:List Nat}(h:Rise i c){j:Nat}(hj:i≤j):Rise (j+1) (c++[j]):=by
 refine⟨List.pairwise_append.2 ⟨h.1,List.pairwise_singleton _ _,fun a ha b hb=>?_⟩,fun x hx=>?_⟩
 ·have:=h.2 a ha
  simp at hb;omega
 rcases List.mem_append.1 hx with hx|hx;·have:=h.2 x hx;omega
 simp at hx;omega
theorem Rise.wide{i j:Nat}{c:List Nat}(h:Rise i c)(hij:i≤j):Rise j c:=⟨h.1,fun x hx=>Nat.lt_of_lt_of_le (h.2 x hx) hij⟩
theorem fold_next{σ:Type}(f:σ→List Nat→σ)(st:σ)(r i k:Nat)(c:List Nat):
 ((comb (r+1) (List.range' i (k+1))).map (c ++ ·)).foldl f st=((comb (r+1) (List.range' (i+1) k)).map (c ++ ·)).foldl f (((comb r (List.range' (i+1) k)).map ((c++[i]) ++ ·)).foldl f st):=by
 rw[List.range'_succ,comb,List.map_append,List.foldl_append,List.map_map]
 have e:(fun x=>c++x)∘(fun x=>i::x)=fun x=>(c++[i])++x:=by funext x;simp
 rw[e]
theorem fold_none{σ:Type}(f:σ→List Nat→σ)(st:σ)(r i:Nat)(c:List Nat):((comb (r+1) (List.range' i 0)).map (c ++ ·)).foldl f st=st:=rfl
theorem fold_all{σ:Type}(f:σ→List Nat→σ)(st:σ)(i k:Nat)(c:List Nat):((comb 0 (List.range' i k)).map (c ++ ·)).foldl f st=f st c:=by
 simp[comb]
end
theorem ask_any{w wr:World}{d m s R n:Nat}{N:Nat→Int}{V:Nat→Value}{L:Nat→Nat}{X:Nat→Nat→Int}{a:Option Addr}{cp bb:Nat}{st:Option (List Nat)}(hS:Shares d m s R n N L X)(h:ShSl w w.heap.size (.slice a n cp) n N V L X)
 (I:VInv w wr d m s R n N X (.slice a n cp) bb st) (c:List Nat) (hc:Rise n c) (hl:c.length=d) (vc:Value) (hv:ShSl wr wr.heap.size vc d (tak N c) (tak V c) (tak L c) (tak X c)) :
 Calls Tryz.prog 106 #[vc,.pointer (some ⟨w.heap.size,0,none⟩),.pointer (some ⟨w.heap.size+1,0,none⟩),.pointer (some ⟨bb,0,none⟩),.pointer (some ⟨bb+1,0,none⟩)] wr fun e w' =>
  e=.returned (.tuple #[])∧VInv w w' d m s R n N X (.slice a n cp) bb (stepV d s R n N X st c)∧Kp bb (bb+1) wr w':=by
 have HSt:=hS.take hc hl
 have hJ:=owes.join (d:Int) (m:Int) (s:Int) vc d (tak N c) (tak V c) (tak L c) (tak X c) wr hv
 rw[HSt.joinE]at hJ
 have e0:madeB d s R (tak N c) (tak X c)=mkB d s R N X c:=rfl
 rw[e0]at hJ
 obtain⟨advc,cvc,hvc,_,_⟩:=hv
 subst hvc
 have q0:=I.p0
 have q1:=I.p1
 have q2:=I.p2
 have ql:=I.l
 have HI:=hid I
 have HS:=hid hS
 have HL:=hid h
 clear HSt hc hl h I hS e0
 have q24:∀(w:World) (a:Option Addr) (n c:Nat),(binOp .eql 28 (.slice a n c) (.slice none 0 0)).run Tryz.prog w=.ok (.bool a.isNone) w:=fun w a n c=>Lib.run_eql_slice_nil w _ _ a n c 0 0 Tryz.underlying28
 cases hm:mkB d s R N X c with
 |false =>
  have hst:stepV d s R n N X st c=st:=by unfold stepV;rw[if_neg (by rw[hm];decide)]
  rw[hst];rw[hm,if_neg (by decide)]at hJ;have HJ:=hid hJ;clear hJ hm hst;go_enter Tryz.func106,Tryz.ntmps106;go_wp2_with fail
  refine HJ.out.mono ?_;rintro e w1 ⟨hb1,r,mm,rfl,-,hr⟩;obtain⟨ar,cr,hre,_,_⟩:=hr;subst hre;have HB1:=hid hb1;clear hb1;go_wp2;refine bodyPost_ret (results_none rfl _ _ _) rfl ?_;exact⟨rfl,HI.out.up HB1.out,Kp.of_below HB1.out⟩
 |true =>
  rw[hm,if_pos rfl]at hJ;have HJ:=hid hJ;have HM:=hid hm;clear hJ hm;go_enter Tryz.func106,Tryz.ntmps106;go_wp2_with fail
  refine HJ.out.mono ?_;rintro e w1 ⟨hb1,r,mm,rfl,hmm,hr⟩;simp only[if_true]at hmm;have hmm':s=mm:=by omega
  subst hmm';rw[Int.toNat_natCast]at hr;have HR:=hid hr;obtain⟨ar,cr,hre,_,hrr⟩:=hr;subst hre;have HB1:=hid hb1;have I1:=hid (HI.out.up hb1);have r0:=I1.out.p0;have r1:=I1.out.p1;have r2:=I1.out.p2;have rl:=I1.out.l;have hsp:1≤s:=by have:=(planOk_spec HS.out.plan).2.2;omega
  have har:ar.isNone=false:=by
   rcases hrr with h0|⟨b,o,rfl,_⟩;·omega
   rfl
  clear hb1 hrr hmm;go_wp2_with fail
  refine Calls.mono (bent_any owes d m s R n _ N V L X _ (conD d N X c) w1 HS.out (HL.out.up I1.out.below) HR.out (fun j _=>by unfold conD joinD;exact crv_num _ _ _ _)) ?_;rintro e w2 ⟨hb2,b,rfl,hob⟩;have hbl:=badL_len d s R n N X (conD d N X c);have hn8:=HS.out.le.2;have HO:=hid (hob.isl (by rw[srt_len];omega));rw[srt_len]at HO;have hsh:=HO.out;obtain⟨ab,cb,hbe,_,_⟩:=hsh;subst hbe;have HB2:=hid (HB1.out.trans (hb2.mono HB1.out.size));have I2:=hid (I1.out.up hb2);have R2:=hid (HR.out.up hb2);clear hb2 hob;obtain⟨vb,vo,B1,B2,Hd⟩:=I2.out.held;have c1:=B1.cell;have c2:=B2.cell;have f1:=B1.free;have f2:=B2.free
  have hP:VInv w ((w2.setCell ⟨bb,0,none⟩ (.slice ar s cr)).setCell ⟨bb+1,0,none⟩ (.slice ab (badL d s R n N X (conD d N X c)).length cb)) d m s R n N X (.slice a n cp) bb (some c)∧Kp bb (bb+1) w2 ((w2.setCell ⟨bb,0,none⟩ (.slice ar s cr)).setCell ⟨bb+1,0,none⟩ (.slice ab (badL d s R n N X (conD d N X c)).length cb)):=I2.out.put R2.out HO.out;have HP:=hid hP;clear hP;rcases Hd with⟨hst,rfl,rfl⟩|⟨b,hst,hb1,hb2⟩
  ·have hs2:stepV d s R n N X st c=some c:=by unfold stepV;rw[if_pos HM.out,hst]
   have HS2:=hid hs2;clear hst hs2;go_wp2;go_end0
   exact⟨rfl,by rw[HS2.out];exact HP.out.1,(Kp.of_below HB2.out).trans HP.out.2⟩
  obtain⟨avb,cvb,hve,_,hvv⟩:=hb1;obtain⟨avo,cvo,hoe,_,_⟩:=hb2;subst hve;subst hoe;have hav:avb.isNone=false:=by
   rcases hvv with h0|⟨b,o,rfl,_⟩;·omega
   rfl
  clear hvv;have HSt:=hid hst;clear hst;by_cases hlt:(badL d s R n N X (conD d N X c)).length<(badL d s R n N X (conD d N X b)).length
  ·have hs2:stepV d s R n N X st c=some c:=by unfold stepV;rw[if_pos HM.out,HSt.out];simp only[hlt,if_true]
   have HS2:=hid hs2;have hli:((badL d s R n N X (conD d N X c)).length:Int)<((badL d s R n N X (conD d N X b)).length:Int):=by omega
   clear hs2;go_wp2;go_end0
   exact⟨rfl,by rw[HS2.out];exact HP.out.1,(Kp.of_below HB2.out).trans HP.out.2⟩
  have hs2:stepV d s R n N X st c=some b:=by unfold stepV;rw[if_pos HM.out,HSt.out];simp only[hlt,if_false]
  have HS2:=hid hs2;have hli:¬((badL d s R n N X (conD d N X c)).length:Int)<((badL d s R n N X (conD d N X b)).length:Int):=by omega
  clear hs2;go_wp2;go_end0
  exact⟨rfl,by rw[HS2.out,←HSt.out];exact I2.out,Kp.of_below HB2.out⟩
end Go.Proofs.YtajmnlhfnhbleaaGreat
