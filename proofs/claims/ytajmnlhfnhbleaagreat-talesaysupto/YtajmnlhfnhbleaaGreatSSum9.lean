/- Several texts of one proof, in their order. -/
import Derived.Test.YtajmnlhfnhbleaaGreatSSum8
import Derived.Sort.OwnSortedInts
namespace Go.Proofs.YtajmnlhfnhbleaaGreat
open Go.RowKit CurveMath
set_option linter.unusedVariables false
set_option maxHeartbeats 2000000
set_option maxRecDepth 10000
section
section
variable {P : Ps} {ver : Int} {R : Nat} {S : Nat → Nat → Int} {k : Nat}
theorem repP_at:(repP P ver R S k).m k=P.m k∧(repP P ver R S k).t k=P.t k:=by
 simp only[repP];rw[if_neg (by simp),if_neg (by simp)];exact⟨rfl,rfl⟩
theorem repP_keep(h:dropK P ver R S k=false):repP P ver R S (k+1)=repP P ver R S k:=by
 have e:∀j,(decide (j<k+1)&&dropK P ver R S j)=(decide (j<k)&&dropK P ver R S j):=fun j=>by
  by_cases ej:j=k;·subst ej;rw[h];simp
  congr 1;exact decide_eq_decide.2 (by omega)
 unfold repP;simp only[e]
theorem repP_drop(h:dropK P ver R S k=true):((repP P ver R S (k+1)).m k=(butL (P.t k) ver (P.m k)).length∧(repP P ver R S (k+1)).t k=selT (P.t k) (butL (P.t k) ver (P.m k)))∧∀j,j≠k→(repP P ver R S (k+1)).m j=(repP P ver R S k).m j∧(repP P ver R S (k+1)).t j=(repP P ver R S k).t j:=by
 refine⟨?_,fun j hj=>?_⟩
 ·simp only[repP]
  rw[if_pos (by rw[h];simp),if_pos (by rw[h];simp)];exact⟨rfl,rfl⟩
 have e:(decide (j<k+1)&&dropK P ver R S j)=(decide (j<k)&&dropK P ver R S j):=by
  congr 1;exact decide_eq_decide.2 (by omega)
 simp only[repP,e];exact⟨trivial,trivial⟩
theorem rep_none(h:hasK P ver k=false):dropK P ver R S k=false∧repS P ver R S (k+1)=repS P ver R S k:=by
 refine⟨by unfold dropK;rw[h,Bool.false_and],?_⟩;simp only[repS];rw[h,Bool.false_and,if_neg (by decide)]
theorem rep_good(h:hasK P ver k=true)(hg:goodK P ver R S k=true)(hs:(repS P ver R S k).contains (numK P ver k)=false):dropK P ver R S k=false∧repS P ver R S (k+1)=repS P ver R S k++[numK P ver k]:=by
 refine⟨by unfold dropK;rw[h,hg,hs];rfl,?_⟩;simp only[repS];rw[h,hg,hs,if_pos (by rfl)]
theorem rep_bad(h:hasK P ver k=true)(hb:(goodK P ver R S k && !(repS P ver R S k).contains (numK P ver k))=false):dropK P ver R S k=true∧repS P ver R S (k+1)=repS P ver R S k:=by
 refine⟨by unfold dropK;rw[h,hb];rfl,?_⟩;simp only[repS];rw[h,hb,if_neg (by decide)]
end
theorem oneE_ok{nd of sz N:Int}{L:Nat}{X:Nat→Int}(h:oneE nd of sz N L X=0):planOk nd of sz=true∧(0≤N∧N<of)∧(L:Int)=rowsN nd sz∧numsB L X=true:=by
 unfold oneE at h;by_cases h1:planOk nd of sz=true
 ·rw[if_pos h1]at h
  by_cases h2:0≤N∧N<of
  ·rw[if_pos h2]at h
   by_cases h3:(L:Int)=rowsN nd sz
   ·rw[if_pos h3]at h
    by_cases h4:numsB L X=true;·exact⟨h1,h2,h3,h4⟩
    rw[if_neg h4]at h;omega
   rw[if_neg h3]at h;omega
  rw[if_neg h2]at h;omega
 rw[if_neg h1]at h;omega
theorem MeshR.num{n:Nat}{b:Bk}{np:Nat}{P:Ps}(h:MeshR n b np P):∀k i,k<np→i<P.m k→0≤(P.t k).N i∧(P.t k).N i<8:=fun k i hk hi=>by
 obtain⟨h1,h2,_,_⟩:=oneE_ok ((h.peer k hk).right i hi).2;have:=(planOk_spec h1).2.1;omega
theorem MeshR.small{n:Nat}{b:Bk}{np:Nat}{P:Ps}(h:MeshR n b np P):∀k,k<np→P.m k≤20:=fun k hk=>by
 have h1:=(h.peer k hk).room_;have h2:=(h.peer k hk).few;omega
theorem verM_ok{n:Nat}{b:Bk}{np:Nat}{P:Ps}{k:Int}(h:verM n b np P k=0):MeshR n b np P∧0≤k∧k<(n:Int):=by
 unfold verM at h;by_cases h1:peersE n b np P=0
 ·rw[if_pos h1]at h
  by_cases h2:0≤k∧k<(n:Int);·exact⟨meshR_of h1,h2⟩
  rw[if_neg h2]at h;omega
 rw[if_neg h1]at h;exact absurd h h1
theorem fstAt_place(X:Nat→Int)(v:Int):∀(m k:Nat),0≤fstAt X v m k→∃i:Nat,fstAt X v m k=(i:Int)∧k≤i∧i<k+m∧X i=v:=by
 intro m;induction m with
 |zero=>intro k h;simp[fstAt]at h
 |succ m ih =>
  intro k h;simp only[fstAt]at h ⊢;by_cases e:v=X k;·rw[if_pos e];exact⟨k,rfl,Nat.le_refl _,by omega,e.symm⟩
  rw[if_neg e]at h ⊢;obtain⟨i,h1,h2,h3,h4⟩:=ih (k+1) h;exact⟨i,h1,by omega,by omega,h4⟩
theorem rsE_ok{n:Nat}{b:Bk}{np:Nat}{P:Ps}{k:Int}(h:rsE n b np P k=0):verM n b np P k=0∧∃d m s:Nat,b.nd k.toNat=d∧b.of k.toNat=m∧b.sz k.toNat=s∧planOk (d:Int) (m:Int) (s:Int)=true:=by
 unfold rsE at h;by_cases h1:verM n b np P k=0
 ·rw[if_pos h1]at h
  refine⟨h1,?_⟩;unfold mostE at h;by_cases h2:checksE (b.nd k.toNat) (b.of k.toNat) (b.sz k.toNat) (thereL P k np).length (nT P (thereL P k np)) (lT P (thereL P k np)) (xT P (thereL P k np))=0
  ·obtain⟨d,m,s,R,e1,e2,e3,hS⟩:=checks_ok h2
   exact⟨d,m,s,e1,e2,e3,hS.plan⟩
  rw[if_neg h2]at h;exact absurd h h2
 rw[if_neg h1]at h;exact absurd h h1
theorem rsD_num(b:Bk)(np:Nat)(P:Ps)(k:Int)(j:Nat):0≤rsD b np P k j∧rsD b np P k j≤30:=crv_num _ _ _ _
theorem split_right{need of:Int}{len:Nat}{D:Nat→Int}(h:splitE need of (len:Int) len D=0){k:Nat}(hk:(k:Int)<of):oneE need of (len:Int) (k:Int) (rowsN need (len:Int)) (fun r=>shv need.toNat len D k r)=0:=by
 obtain⟨h1,_,_⟩:=splitE_ok h;unfold oneE;rw[if_pos h1,if_pos ⟨by omega,hk⟩,if_pos rfl,if_pos];unfold numsB;refine decide_eq_true fun j _=>?_;have:=shv_num need.toNat len D k j;unfold isNum;simp;omega
theorem MeshR.snoc{n:Nat}{b:Bk}{np:Nat}{P:Ps}{lp:Nat}{X:Nat→Int}{nd of sz:Int}(h:MeshR n b np P)(hb:bookE (n+1) (snocB n b lp X nd of sz)=0):MeshR (n+1) (snocB n b lp X nd of sz) np P :=
 ⟨hb,h.few,fun k hk=>(h.peer k hk).snoc hb⟩
theorem PeerR.but{n:Nat}{b:Bk}{room:Int}{m:Nat}{t:Kt}(h:PeerR n b room m t)(ver:Int):PeerR n b room (butL t ver m).length (selT t (butL t ver m)):=by
 have hl:=butL_len t ver m;have hp:(butL t ver m).Pairwise (fun a c:Nat=>a<c):=List.Pairwise.filter _ List.pairwise_lt_range;refine⟨h.book,h.room_,by have:=h.few;omega,fun j hj=>?_,fun i j hij hj=>?_⟩;·exact h.right _ (butL_lt (getD_in hj))
 exact h.rise _ _ (pairwise_getD hp hij hj) (butL_lt (getD_in hj))
theorem MeshR.rep{n:Nat}{b:Bk}{np:Nat}{P:Ps}(h:MeshR n b np P)(ver:Int)(R:Nat)(S:Nat→Nat→Int)(f:Nat):MeshR n b np (repP P ver R S f):=by
 refine⟨h.book,h.few,fun k hk=>?_⟩;simp only[repP];by_cases c:(decide (k<f)&&dropK P ver R S k)=true;·rw[if_pos c,if_pos c];exact(h.peer k hk).but ver
 rw[if_neg c,if_neg c];exact h.peer k hk
def lackK(T:List Int)(f:Nat):List Nat:=(List.range f).filter fun q => !T.contains (q:Int)
theorem lackK_succ(T:List Int)(f:Nat):lackK T (f+1)=lackK T f++(if(!T.contains (f:Int))=true then[f]else[]):=by
 unfold lackK;rw[List.range_succ,List.filter_append,List.filter_cons,List.filter_nil]
theorem lackK_len(T:List Int)(f:Nat):(lackK T f).length≤f:=by
 unfold lackK;refine Nat.le_trans (List.length_filter_le _ _) ?_;simp
theorem lackK_lt{T:List Int}{f q:Nat}(h:q∈lackK T f):q<f:=by
 unfold lackK at h;exact List.mem_range.1 (List.mem_filter.1 h).1
def noB:Bk:=⟨fun _=>0,fun _ _=>0,fun _=>0,fun _=>0,fun _=>0⟩
def newE(len:Nat)(X:Nat→Int):Int:=peersE 0 noB len (freshP X)
end
theorem sort_own{w0 wr:World}{v:Value}{l:List Int}(h:OwnL w0 wr v l)(hk:l.length≤1000):
 Calls Tryz.prog 143 #[v] wr fun e w'=>e=.returned (.tuple #[])∧OwnL w0 w' v (srt l):=by
 obtain⟨⟨hl,h2⟩,hb⟩:=h
 rcases h2 with⟨rfl,h0⟩|⟨g,cap,cur,rfl,hg,hh,hc1,hc2,hsz,hcur⟩
 ·have hl0:l=[]:=List.length_eq_zero_iff.1 h0
  subst hl0;refine(Tryz.slices_Sort_int_none none 0 wr).mono ?_;rintro e w' ⟨rfl,hw⟩;subst hw;have e0:srt []=[]:=by simp[srt]
  rw[e0];exact⟨rfl,World.ownsRow_nil _ _ _ _,hb⟩
 ·rw[Nat.mul_one]at hcur
  refine(Tryz.slices_Sort_int g 0 cap l wr (holds_of_blockI hh hcur) (Array.getElem?_eq_some_iff.1 hh).1 (by omega)).mono ?_;rintro e w' ⟨rfl,n,os,rfl⟩;refine⟨rfl,?_,hb.grown (grownBy_sortedI _) hb.size (fun j hj=>by cases hj;exact hg)⟩;have ho:=ownsRow_sortedI (n:=n) (os:=os) (ss:=l) (ts:=srt l) (srt_len l) hg hh hc1 hc2 hsz;rw[srt_len];exact ho
theorem badL_succ(d s R j:Nat)(N:Nat→Int)(X:Nat→Nat→Int)(D:Nat→Int):badL d s R (j+1) N X D=badL d s R j N X D++(if alB d s R N X D j=true then[]else[N j]):=by
 unfold badL;rw[List.range_succ,List.filter_append,List.map_append];cases h:alB d s R N X D j<;>simp[h]
theorem badL_len(d s R j:Nat)(N:Nat→Int)(X:Nat→Nat→Int)(D:Nat→Int):(badL d s R j N X D).length≤j:=by
 unfold badL;rw[List.length_map];refine Nat.le_trans (List.length_filter_le _ _) ?_;simp
theorem splitE_fit{d m s:Nat}{D:Nat→Int}(hp:planOk (d:Int) (m:Int) (s:Int)=true)(hD:∀j,j<s→0≤D j∧D j≤30):splitE (d:Int) (m:Int) (s:Int) s D=0:=by
 unfold splitE;have h4:numsB s D=true:=decide_eq_true fun j hj=>(isNum_iff _).2 (hD j hj);rw[if_pos hp,if_pos rfl,if_pos h4]
theorem bent_any(O:Owes)(d m s R n:Nat)(v:Value)(N:Nat→Int)(V:Nat→Value)(L:Nat→Nat)(X:Nat→Nat→Int)(vd:Value)(D:Nat→Int)(w:World)(hS:Shares d m s R n N L X)(h:ShSl w w.heap.size v n N V L X)(hd:IntSl w w.heap.size vd s D)(hD:∀j,j<s→0≤D j∧D j≤30):
 Calls Tryz.prog 107 #[planV d m s,v,vd] w fun e w'=>Below w.heap.size w w'∧∃b,e=.returned b∧OwnL w w' b (srt (badL d s R n N X D)):=by
 have hbx:=below_alloc w (.cells #[.int .i64 (d:Int),.int .i64 (m:Int),.int .i64 (s:Int)] 59)
 have HSp:=hid (O.split (d:Int) (m:Int) (s:Int) vd s D _ (hd.up hbx))
 have HSh:=hid hS
 have HBx:=hid hbx
 have HLe:=hid hS.le
 obtain⟨a1,a2,a3⟩:=planOk_spec hS.plan
 have hE:=splitE_fit hS.plan hD
 rw[hE]at HSp
 have hRr:=hS.rows
 rw[hRr]at HSp
 rw[Int.toNat_natCast]at HSp
 obtain⟨ad,cap,rfl,⟨hcap,hbig⟩,hx⟩:=h
 obtain⟨advd,cvd,rfl,_,_⟩:=hd
 obtain⟨ii,hi,hzz0,hzz1,hzz2⟩:=info_parts Tryz.infoInt
 have hn8:=hS.le
 rcases hx with h0|⟨b,off,rfl,hb,hx⟩
 ·omega
 have HXc:=hid hx
 clear hbx hS hE hRr hx hD
 unfold planV
 go_enter Tryz.func107,Tryz.ntmps107
 go_wp2_with fail
 refine HSp.out.mono ?_
 rintro e w1 ⟨hb1,r,mm,Vs,rfl,hmm,hsl,-,-⟩
 simp only[if_true]at hmm
 have hmm':m=mm:=by omega
 subst hmm'
 have HB1:=hid (HBx.out.trans (hb1.mono HBx.out.size))
 obtain⟨adr,capr,rfl,⟨hcapr,_⟩,hxr⟩:=hsl
 rcases hxr with h0|⟨br,offr,rfl,hbr,hxr⟩
 ·omega
 have HXr:=hid hxr
 clear hb1 hxr hmm
 go_wp2
 go_loopw [9,20] (fun vn iv wr=>∃j:Nat,j≤n∧iv=.int .i64 j∧Hid (OwnL w1 wr vn (badL d s R j N X D))) (fun _ iv _=>n-(intOf iv).toNat)
 case atStart=>exact⟨0,Nat.zero_le _,rfl,OwnL.nil _⟩
 case round =>
  obtain⟨j,hj,rfl,OW⟩:=hrel;by_cases hlt:j<n
  ·have hji:(j:Int)<(n:Int):=by omega
   obtain⟨x1,x2,x3⟩:=HXc.out j hlt;have HBr:=hid (HB1.out.trans (OW.out.2.mono HB1.out.size));have HI3:Hid (∀w',Below w.heap.size w w'→IntSl w' w'.heap.size (V j) (L j) (X j)):=fun w' hb'=>x3.up hb';obtain⟨av,cv,hve,_,_⟩:=x3;rw[hve]at HI3;obtain⟨ν,hν⟩:∃ν:Nat,N j=ν:=⟨(N j).toNat,by have:=HSh.out.who j hlt;omega⟩;have hνb:ν<m:=by have:=HSh.out.who j hlt;omega
   have hνi:(ν:Int)<(m:Int):=by omega
   have g1:wr.cell? ⟨b,off+j*2,none⟩=some (.int .i64 (ν:Int)):=by rw[HBr.out.cell hb,←hν];exact x1
   have g2:wr.cell? ⟨b,off+j*2+1,none⟩=some (.slice av (L j) cv):=by rw[HBr.out.cell hb,x2,hve]
   have HN:=hid hν;obtain⟨y1,y2,y3⟩:=HXr.out ν hνb;have HI4:Hid (∀w',Below w1.heap.size w1 w'→IntSl w' w'.heap.size (Vs ν) R (fun i=>shv d s D ν i)):=fun w' hb'=>y3.up hb';obtain⟨av2,cv2,hve2,_,_⟩:=y3;rw[hve2]at HI4 y2;clear x1 x2 hve hν hve2;have hbA:=below_alloc wr (.cells #[.int .i64 (ν:Int),.slice av (L j) cv] 81);obtain⟨W,hW⟩:∃W,wr.alloc (.cells #[.int .i64 (ν:Int),.slice av (L j) cv] 81)=W:=⟨_,rfl⟩;rw[hW]at hbA;have s0:W.cell? ⟨wr.heap.size,0,none⟩=some (.int .i64 (ν:Int)):=by rw[←hW];exact cell_at (heap_alloc_new _ _) rfl
   have s1:W.cell? ⟨wr.heap.size,1,none⟩=some (.slice av (L j) cv):=by rw[←hW];exact cell_at (heap_alloc_new _ _) rfl
   have HB1W:=hid (OW.out.2.trans (hbA.mono OW.out.2.size));have HBwW:=hid (HB1.out.trans (HB1W.out.mono HB1.out.size));have OWA:=hid (OW.out.up hbA);have hne:Nonempty (Of (Below W.heap.size W)):=⟨⟨W,Below.refl _ _⟩⟩;have F3:∀u:Of (Below W.heap.size W),u.val.cell? ⟨wr.heap.size,0,none⟩=some (.int .i64 (ν:Int)):=fun u=>by rw[u.is.cell (cell_lt s0)];exact s0
   have F4:∀u:Of (Below W.heap.size W),u.val.cell? ⟨wr.heap.size,1,none⟩=some (.slice av (L j) cv):=fun u=>by rw[u.is.cell (cell_lt s1)];exact s1
   have F5:∀u:Of (Below W.heap.size W),u.val.cell? ⟨br,offr+ν*2,none⟩=some (.int .i64 (ν:Int)):=fun u=>by rw[(HB1W.out.trans (u.is.mono HB1W.out.size)).cell hbr];exact y1
   have F6:∀u:Of (Below W.heap.size W),u.val.cell? ⟨br,offr+ν*2+1,none⟩=some (.slice av2 R cv2):=fun u=>by rw[(HB1W.out.trans (u.is.mono HB1W.out.size)).cell hbr];exact y2
   clear hbA y1 y2;go_wp2_with fail
   have HDr:Hid (Below W.heap.size W W.drew):=⟨rfl,rfl,rfl,Nat.le_refl _,fun _ _=>rfl⟩;refine region_mixed (Below W.heap.size W) [([0,1,2,3,4,5],6)] [7] (by kernel_rfl) (by kernel_rfl) HDr.out ?_;refine mixO_cons ?_;repeat(go_big_quiet_step (fail))
   refine wpQuiet_nil ?_;intro K hK;go_wp2_with fail
   refine Calls.mono (O.same (ν:Int) (ν:Int) _ _ (L j) R (X j) _ W.drew (HI3.out W.drew (HBwW.out.trans (HDr.out.mono HBwW.out.size))) (HI4.out W.drew (HB1W.out.trans (HDr.out.mono HB1W.out.size)))) ?_;rintro e w4 ⟨rfl,hb4⟩;have HB4:=hid (HDr.out.trans (hb4.mono HDr.out.size));have hsm:=sameB_al HSh.out D j ν hlt HN.out;rw[HN.out]at hsm;rw[hsm];have OW4:=hid (OWA.out.up HB4.out);have hll:=badL_len d s R j N X D;have hsc:=badL_succ d s R j N X D;rw[HN.out]at hsc;have HSc:=hid hsc;clear hb4 hsm hsc;cases hdj:alB d s R N X D j with
   |true =>
    go_wp2;refine⟨rfl,hK _ _ HB4.out ?_⟩;clear hK K;refine mixO_nil ?_;repeat(go_big_quiet_step (fail))
    refine wpQuiet_nil ?_;go_wp2;go_roundw
    case rel =>
     refine⟨j+1,by omega,by go_num,?_⟩;have h9:=HSc.out;rw[if_pos hdj,List.append_nil]at h9;rw[h9];exact OW4.out
    case measure=>simp only[intOf];omega
   |false =>
    go_wp2;refine⟨rfl,hK _ _ HB4.out ?_⟩;clear hK K;refine mixO_nil ?_;repeat(go_big_quiet_step (fail))
    refine wpQuiet_nil ?_;have s4:w4.cell? ⟨wr.heap.size,0,none⟩=some (.int .i64 (ν:Int)):=by rw[HB4.out.cell (cell_lt s0)];exact s0
    have hge:w1.heap.size≤w4.heap.size:=OW4.out.2.size;go_wp2_with(at_builtin;go_must(refine wpList_append_own _ rfl (.tmp 32) (.tmp 35) 28 rfl w1.heap.size 3 ii (.int .i64 0) 1 8 Tryz.underlying28 hi hzz0 hzz1 hzz2 rfl (by decide) _ _ _ rfl (World.ownsRow.alloc OW4.out.1 _) ⟨_,0,none⟩ 1 1 [.int .i64 (ν:Int)] rfl rfl (newCell _ _ _) (oneCell _) (by unfold maxLen;omega) (by omega) (by simp;omega) ?_;intro v1 w6 ho6 hg6 _;have O6:=hid (OW4.out.push ho6 hg6);clear ho6 hg6))
    go_roundw
    case rel =>
     refine⟨j+1,by omega,by go_num,?_⟩;have h9:=HSc.out;rw[if_neg (by rw[hdj];decide)]at h9;rw[h9];exact O6.out
    case measure=>simp only[intOf];omega
  have hje:j=n:=by omega
  subst hje;have hll:=badL_len d s R j N X D;go_wp2_with fail
  refine Calls.mono (sort_own OW.out (by omega)) ?_;rintro e w5 ⟨rfl,h5⟩;have HO5:=hid h5;clear h5;go_wp2;go_ret;refine⟨HB1.out.trans (HO5.out.2.mono HB1.out.size),_,rfl,?_,HB1.out.trans (HO5.out.2.mono HB1.out.size)⟩;exact owns_base HO5.out.1 HB1.out.size
section
theorem comb_rise(m:Nat):∀(k i:Nat) (c:List Nat),c∈comb k (List.range' i m)→c.Pairwise (· < ·)∧(∀x∈c,i≤x∧x<i+m)∧c.length=k:=by
 induction m with
 |zero =>
  intro k i c h;cases k with
  |zero=>simp[comb]at h;subst h;exact⟨List.Pairwise.nil,fun x hx=>(by cases hx),rfl⟩
  |succ k=>simp[comb]at h
 |succ m ih =>
  intro k i c h;cases k with
  |zero=>simp[comb]at h;subst h;exact⟨List.Pairwise.nil,fun x hx=>(by cases hx),rfl⟩
  |succ k =>
   rw[List.range'_succ,comb,List.mem_append]at h;rcases h with h|h
   ·obtain⟨t,ht,rfl⟩:=List.mem_map.1 h
    obtain⟨h1,h2,h3⟩:=ih k (i+1) t ht;refine⟨List.pairwise_cons.2 ⟨fun x hx=>by have:=h2 x hx;omega,h1⟩,fun x hx=>?_,by simp[h3]⟩;rcases List.mem_cons.1 hx with rfl|hx;·omega
    have:=h2 x hx;omega
   obtain⟨h1,h2,h3⟩:=ih (k+1) (i+1) c h;exact⟨h1,fun x hx=>by have:=h2 x hx;omega,h3⟩
theorem comb_mem(m:Nat):∀(k i:Nat) (c:List Nat),c.Pairwise (· < ·)→(∀x∈c,i≤x∧x<i+m)→c.length=k→c∈comb k (List.range' i m):=by
 induction m with
 |zero =>
  intro k i c h1 h2 h3;cases c with
  |nil=>simp at h3;subst h3;simp[comb]
  |cons a c=>have:=h2 a (List.mem_cons_self);omega
 |succ m ih =>
  intro k i c h1 h2 h3;cases c with
  |nil=>simp at h3;subst h3;simp[comb]
  |cons a c =>
   simp at h3;subst h3;rw[List.range'_succ,comb,List.mem_append];obtain⟨g1,g2⟩:=List.pairwise_cons.1 h1;by_cases ha:a=i
   ·subst ha
    refine Or.inl (List.mem_map.2 ⟨c,ih _ (a+1) c g2 (fun x hx=>?_) rfl,rfl⟩);have e1:=g1 x hx;have e2:=h2 x (List.mem_cons_of_mem _ hx);omega
   refine Or.inr (ih _ (i+1) (a::c) h1 (fun x hx=>?_) (by simp));have e2:=h2 x hx;have e3:=h2 a List.mem_cons_self;rcases List.mem_cons.1 hx with rfl|hx';·omega
   have e1:=g1 x hx';omega
section
variable {d m s R n : Nat} {N : Nat → Int} {L : Nat → Nat} {X : Nat → Nat → Int}
theorem comb_good{c:List Nat}(h:c∈comb d (List.range n)):Rise n c∧c.length=d:=by
 rw[List.range_eq_range']at h;obtain⟨h1,h2,h3⟩:=comb_rise n d 0 c h;exact⟨⟨h1,fun x hx=>by have:=h2 x hx;omega⟩,h3⟩
theorem good_comb{c:List Nat}(h:Rise n c)(hl:c.length=d):c∈comb d (List.range n):=by
 rw[List.range_eq_range'];exact comb_mem n d 0 c h.1 (fun x hx=>by have:=h.2 x hx;omega) hl
end
end
theorem anyL_readsO{P:Program}{D:World→Prop}{l lq:List Oper}{md:Region.Mode}{R:Act→World→Prop}{f:Nat}{sE:Array Bool}{w:World}{c:Nat}{q:List Nat}{seen:Array Bool}{a:Act}(hD:D w)(h:wpQuiet P l.toArray (fun w'=>∃u:Of D,w'=u.val) (fun a'=>anyL P md l.toArray D sE R f (seenQ q seen) a' w) lq a)
 (hp:pickO l q=lq:=by simp only[pickO,List.getElem?_cons_zero,List.getElem?_cons_succ];exact rfl) (hs:Region.noSelect l.toArray=true:=by kernel_rfl) (hE:Region.ready md l.toArray sE=[c]:=by kernel_rfl) (hw:waitsB md l.toArray c q=true:=by kernel_rfl) (ho:ordQ md l.toArray q seen=true:=by kernel_rfl)
 (hb:(q.all (fun i=>match l[i]? with|some o=>plainB o|none=>false))=true:=by kernel_rfl):anyL P md l.toArray D sE R (f+q.length) seen a w :=
 anyL_reads hs hE hD q seen a hw ho hb (by rw[hp];exact h)
def snocU(m:Nat)(UV:Nat→Value)(uv:Value):Nat→Value:=fun j=>if j=m then uv else UV j
theorem flatI_congr{UV UV':Nat→Value}{t t':Kt}{l:List Nat}(h:∀i,i∈l→t.V i=t'.V i∧t.N i=t'.N i∧UV i=UV' i):flatI UV t l=flatI UV' t' l:=by
 induction l with
 |nil=>rfl
 |cons a l ih =>
  obtain⟨h1,h2,h3⟩:=h a (by simp);have h4:=ih fun i hi=>h i (by simp[hi]);unfold flatI at h4 ⊢;simp only[List.flatMap_cons];rw[h1,h2,h3,h4]
theorem OwnT.snoc{w0 wr w1:World}{v v':Value}{m:Nat}{UV:Nat→Value}{t:Kt}{ver N:Int}{uv:Value}{L:Nat}{X:Nat→Int}(h:OwnT w0 wr v UV t (List.range m))
 (ho:w1.ownsRow w0.heap.size 83 3 v' (m+1) (flatI UV t (List.range m)++[.int .i64 ver,.int .i64 N,uv])) (hg:wr.grownBy w1 v.ownBlock):OwnT w0 w1 v' (snocU m UV uv) (snocT m t ver N L X) (List.range (m+1)):=by
 refine⟨?_,h.2.grown hg h.2.size (fun g hgg=>(h.1.lt g hgg).1)⟩
 rw[List.length_range,List.range_succ,flatI_snoc]
 have e:flatI (snocU m UV uv) (snocT m t ver N L X) (List.range m)=flatI UV t (List.range m):=flatI_congr fun i hi=>by
  have hne:i≠m:=by have:=List.mem_range.1 hi;omega
  simp[snocU,snocT,hne]
 rw[e]
 simp only[snocU,snocT,if_true]
 exact ho
def RowC(wr:World)(g K:Nat)(UV:Nat→Value)(t:Kt)(l:List Nat):Prop :=
 ∀j,j<K→wr.cell? ⟨g,j*3,none⟩=some (.int .i64 (t.V (l.getD j 0)))∧wr.cell? ⟨g,j*3+1,none⟩=some (.int .i64 (t.N (l.getD j 0)))∧wr.cell? ⟨g,j*3+2,none⟩=some (UV (l.getD j 0))
theorem RowC.keep{wr w':World}{g K:Nat}{UV:Nat→Value}{t:Kt}{l:List Nat}(h:RowC wr g K UV t l)(he:w'.heap[g]?=wr.heap[g]?):RowC w' g K UV t l:=fun j hj=>by
 obtain⟨h1,h2,h3⟩:=h j hj;exact⟨by rw[World.cell?_of_block he];exact h1,by rw[World.cell?_of_block he];exact h2,by rw[World.cell?_of_block he];exact h3⟩
theorem own_row{w0 wr:World}{v:Value}{K:Nat}{UV:Nat→Value}{t:Kt}(h:OwnT w0 wr v UV t (List.range K))(hK:1≤K):
 ∃g cap,v=.slice (some ⟨g,0,none⟩) K cap∧w0.heap.size≤g∧K≤cap∧RowK wr g K UV t (List.range K):=by
 obtain⟨⟨hl,h2⟩,hb⟩:=h
 rw[List.length_range]at h2 hl
 rcases h2 with⟨rfl,h0⟩|⟨g,cap,cur,rfl,hg,hh,hc1,hc2,hsz,hcur⟩
 ·omega
 ·have key:∀i u,i<K*3→(flatI UV t (List.range K))[i]?=some u→wr.cell? ⟨g,i,none⟩=some u:=fun i u hi h3=>by
   rw[←hcur,List.getElem?_take,if_pos hi]at h3;exact cell_at hh (by simpa using h3)
  refine⟨g,cap,rfl,hg,hc1,by simp,fun j hj=>?_,fun i hi=>frozen_at hh,(Array.getElem?_eq_some_iff.1 hh).1⟩;obtain⟨q1,q2,q3⟩:=flatI_get UV t (List.range K) j (by simpa using hj);exact⟨key _ _ (by omega) q1,key _ _ (by omega) q2,key _ _ (by omega) q3⟩
theorem RowK.keep{wr w':World}{g K:Nat}{UV:Nat→Value}{t:Kt}{l:List Nat}(h:RowK wr g K UV t l)(he:w'.heap[g]?=wr.heap[g]?)(hs:wr.heap.size≤w'.heap.size):RowK w' g K UV t l :=
 ⟨h.len,RowC.keep h.cell he,fun i hi=>by rw[←h.free i hi];unfold World.frozen?;simp only[he],Nat.lt_of_lt_of_le h.lt hs⟩
theorem rowC_kel{wr:World}{g K cap:Nat}{UV:Nat→Value}{t:Kt}{l:List Nat}(h:RowC wr g K UV t l)(hl:l.length=K)(hg:g<wr.heap.size)(hc:K≤cap)(hr:K*40≤140737488351232)(hi:∀i,i∈l→IntSl wr wr.heap.size (UV i) (t.L i) (t.X i)):
 KeSl wr wr.heap.size (.slice (some ⟨g,0,none⟩) K cap) K (fun j=>UV (l.getD j 0)) (selT t l):=by
 refine⟨_,cap,rfl,⟨hc,hr⟩,Or.inr ⟨g,0,rfl,hg,fun j hj=>?_⟩⟩
 obtain⟨q1,q2,q3⟩:=h j hj
 rw[Nat.zero_add]
 refine⟨q1,q2,q3,hi _ ?_⟩
 rw[List.getD_eq_getElem?_getD,List.getElem?_eq_getElem (by omega)]
 exact List.getElem_mem (by omega)
theorem snoc_ints{w:World}{v:Value}{m:Nat}{UV:Nat→Value}{t:Kt}{ver N:Int}{uv:Value}{L:Nat}{X:Nat→Int}(hk:KeSl w w.heap.size v m UV t)(hu:IntSl w w.heap.size uv L X){w':World}(hb:Below w.heap.size w w'){l:List Nat}(hl:l.Perm (List.range (m+1))):∀i,i∈l→IntSl w' w'.heap.size (snocU m UV uv i) ((snocT m t ver N L X).L i) ((snocT m t ver N L X).X i):=fun i hi=>by
 have hi2:=List.mem_range.1 (hl.mem_iff.1 hi);by_cases e:i=m;·subst e;simp only[snocU,snocT,if_true];exact hu.up hb
 simp only[snocU,snocT,if_neg e];obtain⟨_,_,_,_,h2⟩:=hk;rcases h2 with h0|⟨_,_,_,_,h5⟩;·omega
 exact(h5 i (by omega)).2.2.2.up hb
theorem snoc_slices{w:World}{v:Value}{m:Nat}{UV:Nat→Value}{t:Kt}{uv:Value}{L:Nat}{X:Nat→Int}(hk:KeSl w w.heap.size v m UV t)(hu:IntSl w w.heap.size uv L X):∀i,i<m+1→∃a n c,snocU m UV uv i=.slice a n c:=fun i hi=>by
 obtain⟨a,c,h,_⟩:=snoc_ints (ver:=0) (N:=0) hk hu (Below.refl _ _) (List.Perm.refl _) i (List.mem_range.2 hi);exact⟨_,_,_,h⟩
def DropsTo(n:Nat)(b:Bk)(th:Bool)(room:Int)(m:Nat)(t:Kt)(ver:Int)(er:Int)(th':Bool)(room':Int)(m':Nat)(t':Kt):Prop :=
 (peerE n b room m t≠0∧er=peerE n b room m t∧th'=false∧room'=0∧m'=0) ∨
 (peerE n b room m t=0∧er=0∧th'=th∧room'=room∧m'=(butL t ver m).length∧t'=selT t (butL t ver m))
section
section
variable {P : Ps} {ver : Int} {k : Nat}
theorem thRow_upto(hr:∀i j,i<j→j<P.m k→(P.t k).V i<(P.t k).V j)(l:List (Nat×Nat)):∀f,f≤P.m k→thRow P ver k l f=if(P.th k&&decide (0≤fstAt (P.t k).V ver f 0) && !seenN P l ((P.t k).N (fstAt (P.t k).V ver f 0).toNat))=true then l++[(k,(fstAt (P.t k).V ver f 0).toNat)]else l:=by
 intro f;induction f with
 |zero=>intro _;simp[thRow_zero,fstAt]
 |succ f ih =>
  intro hf;have e:=fstAt_succ (P.t k).V ver f 0;rw[Nat.zero_add]at e;rw[thRow_succ,ih (by omega)];by_cases c:0≤fstAt (P.t k).V ver f 0
  ·obtain⟨i,h1,_,h2,h3⟩:=fstAt_place _ _ _ _ c
   have hne:(P.t k).V f≠ver:=by have:=hr i f (by omega) (by omega);omega
   rw[if_pos c]at e;rw[e];unfold thStep isTh;rw[decide_eq_false hne,Bool.and_false,Bool.false_and,if_neg (by decide)]
  rw[if_neg c]at e;rw[decide_eq_false c,Bool.and_false,Bool.false_and,if_neg (by decide),e];unfold thStep isTh;by_cases c2:(P.t k).V f=ver;·rw[if_pos c2,decide_eq_true c2,decide_eq_true (by omega:(0:Int)≤(f:Int)),Int.toNat_natCast]
  rw[if_neg c2,decide_eq_false c2,decide_eq_false (by omega),Bool.and_false];simp
theorem thRow_has(hr:∀i j,i<j→j<P.m k→(P.t k).V i<(P.t k).V j)(l:List (Nat×Nat)):thRow P ver k l (P.m k)=if(hasK P ver k && !seenN P l (numK P ver k))=true then l++[(k,atK P ver k)]else l:=thRow_upto hr l _ (Nat.le_refl _)
theorem hasK_at(h:hasK P ver k=true):P.th k=true∧atK P ver k<P.m k∧(P.t k).V (atK P ver k)=ver:=by
 unfold hasK at h;rw[Bool.and_eq_true,decide_eq_true_iff]at h;obtain⟨i,h1,_,h2,h3⟩:=fstAt_place _ _ _ _ h.2;have e:atK P ver k=i:=by unfold atK;rw[h1,Int.toNat_natCast]
 rw[e];exact⟨h.1,by omega,h3⟩
end
section
variable {P : Ps} {ver : Int} {R : Nat} {S : Nat → Nat → Int}
theorem mem_lackL{np of q:Nat}:q∈lackL P ver R S np of↔q<of∧(q:Int)∉repS P ver R S np:=by
 unfold lackL;rw[List.mem_filter,List.mem_range];refine and_congr Iff.rfl ?_;rw[Bool.not_eq_true'];constructor;·intro h hm;rw[List.contains_iff_mem.2 hm]at h;cases h
 intro h;rw[Bool.eq_false_iff];intro hc;exact h (List.contains_iff_mem.1 hc)
end
section
variable {P : Ps} {ver : Int} {R : Nat} {S : Nat → Nat → Int} {np of : Nat}
def gotK(P:Ps)(ver:Int)(R:Nat)(S:Nat→Nat→Int)(np of k:Nat):Int:=fstAt (forA (repP P ver R S np) ver np (lackL P ver R S np of).length) (k:Int) (lackL P ver R S np of).length 0
def gotN(P:Ps)(ver:Int)(R:Nat)(S:Nat→Nat→Int)(np of k:Nat):Nat:=(lackL P ver R S np of).getD (gotK P ver R S np of k).toNat 0
theorem got_at(hm:fillE P ver R S np of=0){k:Nat}(h:0≤gotK P ver R S np of k):
 ∃j:Nat,gotK P ver R S np of k=(j:Int)∧j<(lackL P ver R S np of).length∧forA (repP P ver R S np) ver np (lackL P ver R S np of).length j=(k:Int)∧mayK (repP P ver R S np) ver k∧1≤leftK (repP P ver R S np) k:=by
 obtain⟨j,h1,_,h2,h3⟩:=fstAt_place _ _ _ _ h
 obtain⟨q,g1,g2,g3,g4⟩:=forA_at (P:=repP P ver R S np) (ver:=ver) (np:=np) hm (i:=j) (by omega)
 have e:q=k:=by rw[g1]at h3;omega
 subst e
 exact⟨j,h1,by omega,h3,g3,g4⟩
theorem got_lack(hm:fillE P ver R S np of=0){k:Nat}(h:0≤gotK P ver R S np of k):gotN P ver R S np of k<of∧((gotN P ver R S np of k:Nat):Int)∉repS P ver R S np:=by
 obtain⟨j,h1,h2,_⟩:=got_at hm h;have hq:gotN P ver R S np of k∈lackL P ver R S np of:=by
  unfold gotN;rw[h1,Int.toNat_natCast];exact getD_in h2
 exact mem_lackL.1 hq
theorem fill_old{k:Nat}(h:¬0≤gotK P ver R S np of k):(fillP P ver R S np of).m k=(repP P ver R S np).m k∧(fillP P ver R S np of).t k=(repP P ver R S np).t k:=by
 have h':¬0≤fstAt (forA (repP P ver R S np) ver np (lackL P ver R S np of).length) (k:Int) (lackL P ver R S np of).length 0:=h;simp only[fillP,giveP];rw[if_neg h',if_neg h'];exact⟨rfl,rfl⟩
theorem fill_new{k:Nat}(h:0≤gotK P ver R S np of k):(fillP P ver R S np of).m k=(repP P ver R S np).m k+1∧(fillP P ver R S np of).t k=keepT ((repP P ver R S np).t k) ((repP P ver R S np).m k) ver ((gotN P ver R S np of k:Nat):Int) R (fun r=>S (gotN P ver R S np of k) r):=by
 have h':0≤fstAt (forA (repP P ver R S np) ver np (lackL P ver R S np of).length) (k:Int) (lackL P ver R S np of).length 0:=h;simp only[fillP,giveP];rw[if_pos h',if_pos h'];exact⟨rfl,rfl⟩
end
section
variable {n : Nat} {b : Bk} {np : Nat} {P : Ps} {ver : Int} {R : Nat} {S : Nat → Nat → Int} {of : Nat}
structure FillOk(n:Nat)(b:Bk)(np:Nat)(P:Ps)(ver:Int)(R:Nat)(S:Nat→Nat→Int)(of:Nat):Prop where
 mesh:MeshR n b np P
 ver_:0≤ver∧ver<(n:Int)
 many:fillE P ver R S np of=0
 one:∀q,q<of→oneE (b.nd ver.toNat) (b.of ver.toNat) (b.sz ver.toNat) (q:Int) R (S q)=0
 of_:b.of ver.toNat=(of:Int)
theorem FillOk.rep(h:FillOk n b np P ver R S of):MeshR n b np (repP P ver R S np):=h.mesh.rep ver R S np
theorem FillOk.right(h:FillOk n b np P ver R S of):MeshR n b np (fillP P ver R S np of):=by
 refine⟨h.mesh.book,h.mesh.few,fun k hk=>?_⟩;have hp:=h.rep.peer k hk;by_cases c:0≤gotK P ver R S np of k
 ·obtain⟨e1,e2⟩:=fill_new c
  obtain⟨_,_,_,_,h4,h5⟩:=got_at h.many c;unfold leftK at h5;rw[e1,e2];show PeerR n b ((repP P ver R S np).rm k) _ _;refine keepT_right hp (by omega) h4.2 h.ver_ ?_;exact h.one _ (got_lack h.many c).1
 obtain⟨e1,e2⟩:=fill_old c;rw[e1,e2];exact hp
end
section
variable {n : Nat} {b : Bk} {np : Nat} {P : Ps} {k : Int}
theorem mend_ok(h:mendE n b np P k=0):rsE n b np P k=0∧FillOk n b np P k (rowsN (b.nd k.toNat) (b.sz k.toNat)) (rsS b np P k) (b.of k.toNat).toNat:=by
 unfold mendE at h;by_cases h1:rsE n b np P k=0
 ·rw[if_pos h1]at h
  obtain⟨hv,d,m,s,e1,e2,e3,hp⟩:=rsE_ok h1;obtain⟨hm,hk⟩:=verM_ok hv;refine⟨h1,hm,hk,h,fun q hq=>?_,by omega⟩;have hl:=(planOk_spec hp);rw[e2]at hq;rw[e1,e2,e3];refine oneE_mk hp ⟨by omega,by omega⟩ (by rfl) fun j _=>?_;unfold rsS;exact shv_num _ _ _ _ _
 rw[if_neg h1]at h;exact absurd h h1
end
end
section
section
variable {n : Nat} {b : Bk} {np : Nat} {P : Ps} {need of : Int} {len : Nat} {D : Nat → Int} {lp : Nat} {X : Nat → Int}
structure SaveOk(n:Nat)(b:Bk)(np:Nat)(P:Ps)(need of:Int)(len:Nat)(D:Nat→Int)(lp:Nat)(X:Nat→Int):Prop where
 mesh:MeshR n b np P
 split:splitE need of (len:Int) len D=0
 book:bookE (n+1) (saveB n b need of len lp X)=0
 many:manyE P (n:Int) np (of.toNat:Int)=0
 of_:(of.toNat:Int)=of
theorem saveE_ok(h:saveE n b np P need of len D lp X=0):SaveOk n b np P need of len D lp X:=by
 unfold saveE at h;by_cases h1:peersE n b np P=0
 ·rw[if_pos h1]at h
  by_cases h2:splitE need of (len:Int) len D=0
  ·rw[if_pos h2]at h
   by_cases h3:bookE (n+1) (saveB n b need of len lp X)=0
   ·rw[if_pos h3]at h
    have hp:=(planOk_spec (splitE_ok h2).1);have ho:(of.toNat:Int)=of:=by omega
    exact⟨meshR_of h1,h2,h3,by rw[ho];exact h,ho⟩
   rw[if_neg h3]at h;exact absurd h h3
  rw[if_neg h2]at h;exact absurd h h2
 rw[if_neg h1]at h;exact absurd h h1
theorem SaveOk.right(h:SaveOk n b np P need of len D lp X):MeshR (n+1) (saveB n b need of len lp X) np (saveP n np P need of len D):=by
 refine⟨h.book,h.mesh.few,fun k hk=>?_⟩;have hp:PeerR (n+1) (saveB n b need of len lp X) (P.rm k) (P.m k) (P.t k):=(h.mesh.peer k hk).snoc h.book;simp only[saveP,giveP];by_cases c:0≤fstAt (forA P (n:Int) np of.toNat) (k:Int) of.toNat 0
 ·rw[if_pos c,if_pos c]
  obtain⟨j,_,hj,e⟩:=(fstAt_neg _ _ _ 0).1 c;obtain⟨q,hq1,hq2,hmay,hleft⟩:=forA_at h.many (i:=j) (by omega);have hqk:q=k:=by rw[hq1]at e;omega
  subst hqk;unfold leftK at hleft;obtain⟨i,hi1,_,hi2,_⟩:=(show ∃i:Nat,fstAt (forA P (n:Int) np of.toNat) (q:Int) of.toNat 0=(i:Int)∧0≤i∧i<of.toNat∧True from⟨(fstAt (forA P (n:Int) np of.toNat) (q:Int) of.toNat 0).toNat,by omega,Nat.zero_le _,by
   have hb:∀(m k:Nat),fstAt (forA P (n:Int) np of.toNat) (q:Int) m k<((k+m:Nat):Int):=by
    intro m;induction m with
    |zero=>intro k;simp only[fstAt];omega
    |succ m ih =>
     intro k;simp only[fstAt];by_cases c2:(q:Int)=forA P (n:Int) np of.toNat k;·rw[if_pos c2];omega
     rw[if_neg c2];have:=ih (k+1);omega
   have:=hb of.toNat 0;omega,trivial⟩)
  have e1:(saveB n b need of len lp X).nd (n:Int).toNat=need:=by simp[saveB,snocB]
  have e2:(saveB n b need of len lp X).of (n:Int).toNat=of:=by simp[saveB,snocB]
  have e3:(saveB n b need of len lp X).sz (n:Int).toNat=(len:Int):=by simp[saveB,snocB]
  refine keepT_right hp (by omega) hmay.2 ⟨by omega,by omega⟩ ?_;rw[e1,e2,e3,hi1,Int.toNat_natCast];exact split_right h.split (by rw[←h.of_];omega)
 rw[if_neg c,if_neg c];exact hp
end
section
variable {np : Nat} {P P' : Ps} {ver : Int}
end
end
section
section
variable {n : Nat} {b : Bk} {np : Nat} {P : Ps} {need of : Int} {len : Nat} {D : Nat → Int} {lp : Nat} {X : Nat → Int} {t : Nat → Bool}
end
end
section
def blB(P:Ps)(ver:Int)(R:Nat)(S:Nat→Nat→Int)(i:Nat):Bool:=hasK P ver i && !goodK P ver R S i
def blL(b:Bk)(np:Nat)(P:Ps)(k:Int):List Int:=pickL (blB P k (rowsN (b.nd k.toNat) (b.sz k.toNat)) (rsS b np P k)) np
def laN(b:Bk)(np:Nat)(P:Ps)(k:Int):Int:=b.of k.toNat-((thereL P k np).length:Int)
def benT(t:Kt)(i:Nat)(c:Int):Kt:=⟨t.V,t.N,t.L,fun j=>if j=i then fun r=>if r=0 then(t.X j 0+c)%31 else t.X j r else t.X j⟩
def bentP(P:Ps)(ver:Int)(W:List Nat)(c:Int):Ps:=⟨P.th,P.rm,P.m,fun k=>if k∈W then benT (P.t k) (atK P ver k) c else P.t k⟩
section
variable {P : Ps} {ver : Int} {W : List Nat} {c : Int}
end
section
variable {n : Nat} {b : Bk} {np : Nat} {P : Ps} {need of : Int} {len : Nat} {D : Nat → Int} {lp : Nat} {X : Nat → Int} {W : List Nat} {c : Int}
end
end
structure Hp where
 kd:Int
 N:Int
 M:Int
 len:Nat
 D:Nat→Int
 lp:Nat
 X:Nat→Int
 need:Int
 of:Int
structure Ms where
 n:Nat
 b:Bk
 np:Nat
 P:Ps
def msE(m:Ms):Int:=peersE m.n m.b m.np m.P
def forgP(P:Ps)(ver:Int):Ps:=⟨P.th,P.rm,fun k=>if P.th k=true then(butL (P.t k) ver (P.m k)).length else P.m k,fun k=>if P.th k=true then selT (P.t k) (butL (P.t k) ver (P.m k))else P.t k⟩
def forgE(n:Nat)(b:Bk)(np:Nat)(P:Ps)(v:Int):Int:=if verM n b np P v=0 then(if v∈headsL b n n then 0 else 6)else verM n b np P v
def putT(P:Ps)(k m:Nat)(t:Kt):Ps:=⟨P.th,P.rm,fun j=>if j=k then m else P.m j,fun j=>if j=k then t else P.t j⟩
def putB(P:Ps)(k:Nat)(v:Bool):Ps:=⟨fun j=>if j=k then v else P.th j,P.rm,P.m,P.t⟩
def lonE(m:Ms)(x:Hp):Int :=
 if x.N<0∨(m.np:Int)≤x.N then 4 else
 if x.kd=2 then(if m.P.th x.N.toNat=true then 0 else 6)else
 if x.kd=3 then(if m.P.th x.N.toNat=true then 6 else 0)else
 if x.kd=4 then 0 else(if x.M<0∨((m.P.m x.N.toNat:Nat):Int)≤x.M then 4 else 0)
def lonP(m:Ms)(x:Hp):Ps :=
 if x.kd=2 then putB m.P x.N.toNat false else
 if x.kd=3 then putB m.P x.N.toNat true else
 if x.kd=4 then putT m.P x.N.toNat 0 (m.P.t x.N.toNat)else putT m.P x.N.toNat (m.P.m x.N.toNat) (benT (m.P.t x.N.toNat) x.M.toNat 1)
def happE(m:Ms)(x:Hp):Int :=
 if x.kd=1 then saveE m.n m.b m.np m.P x.need x.of x.len x.D x.lp x.X else
 if x.kd=6 then mendE m.n m.b m.np m.P x.N else
 if x.kd=7 then forgE m.n m.b m.np m.P x.N else
 if 2≤x.kd∧x.kd≤5 then lonE m x else 3
def happM(m:Ms)(x:Hp):Ms :=
 if x.kd=1 then⟨m.n+1,saveB m.n m.b x.need x.of x.len x.lp x.X,m.np,saveP m.n m.np m.P x.need x.of x.len x.D⟩else
 if x.kd=6 then⟨m.n,m.b,m.np,mendP m.b m.np m.P x.N⟩else
 if x.kd=7 then⟨m.n,m.b,m.np,forgP m.P x.N⟩else⟨m.n,m.b,m.np,lonP m x⟩
def doE(m:Ms)(x:Hp):Int:=if msE m=0 then happE m x else msE m
def stepM(m:Ms)(x:Hp):Ms:=if happE m x=0 then happM m x else m
def runM(m:Ms)(l:List Hp):Ms:=l.foldl stepM m
def runS:Ms→List Hp→List Int
 |_,[]=>[]
 |m,x::l=>happE m x::runS (stepM m x) l
def runE(m:Ms)(len:Nat):Int:=if msE m=0 then(if len≤100 then 0 else 1)else msE m
theorem runM_parts(m:Ms)(l k:List Hp):runM m (l++k)=runM (runM m l) k:=List.foldl_append
theorem runS_parts(l:List Hp):∀(m:Ms) (k:List Hp),runS m (l++k)=runS m l++runS (runM m l) k:=by
 induction l with
 |nil=>intro m k;rfl
 |cons x l ih=>intro m k;simp only[List.cons_append,runS,ih];rfl
theorem runS_len(l:List Hp):∀m:Ms,(runS m l).length=l.length:=by
 induction l with
 |nil=>intro m;rfl
 |cons x l ih=>intro m;simp only[runS,List.length_cons,ih]
theorem ms_right{m:Ms}(h:msE m=0):MeshR m.n m.b m.np m.P:=meshR_of h
theorem MeshR.forg{n:Nat}{b:Bk}{np:Nat}{P:Ps}(h:MeshR n b np P)(v:Int):MeshR n b np (forgP P v):=by
 refine⟨h.book,h.few,fun k hk=>?_⟩;simp only[forgP];by_cases c:P.th k=true;·rw[if_pos c,if_pos c];exact(h.peer k hk).but v
 rw[if_neg c,if_neg c];exact h.peer k hk
theorem MeshR.putB{n:Nat}{b:Bk}{np:Nat}{P:Ps}(h:MeshR n b np P)(k:Nat)(v:Bool):MeshR n b np (putB P k v):=⟨h.book,h.few,h.peer⟩
theorem MeshR.putT{n:Nat}{b:Bk}{np:Nat}{P:Ps}(h:MeshR n b np P){k m:Nat}{t:Kt}(hp:PeerR n b (P.rm k) m t):MeshR n b np (putT P k m t):=by
 refine⟨h.book,h.few,fun j hj=>?_⟩;by_cases e:j=k
 ·subst e
  simp only[Go.Proofs.YtajmnlhfnhbleaaGreat.putT,if_true];exact hp
 simp only[Go.Proofs.YtajmnlhfnhbleaaGreat.putT,if_neg e];exact h.peer j hj
theorem PeerR.none{n:Nat}{b:Bk}{room:Int}{m:Nat}{t:Kt}(h:PeerR n b room m t):PeerR n b room 0 t :=
 ⟨h.book,h.room_,by have:=h.room_;omega,fun j hj=>absurd hj (Nat.not_lt_zero _),fun i j _ hj=>absurd hj (Nat.not_lt_zero _)⟩
theorem ben_X(t:Kt)(i:Nat)(c:Int)(j r:Nat):(benT t i c).X j r=if j=i∧r=0 then(t.X i 0+c)%31 else t.X j r:=by
 simp only[benT];by_cases h:j=i
 ·subst h
  rw[if_pos rfl];by_cases hr:r=0;·rw[if_pos hr,if_pos ⟨rfl,hr⟩]
  rw[if_neg hr,if_neg (fun q=>hr q.2)]
 rw[if_neg h,if_neg (fun q=>h q.1)]
theorem PeerR.ben{n:Nat}{b:Bk}{room:Int}{m:Nat}{t:Kt}(h:PeerR n b room m t)(i:Nat)(c:Int):PeerR n b room m (benT t i c):=by
 refine⟨h.book,h.room_,h.few,fun j hj=>?_,h.rise⟩;obtain⟨h1,h2⟩:=h.right j hj;refine⟨h1,?_⟩;unfold oneK at h2 ⊢;obtain⟨g1,g2,g3,g4⟩:=oneE_ok h2;refine oneE_mk g1 g2 g3 fun r hr=>?_;have h5:=of_decide_eq_true g4 r hr;unfold isNum at h5;rw[decide_eq_true_iff]at h5;rw[ben_X];by_cases hc:j=i∧r=0;·rw[if_pos hc];omega
 rw[if_neg hc];exact h5
theorem lon_ok{m:Ms}{x:Hp}(h:lonE m x=0):0≤x.N∧x.N.toNat<m.np∧(x.kd=2→m.P.th x.N.toNat=true)∧(x.kd=3→m.P.th x.N.toNat=false)∧(x.kd≠2→x.kd≠3→x.kd≠4→0≤x.M∧x.M.toNat<m.P.m x.N.toNat):=by
 unfold lonE at h;by_cases h1:x.N<0∨(m.np:Int)≤x.N;·rw[if_pos h1]at h;omega
 rw[if_neg h1]at h;refine⟨by omega,by omega,fun e=>?_,fun e=>?_,fun e2 e3 e4=>?_⟩
 ·rw[if_pos e]at h
  by_cases c:m.P.th x.N.toNat=true;·exact c
  rw[if_neg c]at h;omega
 ·rw[if_neg (by omega),if_pos e]at h
  by_cases c:m.P.th x.N.toNat=true;·rw[if_pos c]at h;omega
  simpa using c
 rw[if_neg e2,if_neg e3,if_neg e4]at h;by_cases c:x.M<0∨((m.P.m x.N.toNat:Nat):Int)≤x.M;·rw[if_pos c]at h;omega
 omega
theorem MeshR.lon{m:Ms}(h:MeshR m.n m.b m.np m.P){x:Hp}(hx:lonE m x=0):MeshR m.n m.b m.np (lonP m x):=by
 obtain⟨_,h1,_⟩:=lon_ok hx;unfold lonP;by_cases c2:x.kd=2;·rw[if_pos c2];exact h.putB _ _
 rw[if_neg c2];by_cases c3:x.kd=3;·rw[if_pos c3];exact h.putB _ _
 rw[if_neg c3];by_cases c4:x.kd=4;·rw[if_pos c4];exact h.putT (h.peer _ h1).none
 rw[if_neg c4];exact h.putT ((h.peer _ h1).ben _ _)
theorem happ_right{m:Ms}{x:Hp}(hm:msE m=0)(h:happE m x=0):msE (happM m x)=0:=by
 unfold happE at h;unfold happM;have hR:=ms_right hm;by_cases c1:x.kd=1;·rw[if_pos c1]at h ⊢;exact(saveE_ok h).right.e
 rw[if_neg c1]at h ⊢;by_cases c6:x.kd=6;·rw[if_pos c6]at h ⊢;exact(mend_ok h).2.right.e
 rw[if_neg c6]at h ⊢;by_cases c7:x.kd=7;·rw[if_pos c7]at h ⊢;exact(hR.forg _).e
 rw[if_neg c7]at h ⊢;by_cases c:2≤x.kd∧x.kd≤5;·rw[if_pos c]at h;exact(hR.lon h).e
 rw[if_neg c]at h;omega
theorem step_right{m:Ms}{x:Hp}(hm:msE m=0):msE (stepM m x)=0:=by
 unfold stepM;by_cases c:happE m x=0;·rw[if_pos c];exact happ_right hm c
 rw[if_neg c];exact hm
theorem run_right(l:List Hp):∀ {m:Ms},msE m=0→msE (runM m l)=0:=by
 induction l with
 |nil=>intro m h;exact h
 |cons x l ih=>intro m h;exact ih (step_right h)
def NewV(B:Nat)(w:World)(v:Value):Prop:=∀ad n c,v=.slice (some ad) n c→B≤ad.block∧ad.block<w.heap.size∧∀i,w.frozen? ⟨ad.block,i,none⟩=false
theorem NewV.none(B:Nat)(w:World)(n c:Nat):NewV B w (.slice .none n c):=fun ad n' c' e=>by cases e
theorem NewV.up{B:Nat}{w w':World}{v:Value}(h:NewV B w v)(hb:Below w.heap.size w w'):NewV B w' v:=fun ad n c e=>by
 obtain⟨h1,h2,h3⟩:=h ad n c e;exact⟨h1,Nat.lt_of_lt_of_le h2 hb.size,fun i=>by rw[←h3 i];exact World.frozen?_of_block (hb.block _ h2)⟩
theorem NewV.mono{B B':Nat}{w:World}{v:Value}(h:NewV B w v)(hb:B'≤B):NewV B' w v:=fun ad n c e=>⟨Nat.le_trans hb (h ad n c e).1,(h ad n c e).2⟩
theorem frozen_setN{w:World}{a b:Addr}{u:Value}:(w.setCell a u).frozen? b=w.frozen? b:=by
 unfold World.frozen? World.setCell;simp only[Array.getElem?_modify];by_cases h:a.block=b.block
 ·rw[if_pos h]
  cases hb:w.heap[b.block]? with
  |none=>rfl
  |some x=>cases x<;>rfl
 rw[if_neg h]
theorem NewV.set{B:Nat}{w:World}{v:Value}(h:NewV B w v)(a:Addr)(u:Value):NewV B (w.setCell a u) v:=fun ad n c e=>by
 obtain⟨h1,h2,h3⟩:=h ad n c e;exact⟨h1,by simpa[World.setCell]using h2,fun i=>by rw[frozen_setN];exact h3 i⟩
theorem NewV.above{B:Nat}{w:World}{v:Value}(h:NewV B w v):Above B v:=fun ad n c e=>(h ad n c e).1
theorem NewV.grown{B:Nat}{w w':World}{v:Value}{row:Option Nat}(h:NewV B w v)(hg:w.grownBy w' row)(hne:∀ad n c,v=.slice (some ad) n c→some ad.block≠row):NewV B w' v:=fun ad n c e=>by
 obtain⟨h1,h2,h3⟩:=h ad n c e;exact⟨h1,Nat.lt_of_lt_of_le h2 hg.size,fun i=>by rw[←h3 i];exact World.frozen?_of_block (hg.block _ h2 (hne ad n c e))⟩
theorem newV_block{B:Nat}{w:World}{g n c:Nat}{cs:Array Value}{T:TypeId}(h:w.heap[g]?=some (.cells cs T (0,0)))(hB:B≤g):NewV B w (.slice (some ⟨g,0,.none⟩) n c):=fun ad n' c' e=>by
 injection e with e1;injection e1 with e1;subst e1;exact⟨hB,(Array.getElem?_eq_some_iff.1 h).1,fun i=>frozen_at h⟩
theorem owns_new{w:World}{base:Nat}{e:TypeId}{size:Nat}{v:Value}{n:Nat}{xs:List Value}(h:w.ownsRow base e size v n xs):NewV base w v:=by
 rcases h.2 with⟨rfl,_⟩|⟨g,cap,cur,rfl,hg,hh,_⟩;·exact NewV.none base w _ _
 exact newV_block hh hg
end Go.Proofs.YtajmnlhfnhbleaaGreat
