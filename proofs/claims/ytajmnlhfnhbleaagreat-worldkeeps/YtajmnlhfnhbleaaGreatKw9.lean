/- Several texts of one proof, in their order. -/
import Derived.Test.YtajmnlhfnhbleaaGreatKw8
import Derived.Sort.OwnSortedInts
namespace Go.Proofs.YtajmnlhfnhbleaaGreat
open Go.RowKit CurveMath
set_option linter.unusedVariables false
set_option maxHeartbeats 2000000
set_option maxRecDepth 10000
section
section
variable {P : Ps} {ver : Int} {R : Nat} {S : Nat → Nat → Int} {k : Nat}
theorem repP_keep(h:dropK P ver R S k=false):repP P ver R S (k+1)=repP P ver R S k:=by
 have e:∀j,(decide (j<k+1)&&dropK P ver R S j)=(decide (j<k)&&dropK P ver R S j):=fun j=>by
  by_cases ej:j=k;·subst ej;rw[h];simp
  congr 1;exact decide_eq_decide.2 (by omega)
 unfold repP;simp only[e]
theorem repP_drop(h:dropK P ver R S k=true):((repP P ver R S (k+1)).m k=(butL (P.t k) ver (P.m k)).length∧(repP P ver R S (k+1)).t k=selT (P.t k) (butL (P.t k) ver (P.m k)))∧∀j,j≠k→(repP P ver R S (k+1)).m j=(repP P ver R S k).m j∧(repP P ver R S (k+1)).t j=(repP P ver R S k).t j:=by
 refine⟨?_,fun j hj=>?_⟩
 ·simp only[repP]
  rw[if_pos (by rw[h];simp),if_pos (by rw[h];simp)];exact⟨rfl,rfl⟩
 have e:(decide (j<k+1)&&dropK P ver R S j)=(decide (j<k)&&dropK P ver R S j):=by
  congr 1;exact decide_eq_decide.2 (by omega)
 simp only[repP,e];exact⟨trivial,trivial⟩
theorem rep_none(h:hasK P ver k=false):dropK P ver R S k=false∧repS P ver R S (k+1)=repS P ver R S k:=by
 refine⟨by unfold dropK;rw[h,Bool.false_and],?_⟩;simp only[repS];rw[h,Bool.false_and,if_neg (by decide)]
theorem rep_good(h:hasK P ver k=true)(hg:goodK P ver R S k=true)(hs:(repS P ver R S k).contains (numK P ver k)=false):dropK P ver R S k=false∧repS P ver R S (k+1)=repS P ver R S k++[numK P ver k]:=by
 refine⟨by unfold dropK;rw[h,hg,hs];rfl,?_⟩;simp only[repS];rw[h,hg,hs,if_pos (by rfl)]
theorem rep_bad(h:hasK P ver k=true)(hb:(goodK P ver R S k && !(repS P ver R S k).contains (numK P ver k))=false):dropK P ver R S k=true∧repS P ver R S (k+1)=repS P ver R S k:=by
 refine⟨by unfold dropK;rw[h,hb];rfl,?_⟩;simp only[repS];rw[h,hb,if_neg (by decide)]
end
theorem oneE_ok{nd of sz N:Int}{L:Nat}{X:Nat→Int}(h:oneE nd of sz N L X=0):planOk nd of sz=true∧(0≤N∧N<of)∧(L:Int)=rowsN nd sz∧numsB L X=true:=by
 unfold oneE at h;by_cases h1:planOk nd of sz=true
 ·rw[if_pos h1]at h
  by_cases h2:0≤N∧N<of
  ·rw[if_pos h2]at h
   by_cases h3:(L:Int)=rowsN nd sz
   ·rw[if_pos h3]at h
    by_cases h4:numsB L X=true;·exact⟨h1,h2,h3,h4⟩
    rw[if_neg h4]at h;omega
   rw[if_neg h3]at h;omega
  rw[if_neg h2]at h;omega
 rw[if_neg h1]at h;omega
theorem MeshR.num{n:Nat}{b:Bk}{np:Nat}{P:Ps}(h:MeshR n b np P):∀k i,k<np→i<P.m k→0≤(P.t k).N i∧(P.t k).N i<8:=fun k i hk hi=>by
 obtain⟨h1,h2,_,_⟩:=oneE_ok ((h.peer k hk).right i hi).2;have:=(planOk_spec h1).2.1;omega
theorem MeshR.small{n:Nat}{b:Bk}{np:Nat}{P:Ps}(h:MeshR n b np P):∀k,k<np→P.m k≤20:=fun k hk=>by
 have h1:=(h.peer k hk).room_;have h2:=(h.peer k hk).few;omega
theorem verM_ok{n:Nat}{b:Bk}{np:Nat}{P:Ps}{k:Int}(h:verM n b np P k=0):MeshR n b np P∧0≤k∧k<(n:Int):=by
 unfold verM at h;by_cases h1:peersE n b np P=0
 ·rw[if_pos h1]at h
  by_cases h2:0≤k∧k<(n:Int);·exact⟨meshR_of h1,h2⟩
  rw[if_neg h2]at h;omega
 rw[if_neg h1]at h;exact absurd h h1
theorem fstAt_place(X:Nat→Int)(v:Int):∀(m k:Nat),0≤fstAt X v m k→∃i:Nat,fstAt X v m k=(i:Int)∧k≤i∧i<k+m∧X i=v:=by
 intro m;induction m with
 |zero=>intro k h;simp[fstAt]at h
 |succ m ih =>
  intro k h;simp only[fstAt]at h ⊢;by_cases e:v=X k;·rw[if_pos e];exact⟨k,rfl,Nat.le_refl _,by omega,e.symm⟩
  rw[if_neg e]at h ⊢;obtain⟨i,h1,h2,h3,h4⟩:=ih (k+1) h;exact⟨i,h1,by omega,by omega,h4⟩
theorem rsE_ok{n:Nat}{b:Bk}{np:Nat}{P:Ps}{k:Int}(h:rsE n b np P k=0):verM n b np P k=0∧∃d m s:Nat,b.nd k.toNat=d∧b.of k.toNat=m∧b.sz k.toNat=s∧planOk (d:Int) (m:Int) (s:Int)=true:=by
 unfold rsE at h;by_cases h1:verM n b np P k=0
 ·rw[if_pos h1]at h
  refine⟨h1,?_⟩;unfold mostE at h;by_cases h2:checksE (b.nd k.toNat) (b.of k.toNat) (b.sz k.toNat) (thereL P k np).length (nT P (thereL P k np)) (lT P (thereL P k np)) (xT P (thereL P k np))=0
  ·obtain⟨d,m,s,R,e1,e2,e3,hS⟩:=checks_ok h2
   exact⟨d,m,s,e1,e2,e3,hS.plan⟩
  rw[if_neg h2]at h;exact absurd h h2
 rw[if_neg h1]at h;exact absurd h h1
theorem rsD_num(b:Bk)(np:Nat)(P:Ps)(k:Int)(j:Nat):0≤rsD b np P k j∧rsD b np P k j≤30:=crv_num _ _ _ _
theorem split_right{need of:Int}{len:Nat}{D:Nat→Int}(h:splitE need of (len:Int) len D=0){k:Nat}(hk:(k:Int)<of):oneE need of (len:Int) (k:Int) (rowsN need (len:Int)) (fun r=>shv need.toNat len D k r)=0:=by
 obtain⟨h1,_,_⟩:=splitE_ok h;unfold oneE;rw[if_pos h1,if_pos ⟨by omega,hk⟩,if_pos rfl,if_pos];unfold numsB;refine decide_eq_true fun j _=>?_;have:=shv_num need.toNat len D k j;unfold isNum;simp;omega
theorem MeshR.snoc{n:Nat}{b:Bk}{np:Nat}{P:Ps}{lp:Nat}{X:Nat→Int}{nd of sz:Int}(h:MeshR n b np P)(hb:bookE (n+1) (snocB n b lp X nd of sz)=0):MeshR (n+1) (snocB n b lp X nd of sz) np P :=
 ⟨hb,h.few,fun k hk=>(h.peer k hk).snoc hb⟩
theorem PeerR.but{n:Nat}{b:Bk}{room:Int}{m:Nat}{t:Kt}(h:PeerR n b room m t)(ver:Int):PeerR n b room (butL t ver m).length (selT t (butL t ver m)):=by
 have hl:=butL_len t ver m;have hp:(butL t ver m).Pairwise (fun a c:Nat=>a<c):=List.Pairwise.filter _ List.pairwise_lt_range;refine⟨h.book,h.room_,by have:=h.few;omega,fun j hj=>?_,fun i j hij hj=>?_⟩;·exact h.right _ (butL_lt (getD_in hj))
 exact h.rise _ _ (pairwise_getD hp hij hj) (butL_lt (getD_in hj))
theorem MeshR.rep{n:Nat}{b:Bk}{np:Nat}{P:Ps}(h:MeshR n b np P)(ver:Int)(R:Nat)(S:Nat→Nat→Int)(f:Nat):MeshR n b np (repP P ver R S f):=by
 refine⟨h.book,h.few,fun k hk=>?_⟩;simp only[repP];by_cases c:(decide (k<f)&&dropK P ver R S k)=true;·rw[if_pos c,if_pos c];exact(h.peer k hk).but ver
 rw[if_neg c,if_neg c];exact h.peer k hk
def lackK(T:List Int)(f:Nat):List Nat:=(List.range f).filter fun q => !T.contains (q:Int)
theorem lackK_succ(T:List Int)(f:Nat):lackK T (f+1)=lackK T f++(if(!T.contains (f:Int))=true then[f]else[]):=by
 unfold lackK;rw[List.range_succ,List.filter_append,List.filter_cons,List.filter_nil]
theorem lackK_len(T:List Int)(f:Nat):(lackK T f).length≤f:=by
 unfold lackK;refine Nat.le_trans (List.length_filter_le _ _) ?_;simp
theorem lackK_lt{T:List Int}{f q:Nat}(h:q∈lackK T f):q<f:=by
 unfold lackK at h;exact List.mem_range.1 (List.mem_filter.1 h).1
def noB:Bk:=⟨fun _=>0,fun _ _=>0,fun _=>0,fun _=>0,fun _=>0⟩
def newE(len:Nat)(X:Nat→Int):Int:=peersE 0 noB len (freshP X)
end
theorem sort_own{w0 wr:World}{v:Value}{l:List Int}(h:OwnL w0 wr v l)(hk:l.length≤1000):
 Calls Tryz.prog 143 #[v] wr fun e w'=>e=.returned (.tuple #[])∧OwnL w0 w' v (srt l):=by
 obtain⟨⟨hl,h2⟩,hb⟩:=h
 rcases h2 with⟨rfl,h0⟩|⟨g,cap,cur,rfl,hg,hh,hc1,hc2,hsz,hcur⟩
 ·have hl0:l=[]:=List.length_eq_zero_iff.1 h0
  subst hl0;refine(Tryz.slices_Sort_int_none none 0 wr).mono ?_;rintro e w' ⟨rfl,hw⟩;subst hw;have e0:srt []=[]:=by simp[srt]
  rw[e0];exact⟨rfl,World.ownsRow_nil _ _ _ _,hb⟩
 ·rw[Nat.mul_one]at hcur
  refine(Tryz.slices_Sort_int g 0 cap l wr (holds_of_blockI hh hcur) (Array.getElem?_eq_some_iff.1 hh).1 (by omega)).mono ?_;rintro e w' ⟨rfl,n,os,rfl⟩;refine⟨rfl,?_,hb.grown (grownBy_sortedI _) hb.size (fun j hj=>by cases hj;exact hg)⟩;have ho:=ownsRow_sortedI (n:=n) (os:=os) (ss:=l) (ts:=srt l) (srt_len l) hg hh hc1 hc2 hsz;rw[srt_len];exact ho
theorem badL_succ(d s R j:Nat)(N:Nat→Int)(X:Nat→Nat→Int)(D:Nat→Int):badL d s R (j+1) N X D=badL d s R j N X D++(if alB d s R N X D j=true then[]else[N j]):=by
 unfold badL;rw[List.range_succ,List.filter_append,List.map_append];cases h:alB d s R N X D j<;>simp[h]
theorem badL_len(d s R j:Nat)(N:Nat→Int)(X:Nat→Nat→Int)(D:Nat→Int):(badL d s R j N X D).length≤j:=by
 unfold badL;rw[List.length_map];refine Nat.le_trans (List.length_filter_le _ _) ?_;simp
theorem splitE_fit{d m s:Nat}{D:Nat→Int}(hp:planOk (d:Int) (m:Int) (s:Int)=true)(hD:∀j,j<s→0≤D j∧D j≤30):splitE (d:Int) (m:Int) (s:Int) s D=0:=by
 unfold splitE;have h4:numsB s D=true:=decide_eq_true fun j hj=>(isNum_iff _).2 (hD j hj);rw[if_pos hp,if_pos rfl,if_pos h4]
theorem bent_any(O:Owes)(d m s R n:Nat)(v:Value)(N:Nat→Int)(V:Nat→Value)(L:Nat→Nat)(X:Nat→Nat→Int)(vd:Value)(D:Nat→Int)(w:World)(hS:Shares d m s R n N L X)(h:ShSl w w.heap.size v n N V L X)(hd:IntSl w w.heap.size vd s D)(hD:∀j,j<s→0≤D j∧D j≤30):
 Calls Tryz.prog 107 #[planV d m s,v,vd] w fun e w'=>Below w.heap.size w w'∧∃b,e=.returned b∧OwnL w w' b (srt (badL d s R n N X D)):=by
 have hbx:=below_alloc w (.cells #[.int .i64 (d:Int),.int .i64 (m:Int),.int .i64 (s:Int)] 59)
 have HSp:=hid (O.split (d:Int) (m:Int) (s:Int) vd s D _ (hd.up hbx))
 have HSh:=hid hS
 have HBx:=hid hbx
 have HLe:=hid hS.le
 obtain⟨a1,a2,a3⟩:=planOk_spec hS.plan
 have hE:=splitE_fit hS.plan hD
 rw[hE]at HSp
 have hRr:=hS.rows
 rw[hRr]at HSp
 rw[Int.toNat_natCast]at HSp
 obtain⟨ad,cap,rfl,⟨hcap,hbig⟩,hx⟩:=h
 obtain⟨advd,cvd,rfl,_,_⟩:=hd
 obtain⟨ii,hi,hzz0,hzz1,hzz2⟩:=info_parts Tryz.infoInt
 have hn8:=hS.le
 rcases hx with h0|⟨b,off,rfl,hb,hx⟩
 ·omega
 have HXc:=hid hx
 clear hbx hS hE hRr hx hD
 unfold planV
 go_enter Tryz.func107,Tryz.ntmps107
 go_wp2_with fail
 refine HSp.out.mono ?_
 rintro e w1 ⟨hb1,r,mm,Vs,rfl,hmm,hsl,-,-⟩
 simp only[if_true]at hmm
 have hmm':m=mm:=by omega
 subst hmm'
 have HB1:=hid (HBx.out.trans (hb1.mono HBx.out.size))
 obtain⟨adr,capr,rfl,⟨hcapr,_⟩,hxr⟩:=hsl
 rcases hxr with h0|⟨br,offr,rfl,hbr,hxr⟩
 ·omega
 have HXr:=hid hxr
 clear hb1 hxr hmm
 go_wp2
 go_loopw [9,20] (fun vn iv wr=>∃j:Nat,j≤n∧iv=.int .i64 j∧Hid (OwnL w1 wr vn (badL d s R j N X D))) (fun _ iv _=>n-(intOf iv).toNat)
 case atStart=>exact⟨0,Nat.zero_le _,rfl,OwnL.nil _⟩
 case round =>
  obtain⟨j,hj,rfl,OW⟩:=hrel;by_cases hlt:j<n
  ·have hji:(j:Int)<(n:Int):=by omega
   obtain⟨x1,x2,x3⟩:=HXc.out j hlt;have HBr:=hid (HB1.out.trans (OW.out.2.mono HB1.out.size));have HI3:Hid (∀w',Below w.heap.size w w'→IntSl w' w'.heap.size (V j) (L j) (X j)):=fun w' hb'=>x3.up hb';obtain⟨av,cv,hve,_,_⟩:=x3;rw[hve]at HI3;obtain⟨ν,hν⟩:∃ν:Nat,N j=ν:=⟨(N j).toNat,by have:=HSh.out.who j hlt;omega⟩;have hνb:ν<m:=by have:=HSh.out.who j hlt;omega
   have hνi:(ν:Int)<(m:Int):=by omega
   have g1:wr.cell? ⟨b,off+j*2,none⟩=some (.int .i64 (ν:Int)):=by rw[HBr.out.cell hb,←hν];exact x1
   have g2:wr.cell? ⟨b,off+j*2+1,none⟩=some (.slice av (L j) cv):=by rw[HBr.out.cell hb,x2,hve]
   have HN:=hid hν;obtain⟨y1,y2,y3⟩:=HXr.out ν hνb;have HI4:Hid (∀w',Below w1.heap.size w1 w'→IntSl w' w'.heap.size (Vs ν) R (fun i=>shv d s D ν i)):=fun w' hb'=>y3.up hb';obtain⟨av2,cv2,hve2,_,_⟩:=y3;rw[hve2]at HI4 y2;clear x1 x2 hve hν hve2;have hbA:=below_alloc wr (.cells #[.int .i64 (ν:Int),.slice av (L j) cv] 81);obtain⟨W,hW⟩:∃W,wr.alloc (.cells #[.int .i64 (ν:Int),.slice av (L j) cv] 81)=W:=⟨_,rfl⟩;rw[hW]at hbA;have s0:W.cell? ⟨wr.heap.size,0,none⟩=some (.int .i64 (ν:Int)):=by rw[←hW];exact cell_at (heap_alloc_new _ _) rfl
   have s1:W.cell? ⟨wr.heap.size,1,none⟩=some (.slice av (L j) cv):=by rw[←hW];exact cell_at (heap_alloc_new _ _) rfl
   have HB1W:=hid (OW.out.2.trans (hbA.mono OW.out.2.size));have HBwW:=hid (HB1.out.trans (HB1W.out.mono HB1.out.size));have OWA:=hid (OW.out.up hbA);have hne:Nonempty (Of (Below W.heap.size W)):=⟨⟨W,Below.refl _ _⟩⟩;have F3:∀u:Of (Below W.heap.size W),u.val.cell? ⟨wr.heap.size,0,none⟩=some (.int .i64 (ν:Int)):=fun u=>by rw[u.is.cell (cell_lt s0)];exact s0
   have F4:∀u:Of (Below W.heap.size W),u.val.cell? ⟨wr.heap.size,1,none⟩=some (.slice av (L j) cv):=fun u=>by rw[u.is.cell (cell_lt s1)];exact s1
   have F5:∀u:Of (Below W.heap.size W),u.val.cell? ⟨br,offr+ν*2,none⟩=some (.int .i64 (ν:Int)):=fun u=>by rw[(HB1W.out.trans (u.is.mono HB1W.out.size)).cell hbr];exact y1
   have F6:∀u:Of (Below W.heap.size W),u.val.cell? ⟨br,offr+ν*2+1,none⟩=some (.slice av2 R cv2):=fun u=>by rw[(HB1W.out.trans (u.is.mono HB1W.out.size)).cell hbr];exact y2
   clear hbA y1 y2;go_wp2_with fail
   have HDr:Hid (Below W.heap.size W W.drew):=⟨rfl,rfl,rfl,Nat.le_refl _,fun _ _=>rfl⟩;refine region_mixed (Below W.heap.size W) [([0,1,2,3,4,5],6)] [7] (by kernel_rfl) (by kernel_rfl) HDr.out ?_;refine mixO_cons ?_;repeat(go_big_quiet_step (fail))
   refine wpQuiet_nil ?_;intro K hK;go_wp2_with fail
   refine Calls.mono (O.same (ν:Int) (ν:Int) _ _ (L j) R (X j) _ W.drew (HI3.out W.drew (HBwW.out.trans (HDr.out.mono HBwW.out.size))) (HI4.out W.drew (HB1W.out.trans (HDr.out.mono HB1W.out.size)))) ?_;rintro e w4 ⟨rfl,hb4⟩;have HB4:=hid (HDr.out.trans (hb4.mono HDr.out.size));have hsm:=sameB_al HSh.out D j ν hlt HN.out;rw[HN.out]at hsm;rw[hsm];have OW4:=hid (OWA.out.up HB4.out);have hll:=badL_len d s R j N X D;have hsc:=badL_succ d s R j N X D;rw[HN.out]at hsc;have HSc:=hid hsc;clear hb4 hsm hsc;cases hdj:alB d s R N X D j with
   |true =>
    go_wp2;refine⟨rfl,hK _ _ HB4.out ?_⟩;clear hK K;refine mixO_nil ?_;repeat(go_big_quiet_step (fail))
    refine wpQuiet_nil ?_;go_wp2;go_roundw
    case rel =>
     refine⟨j+1,by omega,by go_num,?_⟩;have h9:=HSc.out;rw[if_pos hdj,List.append_nil]at h9;rw[h9];exact OW4.out
    case measure=>simp only[intOf];omega
   |false =>
    go_wp2;refine⟨rfl,hK _ _ HB4.out ?_⟩;clear hK K;refine mixO_nil ?_;repeat(go_big_quiet_step (fail))
    refine wpQuiet_nil ?_;have s4:w4.cell? ⟨wr.heap.size,0,none⟩=some (.int .i64 (ν:Int)):=by rw[HB4.out.cell (cell_lt s0)];exact s0
    have hge:w1.heap.size≤w4.heap.size:=OW4.out.2.size;go_wp2_with(at_builtin;go_must(refine wpList_append_own _ rfl (.tmp 32) (.tmp 35) 28 rfl w1.heap.size 3 ii (.int .i64 0) 1 8 Tryz.underlying28 hi hzz0 hzz1 hzz2 rfl (by decide) _ _ _ rfl (World.ownsRow.alloc OW4.out.1 _) ⟨_,0,none⟩ 1 1 [.int .i64 (ν:Int)] rfl rfl (newCell _ _ _) (oneCell _) (by unfold maxLen;omega) (by omega) (by simp;omega) ?_;intro v1 w6 ho6 hg6 _;have O6:=hid (OW4.out.push ho6 hg6);clear ho6 hg6))
    go_roundw
    case rel =>
     refine⟨j+1,by omega,by go_num,?_⟩;have h9:=HSc.out;rw[if_neg (by rw[hdj];decide)]at h9;rw[h9];exact O6.out
    case measure=>simp only[intOf];omega
  have hje:j=n:=by omega
  subst hje;have hll:=badL_len d s R j N X D;go_wp2_with fail
  refine Calls.mono (sort_own OW.out (by omega)) ?_;rintro e w5 ⟨rfl,h5⟩;have HO5:=hid h5;clear h5;go_wp2;go_ret;refine⟨HB1.out.trans (HO5.out.2.mono HB1.out.size),_,rfl,?_,HB1.out.trans (HO5.out.2.mono HB1.out.size)⟩;exact owns_base HO5.out.1 HB1.out.size
section
section
variable {d m s R n : Nat} {N : Nat → Int} {L : Nat → Nat} {X : Nat → Nat → Int}
end
end
structure RightS(d m s R c:Nat)(O:Nat→Nat)(D:Nat→Int)(N:Nat→Int)(L:Nat→Nat)(X:Nat→Nat→Int):Prop where
 plan:planOk (d:Int) (m:Int) (s:Int)=true
 rows:rowsN (d:Int) (s:Int)=R
 nums:∀j,j<s→0≤D j∧D j≤30
 le:c≤m
 num:∀j,N j=(O j:Int)
 lt:∀j,j<c→O j<m
 inj:∀i j,i<c→j<c→O i=O j→i=j
 len:∀j,j<c→L j=R
 val:∀j,j<c→∀r,r<R→X j r=shv d s D (O j) r
theorem RightS.few{d m s R c:Nat}{O:Nat→Nat}{D:Nat→Int}{N:Nat→Int}{L:Nat→Nat}{X:Nat→Nat→Int}(h:RightS d m s R c O D N L X)(hc:c<d):mostE (d:Int) (m:Int) (s:Int) c N L X=7:=by
 obtain⟨b1,b2,b3⟩:=planOk_spec h.plan;have hsc:scanS (d:Int) (m:Int) (s:Int) N L X c 0=0:=scanS_mk c 0 fun j _ hj=>by
  have hj':j<c:=by omega
  refine⟨?_,?_⟩
  ·unfold oneE
   have hl:=h.lt j hj';rw[if_pos h.plan,h.num j,if_pos ⟨by omega,by omega⟩,h.len j hj',if_pos (by rw[h.rows]),if_pos];unfold numsB;refine decide_eq_true fun r hr=>?_;rw[h.val j hj' r hr];exact decide_eq_true (shv_num _ _ _ _ _)
  rw[Bool.eq_false_iff];intro hb;obtain⟨i,hi,e⟩:=(hasB_iff _ _ _).1 hb;rw[h.num,h.num]at e;have:=h.inj i j (by omega) hj' (by omega);omega
 have e:checksE (d:Int) (m:Int) (s:Int) c N L X=7:=by
  unfold checksE;rw[if_pos h.plan,if_pos (by have:=h.le;omega),if_pos hsc,if_neg (by omega)]
 unfold mostE;rw[e,if_neg (by decide)]
theorem anyL_readsO{P:Program}{D:World→Prop}{l lq:List Oper}{md:Region.Mode}{R:Act→World→Prop}{f:Nat}{sE:Array Bool}{w:World}{c:Nat}{q:List Nat}{seen:Array Bool}{a:Act}(hD:D w)(h:wpQuiet P l.toArray (fun w'=>∃u:Of D,w'=u.val) (fun a'=>anyL P md l.toArray D sE R f (seenQ q seen) a' w) lq a)
 (hp:pickO l q=lq:=by simp only[pickO,List.getElem?_cons_zero,List.getElem?_cons_succ];exact rfl) (hs:Region.noSelect l.toArray=true:=by kernel_rfl) (hE:Region.ready md l.toArray sE=[c]:=by kernel_rfl) (hw:waitsB md l.toArray c q=true:=by kernel_rfl) (ho:ordQ md l.toArray q seen=true:=by kernel_rfl)
 (hb:(q.all (fun i=>match l[i]? with|some o=>plainB o|none=>false))=true:=by kernel_rfl):anyL P md l.toArray D sE R (f+q.length) seen a w :=
 anyL_reads hs hE hD q seen a hw ho hb (by rw[hp];exact h)
def snocU(m:Nat)(UV:Nat→Value)(uv:Value):Nat→Value:=fun j=>if j=m then uv else UV j
theorem flatI_congr{UV UV':Nat→Value}{t t':Kt}{l:List Nat}(h:∀i,i∈l→t.V i=t'.V i∧t.N i=t'.N i∧UV i=UV' i):flatI UV t l=flatI UV' t' l:=by
 induction l with
 |nil=>rfl
 |cons a l ih =>
  obtain⟨h1,h2,h3⟩:=h a (by simp);have h4:=ih fun i hi=>h i (by simp[hi]);unfold flatI at h4 ⊢;simp only[List.flatMap_cons];rw[h1,h2,h3,h4]
theorem OwnT.snoc{w0 wr w1:World}{v v':Value}{m:Nat}{UV:Nat→Value}{t:Kt}{ver N:Int}{uv:Value}{L:Nat}{X:Nat→Int}(h:OwnT w0 wr v UV t (List.range m))
 (ho:w1.ownsRow w0.heap.size 83 3 v' (m+1) (flatI UV t (List.range m)++[.int .i64 ver,.int .i64 N,uv])) (hg:wr.grownBy w1 v.ownBlock):OwnT w0 w1 v' (snocU m UV uv) (snocT m t ver N L X) (List.range (m+1)):=by
 refine⟨?_,h.2.grown hg h.2.size (fun g hgg=>(h.1.lt g hgg).1)⟩
 rw[List.length_range,List.range_succ,flatI_snoc]
 have e:flatI (snocU m UV uv) (snocT m t ver N L X) (List.range m)=flatI UV t (List.range m):=flatI_congr fun i hi=>by
  have hne:i≠m:=by have:=List.mem_range.1 hi;omega
  simp[snocU,snocT,hne]
 rw[e]
 simp only[snocU,snocT,if_true]
 exact ho
def RowC(wr:World)(g K:Nat)(UV:Nat→Value)(t:Kt)(l:List Nat):Prop :=
 ∀j,j<K→wr.cell? ⟨g,j*3,none⟩=some (.int .i64 (t.V (l.getD j 0)))∧wr.cell? ⟨g,j*3+1,none⟩=some (.int .i64 (t.N (l.getD j 0)))∧wr.cell? ⟨g,j*3+2,none⟩=some (UV (l.getD j 0))
theorem RowC.keep{wr w':World}{g K:Nat}{UV:Nat→Value}{t:Kt}{l:List Nat}(h:RowC wr g K UV t l)(he:w'.heap[g]?=wr.heap[g]?):RowC w' g K UV t l:=fun j hj=>by
 obtain⟨h1,h2,h3⟩:=h j hj;exact⟨by rw[World.cell?_of_block he];exact h1,by rw[World.cell?_of_block he];exact h2,by rw[World.cell?_of_block he];exact h3⟩
theorem RowK.keep{wr w':World}{g K:Nat}{UV:Nat→Value}{t:Kt}{l:List Nat}(h:RowK wr g K UV t l)(he:w'.heap[g]?=wr.heap[g]?)(hs:wr.heap.size≤w'.heap.size):RowK w' g K UV t l :=
 ⟨h.len,RowC.keep h.cell he,fun i hi=>by rw[←h.free i hi];unfold World.frozen?;simp only[he],Nat.lt_of_lt_of_le h.lt hs⟩
def DropsTo(n:Nat)(b:Bk)(th:Bool)(room:Int)(m:Nat)(t:Kt)(ver:Int)(er:Int)(th':Bool)(room':Int)(m':Nat)(t':Kt):Prop :=
 (peerE n b room m t≠0∧er=peerE n b room m t∧th'=false∧room'=0∧m'=0) ∨
 (peerE n b room m t=0∧er=0∧th'=th∧room'=room∧m'=(butL t ver m).length∧t'=selT t (butL t ver m))
def DropPost(w:World)(n:Nat)(b:Bk)(th:Bool)(room:Int)(m:Nat)(t:Kt)(ver:Int)(e:Ending)(w':World):Prop :=
 Below w.heap.size w w'∧∃(er:Int) (th':Bool) (room':Int) (r:Value) (m':Nat) (UV':Nat→Value) (t':Kt),e=.returned (.tuple #[peerV th' room' r,.int .i64 er])∧KeSl w' w'.heap.size r m' UV' t'∧DropsTo n b th room m t ver er th' room' m' t'
theorem keptB_refl(m:Nat)(t:Kt):keptB m m t t=true:=by
 have h:∀f k,restK t t f k=true:=by
  intro f;induction f with
  |zero=>intro k;rfl
  |succ f ih=>intro k;simp only[restK,ih,Bool.and_true];unfold verK sameB eqB;simp
 unfold keptB;simp[h]
theorem peerB_refl(th:Bool)(room:Int)(m:Nat)(t:Kt):peerB th th room room m m t t=true:=by
 unfold peerB;rw[keptB_refl];simp
theorem keptB_of{m:Nat}{t u:Kt}(h:∀j,j<m→t.V j=u.V j∧t.N j=u.N j∧t.L j=u.L j∧t.X j=u.X j):keptB m m t u=true:=by
 have h2:∀f k,k+f≤m→restK t u f k=true:=by
  intro f;induction f with
  |zero=>intro k _;rfl
  |succ f ih =>
   intro k hk;obtain⟨h1,h2,h3,h4⟩:=h k (by omega);simp only[restK,ih (k+1) (by omega),Bool.and_true];unfold verK sameB eqB;simp[h1,h2,h3,h4]
 unfold keptB;rw[h2 m 0 (by omega)];simp
theorem peerB_of{th:Bool}{room:Int}{m m':Nat}{t u:Kt}(hm:m=m')(h:∀j,j<m→t.V j=u.V j∧t.N j=u.N j∧t.L j=u.L j∧t.X j=u.X j):peerB th th room room m m' t u=true:=by
 subst hm;unfold peerB;rw[keptB_of h];simp
theorem butL_none{t:Kt}{ver:Int}{m:Nat}(h:∀j,j<m→t.V j≠ver):butL t ver m=List.range m:=by
 unfold butL;refine List.filter_eq_self.2 fun j hj=>?_;have:=h j (List.mem_range.1 hj);simpa using this
theorem getN_mem{l:List Nat}{j:Nat}(h:j<l.length):l.getD j 0∈l:=by
 rw[List.getD_eq_getElem?_getD,List.getElem?_eq_getElem h];exact List.getElem_mem h
theorem map_getD_range(l:List Nat):(List.range l.length).map (fun j=>l.getD j 0)=l:=by
 refine List.ext_getElem (by simp) fun i h1 h2=>?_;simp[List.getD_eq_getElem?_getD,h2]
theorem but_back{t:Kt}{ver N:Int}{L m:Nat}{X:Nat→Int}{l:List Nat}(hl:InOrder (snocT m t ver N L X) (m+1) l)(hr:∀i j,i<j→j<m→t.V i<t.V j)(hn:∀j,j<m→t.V j≠ver):
 (butL (selT (snocT m t ver N L X) l) ver (m+1)).map (fun j=>l.getD j 0)=List.range m:=by
 have hlen:l.length=m+1:=by rw[hl.1.length_eq];simp
 have e1:(butL (selT (snocT m t ver N L X) l) ver (m+1)).map (fun j=>l.getD j 0)=l.filter fun i=>i != m:=by
  unfold butL;have h1:(l.filter fun i=>i != m)=((List.range l.length).map (fun j=>l.getD j 0)).filter fun i=>i != m:=by rw[map_getD_range]
  rw[h1,List.filter_map,hlen];congr 1;refine List.filter_congr fun j hj=>?_;have hj2:=List.mem_range.1 hj;have hm:=List.mem_range.1 (hl.1.mem_iff.1 (getN_mem (l:=l) (j:=j) (by omega)));simp only[selT,snocT,Function.comp];by_cases e:l.getD j 0=m;·rw[e];simp
  rw[if_neg e];have:=hn _ (show l.getD j 0<m by omega);simp only[bne,beq_eq_false_iff_ne.2 this,beq_eq_false_iff_ne.2 e]
 rw[e1]
 refine List.Perm.eq_of_pairwise (le:=fun a c=>(snocT m t ver N L X).V a<(snocT m t ver N L X).V c) (fun a c _ _ h1 h2=>by omega) (hl.2.filter _) ?_ ?_
 ·refine(List.pairwise_lt_range (n:=m)).imp_of_mem fun {a c} ha hc hac=>?_
  have h1:=List.mem_range.1 ha;have h2:=List.mem_range.1 hc;simp only[snocT,if_neg (show a≠m by omega),if_neg (show c≠m by omega)];exact hr a c hac h2
 ·refine(hl.1.filter _).trans ?_
  rw[List.range_succ,List.filter_append];have h3:(List.range m).filter (fun i=>i != m)=List.range m:=List.filter_eq_self.2 fun j hj=>by have:=List.mem_range.1 hj;simp;omega
  rw[h3];simp
theorem fstAt_at(X:Nat→Int)(v:Int):∀(m k:Nat),0≤fstAt X v m k→∃i:Nat,fstAt X v m k=(i:Int)∧k≤i∧i<k+m∧X i=v:=by
 intro m;induction m with
 |zero=>intro k h;simp[fstAt]at h
 |succ m ih =>
  intro k h;simp only[fstAt]at h ⊢;by_cases e:v=X k;·rw[if_pos e];exact⟨k,rfl,Nat.le_refl _,by omega,e.symm⟩
  rw[if_neg e]at h ⊢;obtain⟨i,h1,h2,h3,h4⟩:=ih (k+1) h;exact⟨i,h1,by omega,by omega,h4⟩
theorem found_alike{t:Kt}{ver N:Int}{L m:Nat}{X:Nat→Int}{l:List Nat}(hl:InOrder (snocT m t ver N L X) (m+1) l)(hn:∀j,j<m→t.V j≠ver):
 ∃i:Nat,fstAt (selT (snocT m t ver N L X) l).V ver (m+1) 0=(i:Int)∧i<m+1∧(selT (snocT m t ver N L X) l).N i=N∧(selT (snocT m t ver N L X) l).L i=L∧(selT (snocT m t ver N L X) l).X i=X:=by
 have hlen:l.length=m+1:=by rw[hl.1.length_eq];simp
 have hmm:m∈l:=hl.1.mem_iff.2 (List.mem_range.2 (by omega))
 obtain⟨k,hk,hke⟩:=List.getElem_of_mem hmm
 have hex:0≤fstAt (selT (snocT m t ver N L X) l).V ver (m+1) 0:=(fstAt_neg _ _ _ _).2 ⟨k,Nat.zero_le _,by omega,by simp[selT,snocT,List.getD_eq_getElem?_getD,hk,hke]⟩
 obtain⟨i,h1,_,h2,h3⟩:=fstAt_at _ _ _ _ hex
 have hi:=List.mem_range.1 (hl.1.mem_iff.1 (getN_mem (l:=l) (j:=i) (by omega)))
 have he:l.getD i 0=m:=by
  by_cases e:l.getD i 0=m;·exact e
  simp only[selT,snocT,if_neg e]at h3;exact absurd h3 (hn _ (by omega))
 exact⟨i,h1,by omega,by simp only[selT,snocT,he,if_true],by simp only[selT,snocT,he,if_true],by simp only[selT,snocT,he,if_true]⟩
end Go.Proofs.YtajmnlhfnhbleaaGreat
