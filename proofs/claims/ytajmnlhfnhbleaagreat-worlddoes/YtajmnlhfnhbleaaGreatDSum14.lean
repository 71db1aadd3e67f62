/- Several texts of one proof, in their order. -/
import Derived.Test.YtajmnlhfnhbleaaGreatDSum13
import Derived.Sort.OwnSortedInts
namespace Go.Proofs.YtajmnlhfnhbleaaGreat
open Go.RowKit CurveMath
set_option linter.unusedVariables false
set_option maxHeartbeats 2000000
set_option maxRecDepth 10000
theorem sort_own{w0 wr:World}{v:Value}{l:List Int}(h:OwnL w0 wr v l)(hk:l.length≤1000):
 Calls Tryz.prog 143 #[v] wr fun e w'=>e=.returned (.tuple #[])∧OwnL w0 w' v (srt l):=by
 obtain⟨⟨hl,h2⟩,hb⟩:=h
 rcases h2 with⟨rfl,h0⟩|⟨g,cap,cur,rfl,hg,hh,hc1,hc2,hsz,hcur⟩
 ·have hl0:l=[]:=List.length_eq_zero_iff.1 h0
  subst hl0;refine(Tryz.slices_Sort_int_none none 0 wr).mono ?_;rintro e w' ⟨rfl,hw⟩;subst hw;have e0:srt []=[]:=by simp[srt]
  rw[e0];exact⟨rfl,World.ownsRow_nil _ _ _ _,hb⟩
 ·rw[Nat.mul_one]at hcur
  refine(Tryz.slices_Sort_int g 0 cap l wr (holds_of_blockI hh hcur) (Array.getElem?_eq_some_iff.1 hh).1 (by omega)).mono ?_;rintro e w' ⟨rfl,n,os,rfl⟩;refine⟨rfl,?_,hb.grown (grownBy_sortedI _) hb.size (fun j hj=>by cases hj;exact hg)⟩;have ho:=ownsRow_sortedI (n:=n) (os:=os) (ss:=l) (ts:=srt l) (srt_len l) hg hh hc1 hc2 hsz;rw[srt_len];exact ho
theorem badL_succ(d s R j:Nat)(N:Nat→Int)(X:Nat→Nat→Int)(D:Nat→Int):badL d s R (j+1) N X D=badL d s R j N X D++(if alB d s R N X D j=true then[]else[N j]):=by
 unfold badL;rw[List.range_succ,List.filter_append,List.map_append];cases h:alB d s R N X D j<;>simp[h]
theorem badL_len(d s R j:Nat)(N:Nat→Int)(X:Nat→Nat→Int)(D:Nat→Int):(badL d s R j N X D).length≤j:=by
 unfold badL;rw[List.length_map];refine Nat.le_trans (List.length_filter_le _ _) ?_;simp
theorem splitE_fit{d m s:Nat}{D:Nat→Int}(hp:planOk (d:Int) (m:Int) (s:Int)=true)(hD:∀j,j<s→0≤D j∧D j≤30):splitE (d:Int) (m:Int) (s:Int) s D=0:=by
 unfold splitE;have h4:numsB s D=true:=decide_eq_true fun j hj=>(isNum_iff _).2 (hD j hj);rw[if_pos hp,if_pos rfl,if_pos h4]
theorem bent_any(O:Owes)(d m s R n:Nat)(v:Value)(N:Nat→Int)(V:Nat→Value)(L:Nat→Nat)(X:Nat→Nat→Int)(vd:Value)(D:Nat→Int)(w:World)(hS:Shares d m s R n N L X)(h:ShSl w w.heap.size v n N V L X)(hd:IntSl w w.heap.size vd s D)(hD:∀j,j<s→0≤D j∧D j≤30):
 Calls Tryz.prog 107 #[planV d m s,v,vd] w fun e w'=>Below w.heap.size w w'∧∃b,e=.returned b∧OwnL w w' b (srt (badL d s R n N X D)):=by
 have hbx:=below_alloc w (.cells #[.int .i64 (d:Int),.int .i64 (m:Int),.int .i64 (s:Int)] 59)
 have HSp:=hid (O.split (d:Int) (m:Int) (s:Int) vd s D _ (hd.up hbx))
 have HSh:=hid hS
 have HBx:=hid hbx
 have HLe:=hid hS.le
 obtain⟨a1,a2,a3⟩:=planOk_spec hS.plan
 have hE:=splitE_fit hS.plan hD
 rw[hE]at HSp
 have hRr:=hS.rows
 rw[hRr]at HSp
 rw[Int.toNat_natCast]at HSp
 obtain⟨ad,cap,rfl,⟨hcap,hbig⟩,hx⟩:=h
 obtain⟨advd,cvd,rfl,_,_⟩:=hd
 obtain⟨ii,hi,hzz0,hzz1,hzz2⟩:=info_parts Tryz.infoInt
 have hn8:=hS.le
 rcases hx with h0|⟨b,off,rfl,hb,hx⟩
 ·omega
 have HXc:=hid hx
 clear hbx hS hE hRr hx hD
 unfold planV
 go_enter Tryz.func107,Tryz.ntmps107
 go_wp2_with fail
 refine HSp.out.mono ?_
 rintro e w1 ⟨hb1,r,mm,Vs,rfl,hmm,hsl,-,-⟩
 simp only[if_true]at hmm
 have hmm':m=mm:=by omega
 subst hmm'
 have HB1:=hid (HBx.out.trans (hb1.mono HBx.out.size))
 obtain⟨adr,capr,rfl,⟨hcapr,_⟩,hxr⟩:=hsl
 rcases hxr with h0|⟨br,offr,rfl,hbr,hxr⟩
 ·omega
 have HXr:=hid hxr
 clear hb1 hxr hmm
 go_wp2
 go_loopw [9,20] (fun vn iv wr=>∃j:Nat,j≤n∧iv=.int .i64 j∧Hid (OwnL w1 wr vn (badL d s R j N X D))) (fun _ iv _=>n-(intOf iv).toNat)
 case atStart=>exact⟨0,Nat.zero_le _,rfl,OwnL.nil _⟩
 case round =>
  obtain⟨j,hj,rfl,OW⟩:=hrel;by_cases hlt:j<n
  ·have hji:(j:Int)<(n:Int):=by omega
   obtain⟨x1,x2,x3⟩:=HXc.out j hlt;have HBr:=hid (HB1.out.trans (OW.out.2.mono HB1.out.size));have HI3:Hid (∀w',Below w.heap.size w w'→IntSl w' w'.heap.size (V j) (L j) (X j)):=fun w' hb'=>x3.up hb';obtain⟨av,cv,hve,_,_⟩:=x3;rw[hve]at HI3;obtain⟨ν,hν⟩:∃ν:Nat,N j=ν:=⟨(N j).toNat,by have:=HSh.out.who j hlt;omega⟩;have hνb:ν<m:=by have:=HSh.out.who j hlt;omega
   have hνi:(ν:Int)<(m:Int):=by omega
   have g1:wr.cell? ⟨b,off+j*2,none⟩=some (.int .i64 (ν:Int)):=by rw[HBr.out.cell hb,←hν];exact x1
   have g2:wr.cell? ⟨b,off+j*2+1,none⟩=some (.slice av (L j) cv):=by rw[HBr.out.cell hb,x2,hve]
   have HN:=hid hν;obtain⟨y1,y2,y3⟩:=HXr.out ν hνb;have HI4:Hid (∀w',Below w1.heap.size w1 w'→IntSl w' w'.heap.size (Vs ν) R (fun i=>shv d s D ν i)):=fun w' hb'=>y3.up hb';obtain⟨av2,cv2,hve2,_,_⟩:=y3;rw[hve2]at HI4 y2;clear x1 x2 hve hν hve2;have hbA:=below_alloc wr (.cells #[.int .i64 (ν:Int),.slice av (L j) cv] 81);obtain⟨W,hW⟩:∃W,wr.alloc (.cells #[.int .i64 (ν:Int),.slice av (L j) cv] 81)=W:=⟨_,rfl⟩;rw[hW]at hbA;have s0:W.cell? ⟨wr.heap.size,0,none⟩=some (.int .i64 (ν:Int)):=by rw[←hW];exact cell_at (heap_alloc_new _ _) rfl
   have s1:W.cell? ⟨wr.heap.size,1,none⟩=some (.slice av (L j) cv):=by rw[←hW];exact cell_at (heap_alloc_new _ _) rfl
   have HB1W:=hid (OW.out.2.trans (hbA.mono OW.out.2.size));have HBwW:=hid (HB1.out.trans (HB1W.out.mono HB1.out.size));have OWA:=hid (OW.out.up hbA);have hne:Nonempty (Of (Below W.heap.size W)):=⟨⟨W,Below.refl _ _⟩⟩;have F3:∀u:Of (Below W.heap.size W),u.val.cell? ⟨wr.heap.size,0,none⟩=some (.int .i64 (ν:Int)):=fun u=>by rw[u.is.cell (cell_lt s0)];exact s0
   have F4:∀u:Of (Below W.heap.size W),u.val.cell? ⟨wr.heap.size,1,none⟩=some (.slice av (L j) cv):=fun u=>by rw[u.is.cell (cell_lt s1)];exact s1
   have F5:∀u:Of (Below W.heap.size W),u.val.cell? ⟨br,offr+ν*2,none⟩=some (.int .i64 (ν:Int)):=fun u=>by rw[(HB1W.out.trans (u.is.mono HB1W.out.size)).cell hbr];exact y1
   have F6:∀u:Of (Below W.heap.size W),u.val.cell? ⟨br,offr+ν*2+1,none⟩=some (.slice av2 R cv2):=fun u=>by rw[(HB1W.out.trans (u.is.mono HB1W.out.size)).cell hbr];exact y2
   clear hbA y1 y2;go_wp2_with fail
   have HDr:Hid (Below W.heap.size W W.drew):=⟨rfl,rfl,rfl,Nat.le_refl _,fun _ _=>rfl⟩;refine region_mixed (Below W.heap.size W) [([0,1,2,3,4,5],6)] [7] (by kernel_rfl) (by kernel_rfl) HDr.out ?_;refine mixO_cons ?_;repeat(go_big_quiet_step (fail))
   refine wpQuiet_nil ?_;intro K hK;go_wp2_with fail
   refine Calls.mono (O.same (ν:Int) (ν:Int) _ _ (L j) R (X j) _ W.drew (HI3.out W.drew (HBwW.out.trans (HDr.out.mono HBwW.out.size))) (HI4.out W.drew (HB1W.out.trans (HDr.out.mono HB1W.out.size)))) ?_;rintro e w4 ⟨rfl,hb4⟩;have HB4:=hid (HDr.out.trans (hb4.mono HDr.out.size));have hsm:=sameB_al HSh.out D j ν hlt HN.out;rw[HN.out]at hsm;rw[hsm];have OW4:=hid (OWA.out.up HB4.out);have hll:=badL_len d s R j N X D;have hsc:=badL_succ d s R j N X D;rw[HN.out]at hsc;have HSc:=hid hsc;clear hb4 hsm hsc;cases hdj:alB d s R N X D j with
   |true =>
    go_wp2;refine⟨rfl,hK _ _ HB4.out ?_⟩;clear hK K;refine mixO_nil ?_;repeat(go_big_quiet_step (fail))
    refine wpQuiet_nil ?_;go_wp2;go_roundw
    case rel =>
     refine⟨j+1,by omega,by go_num,?_⟩;have h9:=HSc.out;rw[if_pos hdj,List.append_nil]at h9;rw[h9];exact OW4.out
    case measure=>simp only[intOf];omega
   |false =>
    go_wp2;refine⟨rfl,hK _ _ HB4.out ?_⟩;clear hK K;refine mixO_nil ?_;repeat(go_big_quiet_step (fail))
    refine wpQuiet_nil ?_;have s4:w4.cell? ⟨wr.heap.size,0,none⟩=some (.int .i64 (ν:Int)):=by rw[HB4.out.cell (cell_lt s0)];exact s0
    have hge:w1.heap.size≤w4.heap.size:=OW4.out.2.size;go_wp2_with(at_builtin;go_must(refine wpList_append_own _ rfl (.tmp 32) (.tmp 35) 28 rfl w1.heap.size 3 ii (.int .i64 0) 1 8 Tryz.underlying28 hi hzz0 hzz1 hzz2 rfl (by decide) _ _ _ rfl (World.ownsRow.alloc OW4.out.1 _) ⟨_,0,none⟩ 1 1 [.int .i64 (ν:Int)] rfl rfl (newCell _ _ _) (oneCell _) (by unfold maxLen;omega) (by omega) (by simp;omega) ?_;intro v1 w6 ho6 hg6 _;have O6:=hid (OW4.out.push ho6 hg6);clear ho6 hg6))
    go_roundw
    case rel =>
     refine⟨j+1,by omega,by go_num,?_⟩;have h9:=HSc.out;rw[if_neg (by rw[hdj];decide)]at h9;rw[h9];exact O6.out
    case measure=>simp only[intOf];omega
  have hje:j=n:=by omega
  subst hje;have hll:=badL_len d s R j N X D;go_wp2_with fail
  refine Calls.mono (sort_own OW.out (by omega)) ?_;rintro e w5 ⟨rfl,h5⟩;have HO5:=hid h5;clear h5;go_wp2;go_ret;refine⟨HB1.out.trans (HO5.out.2.mono HB1.out.size),_,rfl,?_,HB1.out.trans (HO5.out.2.mono HB1.out.size)⟩;exact owns_base HO5.out.1 HB1.out.size
section
theorem comb_rise(m:Nat):∀(k i:Nat) (c:List Nat),c∈comb k (List.range' i m)→c.Pairwise (· < ·)∧(∀x∈c,i≤x∧x<i+m)∧c.length=k:=by
 induction m with
 |zero =>
  intro k i c h;cases k with
  |zero=>simp[comb]at h;subst h;exact⟨List.Pairwise.nil,fun x hx=>(by cases hx),rfl⟩
  |succ k=>simp[comb]at h
 |succ m ih =>
  intro k i c h;cases k with
  |zero=>simp[comb]at h;subst h;exact⟨List.Pairwise.nil,fun x hx=>(by cases hx),rfl⟩
  |succ k =>
   rw[List.range'_succ,comb,List.mem_append]at h;rcases h with h|h
   ·obtain⟨t,ht,rfl⟩:=List.mem_map.1 h
    obtain⟨h1,h2,h3⟩:=ih k (i+1) t ht;refine⟨List.pairwise_cons.2 ⟨fun x hx=>by have:=h2 x hx;omega,h1⟩,fun x hx=>?_,by simp[h3]⟩;rcases List.mem_cons.1 hx with rfl|hx;·omega
    have:=h2 x hx;omega
   obtain⟨h1,h2,h3⟩:=ih (k+1) (i+1) c h;exact⟨h1,fun x hx=>by have:=h2 x hx;omega,h3⟩
theorem comb_mem(m:Nat):∀(k i:Nat) (c:List Nat),c.Pairwise (· < ·)→(∀x∈c,i≤x∧x<i+m)→c.length=k→c∈comb k (List.range' i m):=by
 induction m with
 |zero =>
  intro k i c h1 h2 h3;cases c with
  |nil=>simp at h3;subst h3;simp[comb]
  |cons a c=>have:=h2 a (List.mem_cons_self);omega
 |succ m ih =>
  intro k i c h1 h2 h3;cases c with
  |nil=>simp at h3;subst h3;simp[comb]
  |cons a c =>
   simp at h3;subst h3;rw[List.range'_succ,comb,List.mem_append];obtain⟨g1,g2⟩:=List.pairwise_cons.1 h1;by_cases ha:a=i
   ·subst ha
    refine Or.inl (List.mem_map.2 ⟨c,ih _ (a+1) c g2 (fun x hx=>?_) rfl,rfl⟩);have e1:=g1 x hx;have e2:=h2 x (List.mem_cons_of_mem _ hx);omega
   refine Or.inr (ih _ (i+1) (a::c) h1 (fun x hx=>?_) (by simp));have e2:=h2 x hx;have e3:=h2 a List.mem_cons_self;rcases List.mem_cons.1 hx with rfl|hx';·omega
   have e1:=g1 x hx';omega
section
variable {d m s R n : Nat} {N : Nat → Int} {L : Nat → Nat} {X : Nat → Nat → Int}
theorem comb_good{c:List Nat}(h:c∈comb d (List.range n)):Rise n c∧c.length=d:=by
 rw[List.range_eq_range']at h;obtain⟨h1,h2,h3⟩:=comb_rise n d 0 c h;exact⟨⟨h1,fun x hx=>by have:=h2 x hx;omega⟩,h3⟩
theorem good_comb{c:List Nat}(h:Rise n c)(hl:c.length=d):c∈comb d (List.range n):=by
 rw[List.range_eq_range'];exact comb_mem n d 0 c h.1 (fun x hx=>by have:=h.2 x hx;omega) hl
end
end
theorem anyL_readsO{P:Program}{D:World→Prop}{l lq:List Oper}{md:Region.Mode}{R:Act→World→Prop}{f:Nat}{sE:Array Bool}{w:World}{c:Nat}{q:List Nat}{seen:Array Bool}{a:Act}(hD:D w)(h:wpQuiet P l.toArray (fun w'=>∃u:Of D,w'=u.val) (fun a'=>anyL P md l.toArray D sE R f (seenQ q seen) a' w) lq a)
 (hp:pickO l q=lq:=by simp only[pickO,List.getElem?_cons_zero,List.getElem?_cons_succ];exact rfl) (hs:Region.noSelect l.toArray=true:=by kernel_rfl) (hE:Region.ready md l.toArray sE=[c]:=by kernel_rfl) (hw:waitsB md l.toArray c q=true:=by kernel_rfl) (ho:ordQ md l.toArray q seen=true:=by kernel_rfl)
 (hb:(q.all (fun i=>match l[i]? with|some o=>plainB o|none=>false))=true:=by kernel_rfl):anyL P md l.toArray D sE R (f+q.length) seen a w :=
 anyL_reads hs hE hD q seen a hw ho hb (by rw[hp];exact h)
def snocU(m:Nat)(UV:Nat→Value)(uv:Value):Nat→Value:=fun j=>if j=m then uv else UV j
theorem flatI_congr{UV UV':Nat→Value}{t t':Kt}{l:List Nat}(h:∀i,i∈l→t.V i=t'.V i∧t.N i=t'.N i∧UV i=UV' i):flatI UV t l=flatI UV' t' l:=by
 induction l with
 |nil=>rfl
 |cons a l ih =>
  obtain⟨h1,h2,h3⟩:=h a (by simp);have h4:=ih fun i hi=>h i (by simp[hi]);unfold flatI at h4 ⊢;simp only[List.flatMap_cons];rw[h1,h2,h3,h4]
theorem OwnT.snoc{w0 wr w1:World}{v v':Value}{m:Nat}{UV:Nat→Value}{t:Kt}{ver N:Int}{uv:Value}{L:Nat}{X:Nat→Int}(h:OwnT w0 wr v UV t (List.range m))
 (ho:w1.ownsRow w0.heap.size 83 3 v' (m+1) (flatI UV t (List.range m)++[.int .i64 ver,.int .i64 N,uv])) (hg:wr.grownBy w1 v.ownBlock):OwnT w0 w1 v' (snocU m UV uv) (snocT m t ver N L X) (List.range (m+1)):=by
 refine⟨?_,h.2.grown hg h.2.size (fun g hgg=>(h.1.lt g hgg).1)⟩
 rw[List.length_range,List.range_succ,flatI_snoc]
 have e:flatI (snocU m UV uv) (snocT m t ver N L X) (List.range m)=flatI UV t (List.range m):=flatI_congr fun i hi=>by
  have hne:i≠m:=by have:=List.mem_range.1 hi;omega
  simp[snocU,snocT,hne]
 rw[e]
 simp only[snocU,snocT,if_true]
 exact ho
def RowC(wr:World)(g K:Nat)(UV:Nat→Value)(t:Kt)(l:List Nat):Prop :=
 ∀j,j<K→wr.cell? ⟨g,j*3,none⟩=some (.int .i64 (t.V (l.getD j 0)))∧wr.cell? ⟨g,j*3+1,none⟩=some (.int .i64 (t.N (l.getD j 0)))∧wr.cell? ⟨g,j*3+2,none⟩=some (UV (l.getD j 0))
theorem RowC.keep{wr w':World}{g K:Nat}{UV:Nat→Value}{t:Kt}{l:List Nat}(h:RowC wr g K UV t l)(he:w'.heap[g]?=wr.heap[g]?):RowC w' g K UV t l:=fun j hj=>by
 obtain⟨h1,h2,h3⟩:=h j hj;exact⟨by rw[World.cell?_of_block he];exact h1,by rw[World.cell?_of_block he];exact h2,by rw[World.cell?_of_block he];exact h3⟩
theorem own_row{w0 wr:World}{v:Value}{K:Nat}{UV:Nat→Value}{t:Kt}(h:OwnT w0 wr v UV t (List.range K))(hK:1≤K):
 ∃g cap,v=.slice (some ⟨g,0,none⟩) K cap∧w0.heap.size≤g∧K≤cap∧RowK wr g K UV t (List.range K):=by
 obtain⟨⟨hl,h2⟩,hb⟩:=h
 rw[List.length_range]at h2 hl
 rcases h2 with⟨rfl,h0⟩|⟨g,cap,cur,rfl,hg,hh,hc1,hc2,hsz,hcur⟩
 ·omega
 ·have key:∀i u,i<K*3→(flatI UV t (List.range K))[i]?=some u→wr.cell? ⟨g,i,none⟩=some u:=fun i u hi h3=>by
   rw[←hcur,List.getElem?_take,if_pos hi]at h3;exact cell_at hh (by simpa using h3)
  refine⟨g,cap,rfl,hg,hc1,by simp,fun j hj=>?_,fun i hi=>frozen_at hh,(Array.getElem?_eq_some_iff.1 hh).1⟩;obtain⟨q1,q2,q3⟩:=flatI_get UV t (List.range K) j (by simpa using hj);exact⟨key _ _ (by omega) q1,key _ _ (by omega) q2,key _ _ (by omega) q3⟩
theorem RowK.keep{wr w':World}{g K:Nat}{UV:Nat→Value}{t:Kt}{l:List Nat}(h:RowK wr g K UV t l)(he:w'.heap[g]?=wr.heap[g]?)(hs:wr.heap.size≤w'.heap.size):RowK w' g K UV t l :=
 ⟨h.len,RowC.keep h.cell he,fun i hi=>by rw[←h.free i hi];unfold World.frozen?;simp only[he],Nat.lt_of_lt_of_le h.lt hs⟩
theorem rowC_kel{wr:World}{g K cap:Nat}{UV:Nat→Value}{t:Kt}{l:List Nat}(h:RowC wr g K UV t l)(hl:l.length=K)(hg:g<wr.heap.size)(hc:K≤cap)(hr:K*40≤140737488351232)(hi:∀i,i∈l→IntSl wr wr.heap.size (UV i) (t.L i) (t.X i)):
 KeSl wr wr.heap.size (.slice (some ⟨g,0,none⟩) K cap) K (fun j=>UV (l.getD j 0)) (selT t l):=by
 refine⟨_,cap,rfl,⟨hc,hr⟩,Or.inr ⟨g,0,rfl,hg,fun j hj=>?_⟩⟩
 obtain⟨q1,q2,q3⟩:=h j hj
 rw[Nat.zero_add]
 refine⟨q1,q2,q3,hi _ ?_⟩
 rw[List.getD_eq_getElem?_getD,List.getElem?_eq_getElem (by omega)]
 exact List.getElem_mem (by omega)
theorem snoc_ints{w:World}{v:Value}{m:Nat}{UV:Nat→Value}{t:Kt}{ver N:Int}{uv:Value}{L:Nat}{X:Nat→Int}(hk:KeSl w w.heap.size v m UV t)(hu:IntSl w w.heap.size uv L X){w':World}(hb:Below w.heap.size w w'){l:List Nat}(hl:l.Perm (List.range (m+1))):∀i,i∈l→IntSl w' w'.heap.size (snocU m UV uv i) ((snocT m t ver N L X).L i) ((snocT m t ver N L X).X i):=fun i hi=>by
 have hi2:=List.mem_range.1 (hl.mem_iff.1 hi);by_cases e:i=m;·subst e;simp only[snocU,snocT,if_true];exact hu.up hb
 simp only[snocU,snocT,if_neg e];obtain⟨_,_,_,_,h2⟩:=hk;rcases h2 with h0|⟨_,_,_,_,h5⟩;·omega
 exact(h5 i (by omega)).2.2.2.up hb
theorem snoc_slices{w:World}{v:Value}{m:Nat}{UV:Nat→Value}{t:Kt}{uv:Value}{L:Nat}{X:Nat→Int}(hk:KeSl w w.heap.size v m UV t)(hu:IntSl w w.heap.size uv L X):∀i,i<m+1→∃a n c,snocU m UV uv i=.slice a n c:=fun i hi=>by
 obtain⟨a,c,h,_⟩:=snoc_ints (ver:=0) (N:=0) hk hu (Below.refl _ _) (List.Perm.refl _) i (List.mem_range.2 hi);exact⟨_,_,_,h⟩
theorem keeps_err{w w5:World}{n:Nat}{b:Bk}{th:Bool}{room:Int}{m:Nat}{t t':Kt}{ver N:Int}{L:Nat}{X:Nat→Int}{c:Int}(hc:KeepsTo n b th room m t ver N L X c false 0 0 t')(hb:Below w.heap.size w w5):
 KeepPost w n b th room m t ver N L X (.returned (.tuple #[.agg #[.bool false,.int .i64 0,.slice none 0 0],.int .i64 c])) (put3 w5 (w.heap.size+3) (.bool false) (.int .i64 0) (.slice none 0 0)) :=
 ⟨put3_below hb (by omega),c,false,0,.slice none 0 0,0,fun _=>.int .i64 0,t',rfl,⟨none,0,rfl,⟨Nat.le_refl _,by omega⟩,Or.inl rfl⟩,hc⟩
theorem keeps_ok{w w5:World}{n:Nat}{b:Bk}{th:Bool}{room:Int}{m:Nat}{t:Kt}{ver N:Int}{L:Nat}{X:Nat→Int}{v uv:Value}{UV:Nat→Value}{g cap:Nat}{l:List Nat}(hk:KeSl w w.heap.size v m UV t)(hu:IntSl w w.heap.size uv L X)(hr:RowC w5 g (m+1) (snocU m UV uv) (snocT m t ver N L X) l)(hl:l.Perm (List.range (m+1)))(hg:g<w5.heap.size)(hg2:g≠w.heap.size+3)(hcap:m+1≤cap)(hm:m≤1000)
 (hc:KeepsTo n b th room m t ver N L X 0 th room (m+1) (selT (snocT m t ver N L X) l)) (hb:Below w.heap.size w w5) :
 KeepPost w n b th room m t ver N L X (.returned (.tuple #[.agg #[.bool th,.int .i64 room,.slice (some ⟨g,0,none⟩) (m+1) cap],.int .i64 0])) (put3 w5 (w.heap.size+3) (.bool th) (.int .i64 room) (.slice (some ⟨g,0,none⟩) (m+1) cap)):=by
 have hB:Below w.heap.size w (put3 w5 (w.heap.size+3) (.bool th) (.int .i64 room) (.slice (some ⟨g,0,none⟩) (m+1) cap)):=put3_below hb (by omega)
 refine⟨hB,0,th,room,_,m+1,_,_,rfl,rowC_kel (hr.keep (put3_other hg2)) (by rw[hl.length_eq];simp) ?_ hcap (by omega) (snoc_ints hk hu hB hl),hc⟩
 simpa[put3,World.setCell]using hg
end Go.Proofs.YtajmnlhfnhbleaaGreat
