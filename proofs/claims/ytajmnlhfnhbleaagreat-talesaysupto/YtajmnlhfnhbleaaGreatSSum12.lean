/- Several texts of one proof, in their order. -/
import Derived.Test.YtajmnlhfnhbleaaGreatSSum9
namespace Go.Proofs.YtajmnlhfnhbleaaGreat
open Go.RowKit CurveMath
set_option linter.unusedVariables false
set_option maxHeartbeats 8000000
set_option maxRecDepth 10000
theorem flatS_eqv{n:Nat}{N N':Nat→Int}{V V':Nat→Value}(h:∀j,j<n→N j=N' j∧V j=V' j):flatS n N V=flatS n N' V':=by
 unfold flatS;refine List.map_congr_left fun i hi=>?_;have hi2:=List.mem_range.1 hi;obtain⟨h1,h2⟩:=h (i/2) (by omega);unfold cellS;rw[h1,h2]
theorem flatS_snoc(P:Ps)(UV:Nat→Nat→Value)(l:List (Nat×Nat))(k i:Nat):flatS (l++[(k,i)]).length (nL P (l++[(k,i)])) (vaL UV (l++[(k,i)]))=flatS l.length (nL P l) (vaL UV l)++[.int .i64 ((P.t k).N i),UV k i]:=by
 rw[List.length_append,show[(k,i)].length=1 from rfl,flatS_succ];have e1:nL P (l++[(k,i)]) l.length=(P.t k).N i:=by unfold nL;rw[getD_new]
 have e2:vaL UV (l++[(k,i)]) l.length=UV k i:=by unfold vaL;rw[getD_new]
 rw[e1,e2];congr 1;exact flatS_eqv fun j hj=>by unfold nL vaL;rw[getD_old _ _ _ hj];exact⟨rfl,rfl⟩
theorem seenN_snoc(P:Ps)(l:List (Nat×Nat))(k i:Nat)(N:Int):seenN P (l++[(k,i)]) N=(seenN P l N||decide ((P.t k).N i=N)):=by
 unfold seenN;rw[List.any_append];simp
theorem row_ne{wr:World}{base:Nat}{e:TypeId}{size n:Nat}{v:Value}{xs:List Value}{g:Nat}{cs:Array Value}{T:TypeId}{fz:Nat×Nat}(h:wr.ownsRow base e size v n xs)(hb:wr.heap[g]?=some (.cells cs T fz))(hT:T≠e):some g≠v.ownBlock:=by
 obtain⟨_,h2⟩:=h;rcases h2 with⟨rfl,_⟩|⟨g',cap,cur,rfl,_,hh,_⟩;·intro e;cases e
 intro e;injection e with e;subst e;rw[hb]at hh;injection hh with hh;injection hh with _ h3 _;exact hT h3
theorem cells_pr(w:World)(N:Int)(v:Value)(T:TypeId):∀j u,([.int .i64 N,v]:List Value)[j]?=some u→(w.alloc (.cells #[.int .i64 N,v] T)).cell? (Addr.add ⟨w.heap.size,0,none⟩ j)=some u:=by
 intro j u hj;rw[Addr.add_lit];match j,hj with
 |0,hj=>simp at hj;subst hj;exact cell_at (heap_alloc_new _ _) rfl
 |1,hj=>simp at hj;subst hj;exact cell_at (heap_alloc_new _ _) rfl
theorem rest_err{w w':World}{n:Nat}{b:Bk}{np:Nat}{P:Ps}{k c:Int}(hb:Below w.heap.size w w')(hc:verM n b np P k=c)(h0:c≠0):RestPost w n b np P k (.returned (.tuple #[.slice none 0 0,.slice none 0 0,.int .i64 c])) w':=by
 have h1:rsE n b np P k=c:=by unfold rsE;rw[hc,if_neg h0]
 have h2:rsB n b np P k=[]:=by unfold rsB;rw[hc,if_neg h0]
 refine⟨hb,.slice none 0 0,.slice none 0 0,0,by rw[h1],by rw[h1,if_neg h0];rfl,⟨none,0,rfl,⟨Nat.le_refl _,by omega⟩,Or.inl rfl⟩,?_⟩;rw[h2];exact⟨none,0,rfl,⟨Nat.le_refl _,by simp⟩,Or.inl rfl⟩
theorem rest_of{w w1 w':World}{n:Nat}{b:Bk}{np:Nat}{P:Ps}{k:Int}{e:Ending}(hb:Below w.heap.size w w1)(hv:verM n b np P k=0)(h:MostPost w1 (b.nd k.toNat) (b.of k.toNat) (b.sz k.toNat) (thereL P k np).length (nT P (thereL P k np)) (lT P (thereL P k np)) (xT P (thereL P k np)) e w'):RestPost w n b np P k e w':=by
 obtain⟨h1,r,bb,m,h2,h3,h4,h5⟩:=h;refine⟨hb.trans (h1.mono hb.size),r,bb,m,?_,?_,h4,?_⟩;·unfold rsE;rw[if_pos hv];exact h2
 ·unfold rsE;rw[if_pos hv];exact h3
 unfold rsB;rw[if_pos hv];exact h5
theorem seen_hit{P:Ps}{l l':List (Nat×Nat)}{c:Int→Int}{M k i:Nat}{N:Int}(h:∀x,0≤c x∧c x≤(M:Int))(hc:∀x,c x=0↔seenN P l x=false)(hN:(P.t k).N i=N)(hl:l'=if(!seenN P l N)=true then l++[(k,i)]else l):
 (∀x,0≤(if x=N then c N+1 else c x)∧(if x=N then c N+1 else c x)≤((M+1:Nat):Int))∧∀x,(if x=N then c N+1 else c x)=0↔seenN P l' x=false:=by
 have hcN:=h N
 refine⟨fun x=>?_,fun x=>?_⟩
 ·have:=h x
  by_cases e:x=N;·rw[if_pos e];omega
  rw[if_neg e];omega
 ·by_cases e:x=N
  ·subst e
   rw[if_pos rfl];constructor;·intro h9;omega
   intro h9;exfalso;rw[hl]at h9;cases hs:seenN P l x with
   |true=>rw[hs,Bool.not_true,if_neg (by decide),hs]at h9;cases h9
   |false=>rw[hs,Bool.not_false,if_pos rfl,seenN_snoc,hN,decide_eq_true rfl,Bool.or_true]at h9;cases h9
  rw[if_neg e,hc x,hl];cases hs:seenN P l N with
  |true=>rw[Bool.not_true,if_neg (by decide)]
  |false=>rw[Bool.not_false,if_pos rfl,seenN_snoc,hN,decide_eq_false (fun h=>e h.symm),Bool.or_false]
theorem nums_hit{T:List Int}{c:Int→Int}{M:Nat}{N:Int}(h:∀x,0≤c x∧c x≤(M:Int))(hc:∀x,c x=0↔T.contains x=false):
 (∀x,0≤(if x=N then c N+1 else c x)∧(if x=N then c N+1 else c x)≤((M+1:Nat):Int))∧∀x,(if x=N then c N+1 else c x)=0↔(T++[N]).contains x=false:=by
 have hcN:=h N
 refine⟨fun x=>?_,fun x=>?_⟩
 ·have:=h x
  by_cases e:x=N;·rw[if_pos e];omega
  rw[if_neg e];omega
 ·by_cases e:x=N
  ·subst e
   rw[if_pos rfl];constructor;·intro h9;omega
   intro h9;simp at h9
  rw[if_neg e,hc x];simp[e]
theorem thAll_has{n:Nat}{b:Bk}{np:Nat}{P:Ps}(h:MeshR n b np P)(ver:Int){k:Nat}(hk:k<np):thAll P ver (k+1)=if(hasK P ver k && !seenN P (thAll P ver k) (numK P ver k))=true then thAll P ver k++[(k,atK P ver k)]else thAll P ver k:=by
 rw[thAll_succ];exact thRow_has (fun i j hij hj=>(h.peer k hk).rise i j hij hj) _
theorem thAll_len{n:Nat}{b:Bk}{np:Nat}{P:Ps}(h:MeshR n b np P)(ver:Int):∀k,k≤np→(thAll P ver k).length≤k:=by
 intro k;induction k with
 |zero=>intro _;exact Nat.le_refl _
 |succ k ih =>
  intro hk;have:=ih (by omega);rw[thAll_has h ver (by omega)];split;·rw[List.length_append];simp;omega
  omega
theorem split_ok{d m s:Nat}{D:Nat→Int}(hp:planOk (d:Int) (m:Int) (s:Int)=true)(hD:∀j,0≤D j∧D j≤30):splitE (d:Int) (m:Int) (s:Int) s D=0:=by
 unfold splitE;rw[if_pos hp,if_pos rfl,if_pos];unfold numsB;refine decide_eq_true fun j _=>?_;have:=hD j;unfold isNum;simp;omega
section
structure ThInv(w wr:World)(vb vl:Value)(P:Ps)(UV:Nat→Nat→Value)(l s:List (Nat×Nat))(vo:Value):Prop where
 below:Below w.heap.size w wr
 box:wr.heap[w.heap.size]?=some (.cells #[vb,vl] 27 (0,0))
 seen:∃cs:Array Value,wr.heap[w.heap.size+1]?=some (.cells cs 126 (0,0))∧cs.size=8∧∀q,q<8→cs[q]?=some (.bool (seenN P s q))
 row:wr.ownsRow (w.heap.size+2) 81 2 vo l.length (flatS l.length (nL P l) (vaL UV l))
section
variable {w wr w' : World} {vb vl : Value} {P : Ps} {UV : Nat → Nat → Value} {l s : List (Nat × Nat)} {vo : Value}
theorem ThInv.up(h:ThInv w wr vb vl P UV l s vo)(hb:Below wr.heap.size wr w'):ThInv w w' vb vl P UV l s vo:=by
 obtain⟨cs,h1,h2,h3⟩:=h.seen;exact⟨h.below.trans (hb.mono h.below.size),stayB h.box hb,⟨cs,stayB h1 hb,h2,h3⟩,owns_below h.row hb⟩
theorem ThInv.mark(h:ThInv w wr vb vl P UV l s vo){k i q:Nat}(hq:q<8)(hN:(P.t k).N i=(q:Int)):ThInv w (wr.setCell ⟨w.heap.size+1,q,none⟩ (.bool true)) vb vl P UV l (s++[(k,i)]) vo:=by
 obtain⟨cs,h1,h2,h3⟩:=h.seen;refine⟨h.below.setCell (p:=⟨w.heap.size+1,q,none⟩) (by show w.heap.size≤w.heap.size+1;omega) _,?_,⟨cs.set! q (.bool true),?_,by simpa using h2,fun x hx=>?_⟩,?_⟩;·rw[Below.heap_setCell _ _ _ _ (by show w.heap.size≠w.heap.size+1;omega)];exact h.box
 ·simp[World.setCell,Array.getElem?_modify,h1]
 ·rw[seenN_snoc,hN]
  by_cases e:x=q
  ·subst e
   simp[h2,hx]
  have e2:¬(q:Int)=(x:Int):=by omega
  rw[decide_eq_false e2,Bool.or_false,←h3 x hx];simp[Ne.symm e]
 exact ownsRow_setCell_below h.row (by show w.heap.size+1<w.heap.size+2;omega) _
theorem ThInv.push(h:ThInv w wr vb vl P UV l s vo){k i:Nat}{v1:Value}{o:Obj}(ho:w'.ownsRow (w.heap.size+2) 81 2 v1 (l.length+1) (flatS l.length (nL P l) (vaL UV l)++[.int .i64 ((P.t k).N i),UV k i]))(hg:(wr.alloc o).grownBy w' vo.ownBlock):ThInv w w' vb vl P UV (l++[(k,i)]) s v1:=by
 have hA:=h.up (below_alloc wr o);obtain⟨cs,h1,h2,h3⟩:=hA.seen;refine⟨hA.below.grown hg hA.below.size (fun g hgg=>Nat.le_trans (by omega) (hA.row.lt g hgg).1),?_,⟨cs,?_,h2,h3⟩,?_⟩;·rw[hg.block _ (Array.getElem?_eq_some_iff.1 hA.box).1 (row_ne hA.row hA.box (by decide))];exact hA.box
 ·rw[hg.block _ (Array.getElem?_eq_some_iff.1 h1).1 (row_ne hA.row h1 (by decide))];exact h1
 rw[flatS_snoc,List.length_append];exact ho
end
theorem there_any(vb vl:Value)(np:Nat)(KV:Nat→Value)(UV:Nat→Nat→Value)(P:Ps)(ver:Int)(w:World)(hvb:∃a n c,vb=.slice a n c)(hl:PsSl w w.heap.size vl np KV UV P)(hn:np≤8)(hm:∀k,k<np→P.m k≤20)(hN:∀k i,k<np→i<P.m k→0≤(P.t k).N i∧(P.t k).N i<8):
 Calls Tryz.prog 70 #[meshV vb vl,.int .i64 ver] w fun e w'=>Below w.heap.size w w'∧∃vo,e=.returned vo∧ShSl w' w'.heap.size vo (thereL P ver np).length (nL P (thereL P ver np)) (vaL UV (thereL P ver np)) (lL P (thereL P ver np)) (xL P (thereL P ver np)):=by
 obtain⟨ab,nb,cb,rfl⟩:=hvb
 have HL:=hid hl
 have HM:=hid hm
 have HN:=hid hN
 obtain⟨al,cl,rfl,_,_⟩:=hl
 obtain⟨ii,hii,hz0,hz1,hz2⟩:=info_parts Tryz.infoShare
 have hb0:=((Below.refl w.heap.size w).alloc (Nat.le_refl _) (.cells #[.slice ab nb cb,.slice al np cl] 27)).alloc (by simp) (.cells #[.bool false,.bool false,.bool false,.bool false,.bool false,.bool false,.bool false,.bool false] 126)
 have k0:=heap_two_old w (.cells #[.slice ab nb cb,.slice al np cl] 27) (.cells #[.bool false,.bool false,.bool false,.bool false,.bool false,.bool false,.bool false,.bool false] 126)
 have k1:=heap_two_new w (.cells #[.slice ab nb cb,.slice al np cl] 27) (.cells #[.bool false,.bool false,.bool false,.bool false,.bool false,.bool false,.bool false,.bool false] 126)
 have J0:Hid (ThInv w _ (.slice ab nb cb) (.slice al np cl) P UV (thAll P ver 0) (thAll P ver 0) (.slice none 0 0)):=⟨hb0,k0,⟨_,k1,rfl,fun q hq=>by
  match q,hq with
  |0,_=>rfl
  |1,_=>rfl
  |2,_=>rfl
  |3,_=>rfl
  |4,_=>rfl
  |5,_=>rfl
  |6,_=>rfl
  |7,_=>rfl⟩,World.ownsRow_nil _ _ _ _⟩
 have c1:=(two_at k0).2
 have HLen:Hid (∀f,f≤np→(thAll P ver f).length≤8):=fun f hf=>once_len (thAll_ok P ver np f hf).once (fun x hx=>by
  obtain⟨h1,h2,_⟩:=(thAll_ok P ver np f hf).at_ x hx;exact HN.out x.1 x.2 h1 h2)
 have HLen2:Hid (∀k f,k<np→f≤P.m k→(thRow P ver k (thAll P ver k) f).length≤8):=fun k f hk hf=>once_len ((thAll_ok P ver np k (by omega)).row hk f hf).once (fun x hx=>by
  obtain⟨h1,h2,_⟩:=((thAll_ok P ver np k (by omega)).row hk f hf).at_ x hx;exact HN.out x.1 x.2 h1 h2)
 clear hb0 k0 k1 hm hN
 unfold meshV thereL
 go_enter Tryz.func70,Tryz.ntmps70
 go_wp2
 clear c1
 go_loopw [5,14] (fun vo kv wr=>∃k:Nat,k≤np∧kv=.int .i64 k∧Hid (ThInv w wr (.slice ab nb cb) (.slice al np cl) P UV (thAll P ver k) (thAll P ver k) vo)) (fun _ kv _=>np-(intOf kv).toNat)
 case atStart=>exact⟨0,Nat.zero_le _,rfl,J0⟩
 case round =>
  obtain⟨k,hk,rfl,J⟩:=hrel;by_cases hlt:k<np
  ·have hki:(k:Int)<(np:Int):=by omega
   obtain⟨bl,off,rfl,hbl,g0,g1,g2,g3⟩:=(HL.out.up J.out.below).at hlt;have G3:=hid g3;obtain⟨ak,ck,hke,_,_⟩:=g3;rw[hke]at g2 G3;have hbA:=below_alloc wr (.cells #[.bool (P.th k),.int .i64 (P.rm k),.slice ak (P.m k) ck] 41);have kp:=heap_alloc_new wr (.cells #[.bool (P.th k),.int .i64 (P.rm k),.slice ak (P.m k) ck] 41);have JA:=hid (J.out.up hbA);have KP:=hid kp;have HKe:Hid (∀u,Below w.heap.size w u→KeSl u u.heap.size (.slice ak (P.m k) ck) (P.m k) (UV k) (P.t k)):=fun u hbu=>by
    obtain⟨_,_,_,_,_,_,_,h3⟩:=(HL.out.up hbu).at hlt;rw[hke]at h3;exact h3
   have hm20:=HM.out k hlt;go_wp2;obtain⟨W1,hW1⟩:∃u,wr.alloc (.cells #[.bool (P.th k),.int .i64 (P.rm k),.slice ak (P.m k) ck] 41)=u:=⟨_,rfl⟩;rw[hW1]at JA KP ⊢;obtain⟨bp,hbp⟩:∃g,wr.heap.size=g:=⟨_,rfl⟩;rw[hbp]at KP ⊢;clear g0 g1 g2 hbA kp hke hW1 hbp hbl J G3;obtain⟨w0,hw0⟩:∃w0,wr=w0:=⟨_,rfl⟩;subst hw0;go_loopw [5,21] (fun vo iv wz=>∃i:Nat,i≤P.m k∧iv=.int .i64 i∧Hid (ThInv w wz (.slice ab nb cb) (.slice (some ⟨bl,off,none⟩) np cl) P UV (thRow P ver k (thAll P ver k) i) (thRow P ver k (thAll P ver k) i) vo)∧Hid (wz.heap[bp]?=some (.cells #[.bool (P.th k),.int .i64 (P.rm k),.slice ak (P.m k) ck] 41 (0,0)))) (fun _ iv _=>P.m k-(intOf iv).toNat)
   case atStart=>exact⟨0,Nat.zero_le _,rfl,JA,KP⟩
   case round =>
    obtain⟨i,hi,rfl,JZ,KZ⟩:=hrel;by_cases hil:i<P.m k
    ·have hii2:(i:Int)<(P.m k:Int):=by omega
     obtain⟨b2,o2,rfl,_,x0,x1,x2,x3⟩:=(HKe.out wr JZ.out.below).at hil;obtain⟨au,cu,hue,_,_⟩:=x3;rw[hue]at x2;have hbB:=below_alloc wr (.cells #[.int .i64 ((P.t k).V i),.int .i64 ((P.t k).N i),.slice au ((P.t k).L i) cu] 83);have JB:=hid (JZ.out.up hbB);have KB:=hid (stayB KZ.out hbB);obtain⟨p0,p1,p2⟩:=three_at KB.out;have hNq:=HN.out k i hlt hil;have hst:=thRow_succ P ver k (thAll P ver k) i;have hln:=HLen2.out k i hlt (by omega);obtain⟨l,hl9⟩:∃l,thRow P ver k (thAll P ver k) i=l:=⟨_,rfl⟩;rw[hl9]at hst JB hln;obtain⟨q,hq⟩:∃q:Nat,(P.t k).N i=q:=⟨((P.t k).N i).toNat,by omega⟩;have hq8:q<8:=by omega
     have hqi:(q:Int)<8:=by omega
     obtain⟨cs,s1,s2,s3⟩:=JB.out.seen;have sc:=cell_at (i:=q) s1 (s3 q hq8);have sf:=frozen_at (i:=q) s1;unfold thStep isTh at hst;rw[hq]at hst x1 JB KB p0 p1 p2 sc sf;obtain⟨x,hxx⟩:∃x,(P.t k).V i=x:=⟨_,rfl⟩;rw[hxx]at hst x0 JB KB p0 p1 p2 sc sf;obtain⟨sn,hsn⟩:∃b,seenN P l (q:Int)=b:=⟨_,rfl⟩;rw[hsn]at hst sc;obtain⟨tk,htk⟩:∃b,P.th k=b:=⟨_,rfl⟩;rw[htk]at hst p0;have HQ:=hid hq;have HU:=hid hue;clear hbB s1 s2 s3 hxx hsn hue hl9 hq htk;cases tk with
     |false =>
      rw[Bool.false_and,Bool.false_and,if_neg (by decide)]at hst;have HSt:=hid hst;clear hst;go_wp2;go_roundw
      case rel=>exact⟨i+1,by omega,by go_num,by rw[HSt.out];exact JB.out,KB⟩
      case measure=>simp only[intOf];omega
     |true =>
      rw[Bool.true_and]at hst;by_cases hxv:x=ver
      ·have hxb:(x==ver)=true:=by rw[beq_iff_eq];exact hxv
       rw[decide_eq_true hxv,Bool.true_and]at hst;clear hxv;cases sn with
       |true =>
        rw[Bool.not_true,if_neg (by decide)]at hst;have HSt:=hid hst;clear hst;go_wp2;go_roundw
        case rel=>exact⟨i+1,by omega,by go_num,by rw[HSt.out];exact JB.out,KB⟩
        case measure=>simp only[intOf];omega
       |false =>
        rw[Bool.not_false,if_pos rfl]at hst;have HSt:=hid hst;clear hst;have hsl:w.heap.size+1<wr.heap.size:=by
         obtain⟨cs,s1,_⟩:=JZ.out.seen;exact(Array.getElem?_eq_some_iff.1 s1).1
        have jc:=JB.out.mark hq8 HQ.out;have y0:=heap_alloc_new wr (.cells #[.int .i64 x,.int .i64 (q:Int),.slice au ((P.t k).L i) cu] 83);have y1:((wr.alloc (.cells #[.int .i64 x,.int .i64 (q:Int),.slice au ((P.t k).L i) cu] 83)).setCell ⟨w.heap.size+1,q,none⟩ (.bool true)).heap[wr.heap.size]?=_:=(Below.heap_setCell _ _ _ _ (by show wr.heap.size≠w.heap.size+1;omega)).trans y0;have hpl:bp<wr.heap.size:=(Array.getElem?_eq_some_iff.1 KZ.out).1;have hpn:bp≠w.heap.size+1:=fun e=>by
         obtain⟨cs,s1,_⟩:=JZ.out.seen;have h9:=KZ.out;rw[e,s1]at h9;injection h9 with h9;injection h9 with _ h9 _;exact absurd h9 (by decide)
        have y2:((wr.alloc (.cells #[.int .i64 x,.int .i64 (q:Int),.slice au ((P.t k).L i) cu] 83)).setCell ⟨w.heap.size+1,q,none⟩ (.bool true)).heap[bp]?=_:=(Below.heap_setCell _ _ _ _ hpn).trans KB.out;obtain⟨WC,hWC⟩:∃u,(wr.alloc (.cells #[.int .i64 x,.int .i64 (q:Int),.slice au ((P.t k).L i) cu] 83)).setCell ⟨w.heap.size+1,q,none⟩ (.bool true)=u:=⟨_,rfl⟩;rw[hWC]at jc y1 y2;have JC:=hid jc;have Y2:=hid y2;obtain⟨z0,z1,z2⟩:=three_at y1;have hge:w.heap.size+2≤WC.heap.size:=by
         obtain⟨cs,s1,_⟩:=JC.out.seen;have:=(Array.getElem?_eq_some_iff.1 s1).1;omega
        clear jc y0 y1 y2;go_wp2_with(at_builtin;go_must(refine wpList_append_own _ rfl (.tmp 45) (.tmp 48) 103 rfl (w.heap.size+2) 81 ii (.agg #[.int .i64 0,.slice none 0 0]) 2 32 Tryz.underlying103 hii hz0 hz1 hz2 rfl (by decide) _ _ _ rfl (World.ownsRow.alloc JC.out.row _) ⟨_,0,none⟩ 1 1 [.int .i64 (q:Int),.slice au ((P.t k).L i) cu] rfl rfl (cells_pr _ _ _ _) (by intro u hu;simp at hu;rcases hu with rfl|rfl<;>rfl) (by unfold maxLen;omega) (by omega) (by simp;omega) ?_;intro v1 w6 ho6 hg6 _;have HO6:=hid ho6;have HG6:=hid hg6;clear ho6 hg6))
        have hd:(P.t k).N i=(q:Int):=HQ.out;have J6:=hid (JC.out.push (k:=k) (i:=i) (by rw[hd,HU.out];exact HO6.out) HG6.out);have jA:=JC.out.up (below_alloc WC (.cells #[.int .i64 (q:Int),.slice au ((P.t k).L i) cu] 81));have K6:Hid (w6.heap[bp]?=some (.cells #[.bool (P.th k),.int .i64 (P.rm k),.slice (some ⟨b2,o2,none⟩) (P.m k) ck] 41 (0,0))):=by
         have h8:=stayB Y2.out (below_alloc WC (.cells #[.int .i64 (q:Int),.slice au ((P.t k).L i) cu] 81));show _=_;rw[HG6.out.block _ (Array.getElem?_eq_some_iff.1 h8).1 (row_ne jA.row h8 (by decide))];exact h8
        clear HO6 HG6 jA hd;go_roundw
        case rel=>exact⟨i+1,by omega,by go_num,by rw[HSt.out];exact J6.out,K6⟩
        case measure=>simp only[intOf];omega
      have hxb:(x==ver)=false:=by rw[beq_eq_false_iff_ne];exact hxv
      rw[decide_eq_false hxv,Bool.false_and,if_neg (by decide)]at hst;have HSt:=hid hst;clear hst hxv;go_wp2;go_roundw
      case rel=>exact⟨i+1,by omega,by go_num,by rw[HSt.out];exact JB.out,KB⟩
      case measure=>simp only[intOf];omega
    have hie:P.m k=i:=by omega
    have hil2:¬(i:Int)<(P.m k:Int):=by omega
    have hal:thAll P ver (k+1)=thRow P ver k (thAll P ver k) i:=by rw[thAll_succ,hie]
    have HAl:=hid hal;clear hal;go_wp2;go_roundw
    case rel=>exact⟨k+1,by omega,by go_num,by rw[HAl.out];exact JZ.out⟩
    case measure=>simp only[intOf];omega
  have hke:np=k:=by omega
  subst hke;have hlen:=HLen.out np (Nat.le_refl _);have hsl:ShSl wr wr.heap.size u5 (thAll P ver np).length (nL P (thAll P ver np)) (vaL UV (thAll P ver np)) (lL P (thAll P ver np)) (xL P (thAll P ver np)):=by
   refine OwnS.shl (w0:=w) ⟨owns_base J.out.row (by omega),J.out.below⟩ (by omega) fun j hj=>?_;obtain⟨h1,h2,_⟩:=(thAll_ok P ver np np (Nat.le_refl _)).at_ ((thAll P ver np).getD j (0,0)) (by rw[List.getD_eq_getElem?_getD,List.getElem?_eq_getElem hj];exact List.getElem_mem hj);exact(HL.out.up J.out.below).ints h1 h2
  have HS:=hid hsl;clear hsl;go_wp2;go_ret;exact⟨J.out.below,_,rfl,HS.out⟩
end
end Go.Proofs.YtajmnlhfnhbleaaGreat
namespace Go.Proofs
open Go.Shelf
set_option linter.unusedVariables false
def Tryz.sortLists_ren:Go.Shelf.Ren:=⟨fun|6=>159|15=>166|14=>174|28=>184|29=>185|20=>200|21=>201|22=>202|23=>203|24=>204|25=>205|26=>206|27=>207|46=>219|47=>209|48=>210|49=>220|50=>221|57=>226|n=>n,fun|22=>53|24=>28|25=>179|3=>3|39=>186|0=>0|53=>202|55=>204|4=>4|46=>194|45=>193|50=>199|5=>5|9=>9|66=>217|70=>221|76=>227|77=>228|n=>n,fun|n=>n⟩
theorem Tryz.sortLists:Go.Proofs.SlLaysF.n6 Tryz.prog Tryz.sortLists_ren:={
 mixed:=by kernel_rfl
 f6:=⟨Tryz.f159.name,by decide,Tryz.func159.trans (congrArg some (by kernel_rfl))⟩
 f14:=⟨Tryz.f174.name,by decide,Tryz.func174.trans (congrArg some (by kernel_rfl))⟩
 f15:=Tryz.func166.trans (congrArg some (by kernel_rfl))
 f20:=⟨Tryz.f200.name,by decide,Tryz.func200.trans (congrArg some (by kernel_rfl))⟩
 f21:=⟨Tryz.f201.name,by decide,Tryz.func201.trans (congrArg some (by kernel_rfl))⟩
 f22:=⟨Tryz.f202.name,by decide,Tryz.func202.trans (congrArg some (by kernel_rfl))⟩
 f23:=⟨Tryz.f203.name,by decide,Tryz.func203.trans (congrArg some (by kernel_rfl))⟩
 f24:=⟨Tryz.f204.name,by decide,Tryz.func204.trans (congrArg some (by kernel_rfl))⟩
 f25:=⟨Tryz.f205.name,by decide,Tryz.func205.trans (congrArg some (by kernel_rfl))⟩
 f26:=⟨Tryz.f206.name,by decide,Tryz.func206.trans (congrArg some (by kernel_rfl))⟩
 f27:=⟨Tryz.f207.name,by decide,Tryz.func207.trans (congrArg some (by kernel_rfl))⟩
 f28:=Tryz.func184.trans (congrArg some (by kernel_rfl))
 f29:=Tryz.func185.trans (congrArg some (by kernel_rfl))
 f46:=⟨Tryz.f219.name,by decide,Tryz.func219.trans (congrArg some (by kernel_rfl))⟩
 f47:=Tryz.func209.trans (congrArg some (by kernel_rfl))
 f48:=Tryz.func210.trans (congrArg some (by kernel_rfl))
 f49:=⟨Tryz.f220.name,by decide,Tryz.func220.trans (congrArg some (by kernel_rfl))⟩
 f50:=⟨Tryz.f221.name,by decide,Tryz.func221.trans (congrArg some (by kernel_rfl))⟩
 f57:=⟨Tryz.f226.name,by decide,Tryz.func226.trans (congrArg some (by kernel_rfl))⟩
 t0:=Tryz.underlying0
 a0:=Tryz.isAgg0
 z0:=Tryz.sizeOf0
 v0:=Tryz.zeroValue0
 t3:=Tryz.underlying3
 a3:=Tryz.isAgg3
 z3:=Tryz.sizeOf3
 v3:=Tryz.zeroValue3
 t4:=Tryz.underlying4
 a4:=Tryz.isAgg4
 z4:=Tryz.sizeOf4
 v4:=Tryz.zeroValue4
 t5:=Tryz.underlying5
 a5:=Tryz.isAgg5
 z5:=Tryz.sizeOf5
 v5:=Tryz.zeroValue5
 t9:=Tryz.underlying9
 a9:=Tryz.isAgg9
 z9:=Tryz.sizeOf9
 v9:=Tryz.zeroValue9
 t22:=Tryz.underlying53
 a22:=Tryz.isAgg53
 z22:=Tryz.sizeOf53
 v22:=Tryz.zeroValue53
 a24:=Tryz.isAgg28
 z24:=Tryz.sizeOf28
 t25:=Tryz.underlying179
 a25:=Tryz.isAgg179
 z25:=Tryz.sizeOf179
 v25:=Tryz.zeroValue179
 t39:=Tryz.underlying186
 a39:=Tryz.isAgg186
 z39:=Tryz.sizeOf186
 v39:=Tryz.zeroValue186
 t45:=Tryz.underlying193
 a45:=Tryz.isAgg193
 z45:=Tryz.sizeOf193
 v45:=Tryz.zeroValue193
 t46:=Tryz.underlying194
 a46:=Tryz.isAgg194
 z46:=Tryz.sizeOf194
 v46:=Tryz.zeroValue194
 t50:=Tryz.underlying199
 a50:=Tryz.isAgg199
 z50:=Tryz.sizeOf199
 v50:=Tryz.zeroValue199
 t53:=Tryz.underlying202
 a53:=Tryz.isAgg202
 z53:=Tryz.sizeOf202
 v53:=Tryz.zeroValue202
 t55:=Tryz.underlying204
 a55:=Tryz.isAgg204
 z55:=Tryz.sizeOf204
 v55:=Tryz.zeroValue204
 t66:=Tryz.underlying217
 a66:=Tryz.isAgg217
 z66:=Tryz.sizeOf217
 v66:=Tryz.zeroValue217
 t70:=Tryz.underlying221
 a70:=Tryz.isAgg221
 z70:=Tryz.sizeOf221
 v70:=Tryz.zeroValue221
 t76:=Tryz.underlying227
 a76:=Tryz.isAgg227
 z76:=Tryz.sizeOf227
 v76:=Tryz.zeroValue227
 t77:=Tryz.underlying228
 a77:=Tryz.isAgg228
 z77:=Tryz.sizeOf228
 v77:=Tryz.zeroValue228 }
end Go.Proofs
namespace Go.Proofs.YtajmnlhfnhbleaaGreat
open Go.RowKit CurveMath Go.Maps
set_option linter.unusedVariables false
def setX{H:Type}(u:DataW H)(X:Nat→Int)(k:Nat):DataW H:=setOf u ((List.range k).map fun j=>Lit.int .i64 (X j))
theorem setX_zero{H:Type}(u:DataW H)(X:Nat→Int):setX u X 0=.map []:=rfl
theorem setX_succ{H:Type}(u:DataW H)(X:Nat→Int)(k:Nat):setX u X (k+1)=(setX u X k).put (.int .i64 (X k)) u:=by
 unfold setX;rw[List.range_succ,List.map_append];exact setOf_snoc u _ _
theorem isMap_setX{H:Type}(u:DataW H)(X:Nat→Int)(k:Nat):IsMap (setX u X k):=by
 induction k with
 |zero=>rw[setX_zero];exact isMap_empty
 |succ k ih=>rw[setX_succ];exact ih.put _ _
theorem hasB_succ(X:Nat→Int)(k:Nat)(v:Int)(h:X k≠v):hasB X (k+1) v=hasB X k v:=by
 rw[Bool.eq_iff_iff,hasB_iff,hasB_iff];constructor
 ·rintro⟨j,hj,e⟩
  by_cases hjk:j=k;·subst hjk;exact absurd e h
  exact⟨j,by omega,e⟩
 rintro⟨j,hj,e⟩;exact⟨j,by omega,e⟩
theorem atKey_setX{H:Type}(u:DataW H)(X:Nat→Int)(k:Nat)(v:Int)(z:DataW H):(setX u X k).atKey (.int .i64 v) z=if hasB X k v=true then u else z:=by
 induction k with
 |zero=>rfl
 |succ k ih =>
  rw[setX_succ];by_cases h:X k=v
  ·subst h
   rw[atKey_put_same (isMap_setX u X k) (by simp[WideAt.IsKeyLit]),if_pos ((hasB_iff X (k+1) (X k)).2 ⟨k,by omega,rfl⟩)]
  rw[atKey_put_other (fun e=>h (by injection e with _ e2;exact e2.symm)),ih,hasB_succ X k v h]
end Go.Proofs.YtajmnlhfnhbleaaGreat
