/- Several texts of one proof, in their order. -/
import Derived.Test.YtajmnlhfnhbleaaGreatKw17
namespace Go.Proofs.YtajmnlhfnhbleaaGreat
open Go.RowKit
set_option linter.unusedVariables false
set_option maxHeartbeats 2000000
def OffK(vo v:Value)(m:Nat):Prop:=m=0∨∀ad n c,v=.slice (some ad) n c→some ad.block≠vo.ownBlock
def NewK(B:Nat)(w:World)(r:Value)(m:Nat)(UV:Nat→Value)(t:Kt):Prop:=NewV B w r∧∀i,i<m→t.L i=0∨NewV B w (UV i)
def KeepPostN(w:World)(n:Nat)(b:Bk)(th:Bool)(room:Int)(m:Nat)(t:Kt)(ver N:Int)(L:Nat)(X:Nat→Int)(e:Ending)(w':World):Prop :=
 Below w.heap.size w w'∧∃(er:Int) (th':Bool) (room':Int) (r:Value) (m':Nat) (UV':Nat→Value) (t':Kt),e=.returned (.tuple #[peerV th' room' r,.int .i64 er])∧KeSl w' w'.heap.size r m' UV' t'∧KeepsTo n b th room m t ver N L X er th' room' m' t'∧NewK w.heap.size w' r m' UV' t'
def DropPostN(w:World)(n:Nat)(b:Bk)(th:Bool)(room:Int)(m:Nat)(t:Kt)(ver:Int)(e:Ending)(w':World):Prop :=
 Below w.heap.size w w'∧∃(er:Int) (th':Bool) (room':Int) (r:Value) (m':Nat) (UV':Nat→Value) (t':Kt),e=.returned (.tuple #[peerV th' room' r,.int .i64 er])∧KeSl w' w'.heap.size r m' UV' t'∧DropsTo n b th room m t ver er th' room' m' t'∧NewK w.heap.size w' r m' UV' t'
theorem KeepPostN.old{w:World}{n:Nat}{b:Bk}{th:Bool}{room:Int}{m:Nat}{t:Kt}{ver N:Int}{L:Nat}{X:Nat→Int}{e:Ending}{w':World}(h:KeepPostN w n b th room m t ver N L X e w'):KeepPost w n b th room m t ver N L X e w':=by
 obtain⟨h1,er,th',room',r,m',UV',t',h2,h3,h4,_⟩:=h;exact⟨h1,er,th',room',r,m',UV',t',h2,h3,h4⟩
theorem DropPostN.old{w:World}{n:Nat}{b:Bk}{th:Bool}{room:Int}{m:Nat}{t:Kt}{ver:Int}{e:Ending}{w':World}(h:DropPostN w n b th room m t ver e w'):DropPost w n b th room m t ver e w':=by
 obtain⟨h1,er,th',room',r,m',UV',t',h2,h3,h4,_⟩:=h;exact⟨h1,er,th',room',r,m',UV',t',h2,h3,h4⟩
def KsOk(w0 wr:World)(v u:Value)(L:Nat)(X:Nat→Int):Prop:=IntSl wr wr.heap.size u L X∧Above w0.heap.size u∧OffK v u L∧(L=0∨NewV w0.heap.size wr u)
theorem KsOk.up{w0 wr w':World}{v u:Value}{L:Nat}{X:Nat→Int}(h:KsOk w0 wr v u L X)(hb:Below wr.heap.size wr w'):KsOk w0 w' v u L X :=
 ⟨h.1.up hb,h.2.1,h.2.2.1,h.2.2.2.imp id fun h=>h.up hb⟩
structure KsIn(w0 wr:World)(v:Value)(UV:Nat→Value)(t:Kt)(l:List Nat):Prop where
 own:OwnT w0 wr v UV t l
 at_:∀i,i∈l→KsOk w0 wr v (UV i) (t.L i) (t.X i)
theorem KsIn.nil(w:World)(UV:Nat→Value)(t:Kt):KsIn w w (.slice none 0 0) UV t []:=⟨OwnT.nil _ _ _,fun i hi=>by simp at hi⟩
theorem KsIn.up{w0 wr w':World}{v:Value}{UV:Nat→Value}{t:Kt}{l:List Nat}(h:KsIn w0 wr v UV t l)(hb:Below wr.heap.size wr w'):KsIn w0 w' v UV t l :=
 ⟨h.own.up hb,fun i hi=>(h.at_ i hi).up hb⟩
theorem KsIn.kel{w0 wr:World}{v:Value}{UV:Nat→Value}{t:Kt}{l:List Nat}(h:KsIn w0 wr v UV t l)(hr:l.length*40≤140737488351232):KeSl wr wr.heap.size v l.length (fun j=>UV (l.getD j 0)) (selT t l) :=
 rowT_kel h.own.1 hr fun i hi=>(h.at_ i hi).1
theorem offK_grown{w w':World}{vo v:Value}{m:Nat}{X:Nat→Int}(h:IntSl w w.heap.size v m X)(hg:w.grownBy w' vo.ownBlock)(ho:OffK vo v m):IntSl w' w'.heap.size v m X:=by
 obtain⟨ad,cap,rfl,h0,h2⟩:=h;refine⟨ad,cap,rfl,h0,?_⟩;rcases h2 with h2|⟨b,off,rfl,h4,h5⟩;·exact Or.inl h2
 rcases ho with ho|ho;·exact Or.inl ho
 exact Or.inr ⟨b,off,rfl,Nat.lt_of_lt_of_le h4 hg.size,fun j hj=>hg.cell (h5 j hj) (ho ⟨b,off,none⟩ _ _ rfl)⟩
theorem offK_step{w:World}{vo v1 v:Value}{m:Nat}{X:Nat→Int}(hv:IntSl w w.heap.size v m X)(hoff:OffK vo v m)(hat:v1.ownBlock=vo.ownBlock∨v1.ownBlock=some w.heap.size):OffK v1 v m:=by
 rcases hoff with h0|hoff;·exact Or.inl h0
 obtain⟨ad2,cap,rfl,h0,h2⟩:=hv;rcases h2 with h2|⟨b,off,rfl,h4,h5⟩;·exact Or.inl h2
 refine Or.inr fun ad n c e=>?_;injection e with e1 e2 e3;rcases hat with e|e;·rw[e];exact hoff ad n c (by rw[e1,e2,e3])
 rw[e];injection e1 with e1;subst e1;intro e5;injection e5 with e5;have h4':b<w.heap.size:=h4;have e5':b=w.heap.size:=e5;omega
theorem KsOk.grown{w0 w w':World}{vo v1 u:Value}{L:Nat}{X:Nat→Int}(h:KsOk w0 w vo u L X)(hg:w.grownBy w' vo.ownBlock)(hat:v1.ownBlock=vo.ownBlock∨v1.ownBlock=some w.heap.size):KsOk w0 w' v1 u L X:=by
 refine⟨offK_grown h.1 hg h.2.2.1,h.2.1,offK_step h.1 h.2.2.1 hat,?_⟩;rcases h.2.2.1 with h0|h0;·exact Or.inl h0
 rcases h.2.2.2 with h1|h1;·exact Or.inl h1
 exact Or.inr (h1.grown hg h0)
theorem offK_new{w0 wr:World}{vo v:Value}{UV:Nat→Value}{t:Kt}{l:List Nat}{m:Nat}(h:OwnT w0 wr vo UV t l)(ha:Above wr.heap.size v):OffK vo v m:=Or.inr fun ad n c e e2=>by
 have h1:=ha ad n c e;have h2:=(h.1.lt ad.block e2.symm).2;omega
def putU(UV:Nat→Value)(i:Nat)(u:Value):Nat→Value:=fun j=>if j=i then u else UV j
theorem KsIn.push{w0 w2 w3 w6:World}{v v1 u:Value}{UV:Nat→Value}{t:Kt}{l:List Nat}{i:Nat}(h:KsIn w0 w2 v UV t l)(hi:i∉l)(hb:Below w2.heap.size w2 w3)(hu:IntSl w3 w3.heap.size u (t.L i) (t.X i))(ha:NewV w2.heap.size w3 u)
 (ho:w6.ownsRow w0.heap.size 83 3 v1 (l.length+1) (flatI UV t l++[.int .i64 (t.V i),.int .i64 (t.N i),u])) (hg:w3.grownBy w6 v.ownBlock) (hat:v1.ownBlock=v.ownBlock∨v1.ownBlock=some w3.heap.size):KsIn w0 w6 v1 (putU UV i u) t (l++[i]):=by
 have h3:=h.up hb
 have e:flatI UV t l=flatI (putU UV i u) t l:=by
  refine flatI_congr fun j hj=>⟨rfl,rfl,?_⟩;have:j≠i:=fun e=>hi (e▸hj);simp[putU,this]
 have hput:putU UV i u i=u:=by simp[putU]
 have h3':OwnT w0 w3 v (putU UV i u) t l:=⟨by rw[←e];exact h3.own.1,h3.own.2⟩
 refine⟨h3'.push (by rw[←e,hput];exact ho) hg,fun j hj=>?_⟩
 rcases List.mem_append.1 hj with hj|hj
 ·have hne:j≠i:=fun e=>hi (e▸hj)
  have hp:putU UV i u j=UV j:=by simp[putU,hne]
  rw[hp];exact(h3.at_ j hj).grown hg hat
 ·have hj:j=i:=by simpa using hj
  subst hj;rw[hput];have hk:KsOk w0 w3 v u (t.L j) (t.X j):=⟨hu,ha.above.mono' h.own.2.size,offK_new h.own ha.above,Or.inr (ha.mono h.own.2.size)⟩;exact hk.grown hg hat
theorem KsIn.congr{w0 wr:World}{v:Value}{UV UV':Nat→Value}{t t':Kt}{l:List Nat}(h:KsIn w0 wr v UV t l)(e:∀i,i∈l→UV i=UV' i∧t.V i=t'.V i∧t.N i=t'.N i∧t.L i=t'.L i∧t.X i=t'.X i):KsIn w0 wr v UV' t' l:=by
 refine⟨⟨?_,h.own.2⟩,fun i hi=>?_⟩
 ·rw[←flatI_congr fun i hi=>⟨(e i hi).2.1,(e i hi).2.2.1,(e i hi).1⟩]
  exact h.own.1
 obtain⟨e1,_,_,e4,e5⟩:=e i hi;rw[←e1,←e4,←e5];exact h.at_ i hi
theorem KsIn.cat{w0 w w':World}{v v':Value}{UV:Nat→Value}{t:Kt}{l l2:List Nat}(h:KsIn w0 w v UV t l)(h2:∀i,i∈l2→KsOk w0 w v (UV i) (t.L i) (t.X i))
 (ho:w'.ownsRow w0.heap.size 83 3 v' (l.length+l2.length) (flatI UV t l++flatI UV t l2)) (hg:w.grownBy w' v.ownBlock) (hat:v'.ownBlock=v.ownBlock∨v'.ownBlock=some w.heap.size):KsIn w0 w' v' UV t (l++l2):=by
 refine⟨⟨?_,h.own.2.grown hg h.own.2.size (fun g hgg=>(h.own.1.lt g hgg).1)⟩,fun i hi=>?_⟩
 ·rw[List.length_append]
  have e:flatI UV t (l++l2)=flatI UV t l++flatI UV t l2:=by unfold flatI;rw[List.flatMap_append]
  rw[e];exact ho
 ·have h3:KsOk w0 w v (UV i) (t.L i) (t.X i):=by
   rcases List.mem_append.1 hi with hi|hi;·exact h.at_ i hi
   ·exact h2 i hi
  exact h3.grown hg hat
theorem isl_one{w:World}{B:Nat}{v:Value}{n:Nat}{X:Nat→Int}(h:IntSl w B v n X):v.oneCell'=true:=by
 obtain⟨ad,cap,rfl,_⟩:=h;rfl
def OffN(g:Nat)(v:Value)(m:Nat):Prop:=m=0∨∀ad n c,v=.slice (some ad) n c→ad.block≠g
theorem above_offN{B g m:Nat}{v:Value}(ha:Above B v)(hg:g<B):OffN g v m:=Or.inr fun ad n c e=>by
 have:=ha ad n c e;omega
theorem fresh_offN{w:World}{v:Value}{m g:Nat}{X:Nat→Int}(h:IntSl w w.heap.size v m X)(hg:w.heap.size≤g):OffN g v m:=by
 obtain⟨ad2,cap,rfl,h0,h2⟩:=h;rcases h2 with h2|⟨b,off,rfl,h4,h5⟩;·exact Or.inl h2
 refine Or.inr fun ad n c e=>?_;injection e with e1;injection e1 with e1;subst e1;show b≠g;omega
theorem isl_setN{w:World}{B g m:Nat}{v:Value}{X:Nat→Int}(h:IntSl w B v m X)(ho:OffN g v m)(o:Nat)(u:Value):IntSl (w.setCell ⟨g,o,none⟩ u) B v m X:=by
 obtain⟨ad,cap,rfl,h0,h2⟩:=h;refine⟨ad,cap,rfl,h0,?_⟩;rcases h2 with h2|⟨b,off,rfl,h4,h5⟩;·exact Or.inl h2
 rcases ho with ho|ho;·exact Or.inl ho
 refine Or.inr ⟨b,off,rfl,h4,fun j hj=>?_⟩;have hne:b≠g:=ho ⟨b,off,none⟩ _ _ rfl;rw[World.cell?_of_block (Below.heap_setCell _ _ _ _ (by show b≠g;exact hne))];exact h5 j hj
structure KsAt(base:Nat)(wr:World)(v:Value)(UV:Nat→Value)(t:Kt)(l:List Nat):Prop where
 row:wr.ownsRow base 83 3 v l.length (flatI UV t l)
 ints:∀i,i∈l→IntSl wr wr.heap.size (UV i) (t.L i) (t.X i)
theorem KsIn.out{w0 wr:World}{v:Value}{UV:Nat→Value}{t:Kt}{l:List Nat}(h:KsIn w0 wr v UV t l):KsAt w0.heap.size wr v UV t l:=⟨h.own.1,fun i hi=>(h.at_ i hi).1⟩
theorem KsAt.up{base:Nat}{wr w':World}{v:Value}{UV:Nat→Value}{t:Kt}{l:List Nat}(h:KsAt base wr v UV t l)(hb:Below wr.heap.size wr w'):KsAt base w' v UV t l:=⟨owns_below h.row hb,fun i hi=>(h.ints i hi).up hb⟩
theorem KsAt.set{base g:Nat}{wr:World}{v:Value}{UV:Nat→Value}{t:Kt}{l:List Nat}(h:KsAt base wr v UV t l)(hv:v.ownBlock≠some g)(hn:∀i,i∈l→OffN g (UV i) (t.L i))(o:Nat)(u:Value):KsAt base (wr.setCell ⟨g,o,none⟩ u) v UV t l :=
 ⟨owns_set_other h.row hv u,fun i hi=>by
  have h1:=isl_setN (h.ints i hi) (hn i hi) o u;rw[show(wr.setCell ⟨g,o,none⟩ u).heap.size=wr.heap.size by simp[World.setCell]];exact h1⟩
theorem KsAt.put3{base g:Nat}{wr:World}{v:Value}{UV:Nat→Value}{t:Kt}{l:List Nat}(h:KsAt base wr v UV t l)(hv:v.ownBlock≠some g)(hn:∀i,i∈l→OffN g (UV i) (t.L i))(u0 u1 u2:Value):KsAt base (put3 wr g u0 u1 u2) v UV t l :=
 ((h.set hv hn 0 u0).set hv hn 1 u1).set hv hn 2 u2
theorem KsAt.kel{base:Nat}{wr:World}{v:Value}{UV:Nat→Value}{t:Kt}{l:List Nat}(h:KsAt base wr v UV t l)(hr:l.length*40≤140737488351232):KeSl wr wr.heap.size v l.length (fun j=>UV (l.getD j 0)) (selT t l):=rowT_kel h.row hr h.ints
theorem peThoseA(bx:Nat)(vk:Value)(m:Nat)(UV:Nat→Value)(t:Kt)(p:Nat→Bool)(hm:m≤1000)(w:World)(h:KeSl w w.heap.size vk m UV t)
 (hp:∀i,i<m→∀w',Below w.heap.size w w'→Calls Tryz.prog 154 #[keptV (t.V i) (t.N i) (UV i),.pointer (some ⟨bx,0,none⟩)] w' fun e w''=>e=.returned (.bool (p i))∧Below w'.heap.size w' w'') :
 Calls Tryz.prog 121 #[vk,.func (.func 154) #[] #[.pointer (some ⟨bx,0,none⟩)]] w fun e w'=>Below w.heap.size w w'∧∃vo UV',e=.returned vo∧KsIn w w' vo UV' t (agL p m):=by
 obtain⟨ad,cap,rfl,⟨hcap,hbig⟩,hx⟩:=h
 have HX:=hid hx
 have HP:=hid hp
 obtain⟨ii,hii,hz0,hz1,hz2⟩:=info_parts Tryz.infoKept
 clear hx hp
 go_enter Tryz.func121,Tryz.ntmps121
 go_wp2
 go_loopw [5,10] (fun vo iv wr=>∃(j:Nat) (UVo:Nat→Value),j≤m∧iv=.int .i64 j∧Hid (KsIn w wr vo UVo t (agL p j))) (fun _ iv _=>m-(intOf iv).toNat)
 case atStart=>exact⟨0,fun _=>.int .i64 0,Nat.zero_le _,rfl,KsIn.nil _ _ _⟩
 case round =>
  obtain⟨k,UVo,hk,rfl,OW⟩:=hrel;by_cases hlt:k<m
  ·have hki:(k:Int)<(m:Int):=by omega
   have BR:=hid OW.out.own.2;rcases HX.out with h0|⟨bl,off,rfl,hbl,hx⟩;·omega
   obtain⟨x0,x1,x2,x3⟩:=hx k hlt;have HIs:Hid (∀u,Below w.heap.size w u→IntSl u u.heap.size (UV k) (t.L k) (t.X k)):=fun u hb=>x3.up hb;obtain⟨ap,cp,hpe,_,_⟩:=x3;have g0:wr.cell? ⟨bl,off+k*3,none⟩=some (.int .i64 (t.V k)):=by rw[BR.out.cell hbl];exact x0
   have g1:wr.cell? ⟨bl,off+k*3+1,none⟩=some (.int .i64 (t.N k)):=by rw[BR.out.cell hbl];exact x1
   have g2:wr.cell? ⟨bl,off+k*3+2,none⟩=some (UV k):=by rw[BR.out.cell hbl];exact x2
   rw[hpe]at g2 HIs;obtain⟨Z,hZ⟩:∃Z,wr.alloc (.cells #[.int .i64 (t.V k),.int .i64 (t.N k),.slice ap (t.L k) cp] 83)=Z:=⟨_,rfl⟩;have hbZ:Below wr.heap.size wr Z:=by rw[←hZ];exact below_alloc _ _
   have kz:Z.heap[wr.heap.size]?=some (.cells #[.int .i64 (t.V k),.int .i64 (t.N k),.slice ap (t.L k) cp] 83 (0,0)):=by rw[←hZ];exact heap_alloc_new wr _
   have OZ:=hid (OW.out.up hbZ);have HKz:=hid kz;obtain⟨z0,z1,z2⟩:=three_at kz;have HAk:=hid (HP.out k hlt Z OZ.out.own.2);rw[hpe]at HAk;unfold keptV at HAk;have hsc:=agL_succ p k;have hll:=agL_len p k;clear x0 x1 x2 hx hpe hbZ kz;cases hf:p k with
   |false =>
    rw[hf,if_neg (by decide),List.append_nil]at hsc;rw[hf]at HAk;have HSc:=hid hsc;clear hsc hf;go_wp2_with fail
    refine Calls.mono HAk.out ?_;rintro e w2 ⟨rfl,hb2⟩;have O2:=hid (OZ.out.up hb2);clear hb2;go_wp2;go_roundw
    case rel=>exact⟨k+1,UVo,by omega,by go_num,by rw[HSc.out];exact O2.out⟩
    case measure=>simp only[intOf];omega
   |true =>
    rw[hf,if_pos rfl]at hsc;rw[hf]at HAk;have HSc:=hid hsc;clear hsc hf;go_wp2_with fail
    refine Calls.mono HAk.out ?_;rintro e w2 ⟨rfl,hb2⟩;have O2:=hid (OZ.out.up hb2);obtain⟨y0,y1,y2⟩:=three_at (stayB HKz.out hb2);have HC:=hid (peOwn _ _ _ (t.V k) (t.N k) w2 (HIs.out _ O2.out.own.2));unfold keptV at HC;clear hb2 z0 z1 z2;go_wp2_with fail
    refine Calls.mono HC.out ?_;rintro e w3 ⟨hb3,u,rfl,hu,ha⟩;have HU:=hid hu;have HAb:=hid ha;have HB3:=hid hb3;obtain⟨au,cu,rfl,_,_⟩:=hu;have O3:=hid (O2.out.up hb3);have hge:w.heap.size≤w3.heap.size:=O3.out.own.2.size;have HCt:=hid (cells_three w3 (.int .i64 (t.V k)) (.int .i64 (t.N k)) (.slice au (t.L k) cu) 83);clear hb3 ha y0 y1 y2
    go_wp2_with(at_builtin;go_must(refine wpList_append_own_at _ rfl (.tmp 17) (.tmp 20) 39 rfl w.heap.size 83 ii (.agg #[.int .i64 0,.int .i64 0,.slice none 0 0]) 3 40 Tryz.underlying39 hii hz0 hz1 hz2 rfl (by decide) _ _ _ rfl (World.ownsRow.alloc O3.out.own.1 _) ⟨_,0,none⟩ 1 1 [.int .i64 (t.V k),.int .i64 (t.N k),.slice au (t.L k) cu] rfl rfl HCt.out (by intro u hu;simp at hu;rcases hu with rfl|rfl|rfl<;>rfl) (by unfold maxLen;omega) (by omega) (by simp;omega) ?_;intro v1 w6 ho6 hg6 _ hat6;have HO6:=hid ho6;have HG6:=hid hg6;have HAt:=hid hat6;clear ho6 hg6 hat6))
    have O6:KsIn w w6 v1 (putU UVo k (.slice au (t.L k) cu)) t (agL p k++[k]):=by
     have hbA:=below_alloc w3 (.cells #[.int .i64 (t.V k),.int .i64 (t.N k),.slice au (t.L k) cu] 83);exact O2.out.push (agL_notin p k) (HB3.out.trans (hbA.mono HB3.out.size)) (HU.out.up hbA) (HAb.out.up hbA) HO6.out HG6.out HAt.out
    go_roundw
    case rel=>exact⟨k+1,_,by omega,by go_num,by rw[HSc.out];exact O6⟩
    case measure=>simp only[intOf];omega
  have hke:m=k:=by omega
  subst hke;have hjn:¬(m:Int)<(m:Int):=by omega
  go_wp2;go_ret;exact⟨OW.out.own.2,_,rfl,UVo,OW.out⟩
theorem peThoseB(bx:Nat)(vk:Value)(m:Nat)(UV:Nat→Value)(t:Kt)(p:Nat→Bool)(hm:m≤1000)(w:World)(h:KeSl w w.heap.size vk m UV t)
 (hp:∀i,i<m→∀w',Below w.heap.size w w'→Calls Tryz.prog 155 #[keptV (t.V i) (t.N i) (UV i),.pointer (some ⟨bx,0,none⟩)] w' fun e w''=>e=.returned (.bool (p i))∧Below w'.heap.size w' w'') :
 Calls Tryz.prog 121 #[vk,.func (.func 155) #[] #[.pointer (some ⟨bx,0,none⟩)]] w fun e w'=>Below w.heap.size w w'∧∃vo UV',e=.returned vo∧KsIn w w' vo UV' t (agL p m):=by
 obtain⟨ad,cap,rfl,⟨hcap,hbig⟩,hx⟩:=h
 have HX:=hid hx
 have HP:=hid hp
 obtain⟨ii,hii,hz0,hz1,hz2⟩:=info_parts Tryz.infoKept
 clear hx hp
 go_enter Tryz.func121,Tryz.ntmps121
 go_wp2
 go_loopw [5,10] (fun vo iv wr=>∃(j:Nat) (UVo:Nat→Value),j≤m∧iv=.int .i64 j∧Hid (KsIn w wr vo UVo t (agL p j))) (fun _ iv _=>m-(intOf iv).toNat)
 case atStart=>exact⟨0,fun _=>.int .i64 0,Nat.zero_le _,rfl,KsIn.nil _ _ _⟩
 case round =>
  obtain⟨k,UVo,hk,rfl,OW⟩:=hrel;by_cases hlt:k<m
  ·have hki:(k:Int)<(m:Int):=by omega
   have BR:=hid OW.out.own.2;rcases HX.out with h0|⟨bl,off,rfl,hbl,hx⟩;·omega
   obtain⟨x0,x1,x2,x3⟩:=hx k hlt;have HIs:Hid (∀u,Below w.heap.size w u→IntSl u u.heap.size (UV k) (t.L k) (t.X k)):=fun u hb=>x3.up hb;obtain⟨ap,cp,hpe,_,_⟩:=x3;have g0:wr.cell? ⟨bl,off+k*3,none⟩=some (.int .i64 (t.V k)):=by rw[BR.out.cell hbl];exact x0
   have g1:wr.cell? ⟨bl,off+k*3+1,none⟩=some (.int .i64 (t.N k)):=by rw[BR.out.cell hbl];exact x1
   have g2:wr.cell? ⟨bl,off+k*3+2,none⟩=some (UV k):=by rw[BR.out.cell hbl];exact x2
   rw[hpe]at g2 HIs;obtain⟨Z,hZ⟩:∃Z,wr.alloc (.cells #[.int .i64 (t.V k),.int .i64 (t.N k),.slice ap (t.L k) cp] 83)=Z:=⟨_,rfl⟩;have hbZ:Below wr.heap.size wr Z:=by rw[←hZ];exact below_alloc _ _
   have kz:Z.heap[wr.heap.size]?=some (.cells #[.int .i64 (t.V k),.int .i64 (t.N k),.slice ap (t.L k) cp] 83 (0,0)):=by rw[←hZ];exact heap_alloc_new wr _
   have OZ:=hid (OW.out.up hbZ);have HKz:=hid kz;obtain⟨z0,z1,z2⟩:=three_at kz;have HAk:=hid (HP.out k hlt Z OZ.out.own.2);rw[hpe]at HAk;unfold keptV at HAk;have hsc:=agL_succ p k;have hll:=agL_len p k;clear x0 x1 x2 hx hpe hbZ kz;cases hf:p k with
   |false =>
    rw[hf,if_neg (by decide),List.append_nil]at hsc;rw[hf]at HAk;have HSc:=hid hsc;clear hsc hf;go_wp2_with fail
    refine Calls.mono HAk.out ?_;rintro e w2 ⟨rfl,hb2⟩;have O2:=hid (OZ.out.up hb2);clear hb2;go_wp2;go_roundw
    case rel=>exact⟨k+1,UVo,by omega,by go_num,by rw[HSc.out];exact O2.out⟩
    case measure=>simp only[intOf];omega
   |true =>
    rw[hf,if_pos rfl]at hsc;rw[hf]at HAk;have HSc:=hid hsc;clear hsc hf;go_wp2_with fail
    refine Calls.mono HAk.out ?_;rintro e w2 ⟨rfl,hb2⟩;have O2:=hid (OZ.out.up hb2);obtain⟨y0,y1,y2⟩:=three_at (stayB HKz.out hb2);have HC:=hid (peOwn _ _ _ (t.V k) (t.N k) w2 (HIs.out _ O2.out.own.2));unfold keptV at HC;clear hb2 z0 z1 z2;go_wp2_with fail
    refine Calls.mono HC.out ?_;rintro e w3 ⟨hb3,u,rfl,hu,ha⟩;have HU:=hid hu;have HAb:=hid ha;have HB3:=hid hb3;obtain⟨au,cu,rfl,_,_⟩:=hu;have O3:=hid (O2.out.up hb3);have hge:w.heap.size≤w3.heap.size:=O3.out.own.2.size;have HCt:=hid (cells_three w3 (.int .i64 (t.V k)) (.int .i64 (t.N k)) (.slice au (t.L k) cu) 83);clear hb3 ha y0 y1 y2
    go_wp2_with(at_builtin;go_must(refine wpList_append_own_at _ rfl (.tmp 17) (.tmp 20) 39 rfl w.heap.size 83 ii (.agg #[.int .i64 0,.int .i64 0,.slice none 0 0]) 3 40 Tryz.underlying39 hii hz0 hz1 hz2 rfl (by decide) _ _ _ rfl (World.ownsRow.alloc O3.out.own.1 _) ⟨_,0,none⟩ 1 1 [.int .i64 (t.V k),.int .i64 (t.N k),.slice au (t.L k) cu] rfl rfl HCt.out (by intro u hu;simp at hu;rcases hu with rfl|rfl|rfl<;>rfl) (by unfold maxLen;omega) (by omega) (by simp;omega) ?_;intro v1 w6 ho6 hg6 _ hat6;have HO6:=hid ho6;have HG6:=hid hg6;have HAt:=hid hat6;clear ho6 hg6 hat6))
    have O6:KsIn w w6 v1 (putU UVo k (.slice au (t.L k) cu)) t (agL p k++[k]):=by
     have hbA:=below_alloc w3 (.cells #[.int .i64 (t.V k),.int .i64 (t.N k),.slice au (t.L k) cu] 83);exact O2.out.push (agL_notin p k) (HB3.out.trans (hbA.mono HB3.out.size)) (HU.out.up hbA) (HAb.out.up hbA) HO6.out HG6.out HAt.out
    go_roundw
    case rel=>exact⟨k+1,_,by omega,by go_num,by rw[HSc.out];exact O6⟩
    case measure=>simp only[intOf];omega
  have hke:m=k:=by omega
  subst hke;have hjn:¬(m:Int)<(m:Int):=by omega
  go_wp2;go_ret;exact⟨OW.out.own.2,_,rfl,UVo,OW.out⟩
theorem peThoseD(bx:Nat)(vk:Value)(m:Nat)(UV:Nat→Value)(t:Kt)(p:Nat→Bool)(hm:m≤1000)(w:World)(h:KeSl w w.heap.size vk m UV t)
 (hp:∀i,i<m→∀w',Below w.heap.size w w'→Calls Tryz.prog 122 #[keptV (t.V i) (t.N i) (UV i),.pointer (some ⟨bx,0,none⟩)] w' fun e w''=>e=.returned (.bool (p i))∧Below w'.heap.size w' w'') :
 Calls Tryz.prog 121 #[vk,.func (.func 122) #[] #[.pointer (some ⟨bx,0,none⟩)]] w fun e w'=>Below w.heap.size w w'∧∃vo UV',e=.returned vo∧KsIn w w' vo UV' t (agL p m):=by
 obtain⟨ad,cap,rfl,⟨hcap,hbig⟩,hx⟩:=h
 have HX:=hid hx
 have HP:=hid hp
 obtain⟨ii,hii,hz0,hz1,hz2⟩:=info_parts Tryz.infoKept
 clear hx hp
 go_enter Tryz.func121,Tryz.ntmps121
 go_wp2
 go_loopw [5,10] (fun vo iv wr=>∃(j:Nat) (UVo:Nat→Value),j≤m∧iv=.int .i64 j∧Hid (KsIn w wr vo UVo t (agL p j))) (fun _ iv _=>m-(intOf iv).toNat)
 case atStart=>exact⟨0,fun _=>.int .i64 0,Nat.zero_le _,rfl,KsIn.nil _ _ _⟩
 case round =>
  obtain⟨k,UVo,hk,rfl,OW⟩:=hrel;by_cases hlt:k<m
  ·have hki:(k:Int)<(m:Int):=by omega
   have BR:=hid OW.out.own.2;rcases HX.out with h0|⟨bl,off,rfl,hbl,hx⟩;·omega
   obtain⟨x0,x1,x2,x3⟩:=hx k hlt;have HIs:Hid (∀u,Below w.heap.size w u→IntSl u u.heap.size (UV k) (t.L k) (t.X k)):=fun u hb=>x3.up hb;obtain⟨ap,cp,hpe,_,_⟩:=x3;have g0:wr.cell? ⟨bl,off+k*3,none⟩=some (.int .i64 (t.V k)):=by rw[BR.out.cell hbl];exact x0
   have g1:wr.cell? ⟨bl,off+k*3+1,none⟩=some (.int .i64 (t.N k)):=by rw[BR.out.cell hbl];exact x1
   have g2:wr.cell? ⟨bl,off+k*3+2,none⟩=some (UV k):=by rw[BR.out.cell hbl];exact x2
   rw[hpe]at g2 HIs;obtain⟨Z,hZ⟩:∃Z,wr.alloc (.cells #[.int .i64 (t.V k),.int .i64 (t.N k),.slice ap (t.L k) cp] 83)=Z:=⟨_,rfl⟩;have hbZ:Below wr.heap.size wr Z:=by rw[←hZ];exact below_alloc _ _
   have kz:Z.heap[wr.heap.size]?=some (.cells #[.int .i64 (t.V k),.int .i64 (t.N k),.slice ap (t.L k) cp] 83 (0,0)):=by rw[←hZ];exact heap_alloc_new wr _
   have OZ:=hid (OW.out.up hbZ);have HKz:=hid kz;obtain⟨z0,z1,z2⟩:=three_at kz;have HAk:=hid (HP.out k hlt Z OZ.out.own.2);rw[hpe]at HAk;unfold keptV at HAk;have hsc:=agL_succ p k;have hll:=agL_len p k;clear x0 x1 x2 hx hpe hbZ kz;cases hf:p k with
   |false =>
    rw[hf,if_neg (by decide),List.append_nil]at hsc;rw[hf]at HAk;have HSc:=hid hsc;clear hsc hf;go_wp2_with fail
    refine Calls.mono HAk.out ?_;rintro e w2 ⟨rfl,hb2⟩;have O2:=hid (OZ.out.up hb2);clear hb2;go_wp2;go_roundw
    case rel=>exact⟨k+1,UVo,by omega,by go_num,by rw[HSc.out];exact O2.out⟩
    case measure=>simp only[intOf];omega
   |true =>
    rw[hf,if_pos rfl]at hsc;rw[hf]at HAk;have HSc:=hid hsc;clear hsc hf;go_wp2_with fail
    refine Calls.mono HAk.out ?_;rintro e w2 ⟨rfl,hb2⟩;have O2:=hid (OZ.out.up hb2);obtain⟨y0,y1,y2⟩:=three_at (stayB HKz.out hb2);have HC:=hid (peOwn _ _ _ (t.V k) (t.N k) w2 (HIs.out _ O2.out.own.2));unfold keptV at HC;clear hb2 z0 z1 z2;go_wp2_with fail
    refine Calls.mono HC.out ?_;rintro e w3 ⟨hb3,u,rfl,hu,ha⟩;have HU:=hid hu;have HAb:=hid ha;have HB3:=hid hb3;obtain⟨au,cu,rfl,_,_⟩:=hu;have O3:=hid (O2.out.up hb3);have hge:w.heap.size≤w3.heap.size:=O3.out.own.2.size;have HCt:=hid (cells_three w3 (.int .i64 (t.V k)) (.int .i64 (t.N k)) (.slice au (t.L k) cu) 83);clear hb3 ha y0 y1 y2
    go_wp2_with(at_builtin;go_must(refine wpList_append_own_at _ rfl (.tmp 17) (.tmp 20) 39 rfl w.heap.size 83 ii (.agg #[.int .i64 0,.int .i64 0,.slice none 0 0]) 3 40 Tryz.underlying39 hii hz0 hz1 hz2 rfl (by decide) _ _ _ rfl (World.ownsRow.alloc O3.out.own.1 _) ⟨_,0,none⟩ 1 1 [.int .i64 (t.V k),.int .i64 (t.N k),.slice au (t.L k) cu] rfl rfl HCt.out (by intro u hu;simp at hu;rcases hu with rfl|rfl|rfl<;>rfl) (by unfold maxLen;omega) (by omega) (by simp;omega) ?_;intro v1 w6 ho6 hg6 _ hat6;have HO6:=hid ho6;have HG6:=hid hg6;have HAt:=hid hat6;clear ho6 hg6 hat6))
    have O6:KsIn w w6 v1 (putU UVo k (.slice au (t.L k) cu)) t (agL p k++[k]):=by
     have hbA:=below_alloc w3 (.cells #[.int .i64 (t.V k),.int .i64 (t.N k),.slice au (t.L k) cu] 83);exact O2.out.push (agL_notin p k) (HB3.out.trans (hbA.mono HB3.out.size)) (HU.out.up hbA) (HAb.out.up hbA) HO6.out HG6.out HAt.out
    go_roundw
    case rel=>exact⟨k+1,_,by omega,by go_num,by rw[HSc.out];exact O6⟩
    case measure=>simp only[intOf];omega
  have hke:m=k:=by omega
  subst hke;have hjn:¬(m:Int)<(m:Int):=by omega
  go_wp2;go_ret;exact⟨OW.out.own.2,_,rfl,UVo,OW.out⟩
end Go.Proofs.YtajmnlhfnhbleaaGreat
