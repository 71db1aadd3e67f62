/- Several texts of one proof, in their order. -/
import Derived.Test.YtajmnlhfnhbleaaGreatRows
import Derived.WalkSpells
import Derived.Handy
import Derived.Shelf.Small.Wraps
import Derived.Shelf.Sort.Plain
import Derived.Shelf.Slices.Turned
import Derived.Shelf.Slices.Clone
import Derived.Shelf.Slices.SearchI
import Derived.Shelf.Slices.In.SortNone
import Derived.Shelf.Slices.Empties2
import Derived.Shelf.SlSortCmp.NoneTotal
namespace Go.Proofs.YtajmnlhfnhbleaaGreat
open Go.ChangeShapes Go.WideShapes Go.ChangeAt Go.RowKit
set_option linter.unusedVariables false
theorem Tryz.own:ownKnob Tryz.prog.godebug=none:=by kernel_rfl
theorem Tryz.laidOut:laidOutB Tryz.prog=true:=by kernel_rfl
theorem Tryz.cellsInt:Tryz.prog.cellsOf 3=1:=by kernel_rfl
theorem Tryz.bytesInt:Tryz.prog.bytesOf 3=8:=by kernel_rfl
structure SlArg(W:World)(a:Option Addr)(len cap:Nat)(X:Nat→Int):Prop where
 le:len≤cap
 reach:cap*8≤140737488351232
 cells:len=0∨∃b off,a=some ⟨b,off,none⟩∧b<W.heap.size∧∀j,j<len→W.cell? ⟨b,off+j,none⟩=some (.int .i64 (X j))
 wf:∀j,j<len → -9223372036854775808≤X j∧X j≤9223372036854775807
theorem cell_lt{w:World}{a:Addr}{v:Value}(h:w.cell? a=some v):a.block<w.heap.size:=by
 rcases Nat.lt_or_ge a.block w.heap.size with h1|h1;·exact h1
 rw[World.cell?]at h;simp[Array.getElem?_eq_none h1]at h
theorem slArg_open{H:Type}{enc:TypeId×Value→H}{W:World}{T:TypeId}{a:Option Addr}{len cap:Nat}{d:DataW H}{p:List MemPlace}
 (ht:Tryz.prog.underlying T=some (.slice 3))
 (h:DataW.Trod enc Tryz.prog W 0 (fun _=>true) true T (.slice a len cap) d p)
 (hs:∀elems spare,d=.slice elems spare→(elems.length+spare.length)*Tryz.prog.bytesOf 3≤reachBytes):∃X,SlArg W a len cap X:=by
 obtain⟨fuel,hf⟩:=h
 rcases open_ints ht Tryz.underlying3 Tryz.cellsInt hf with⟨hcs,_⟩|⟨x,l,c,zs,hcs,_,hl,hm,hz,hx,hcell,hwz⟩
 ·simp[Value.cells]at hcs
  obtain⟨rfl,rfl,rfl⟩:=hcs;exact⟨fun _=>0,Nat.le_refl _,by omega,Or.inl rfl,fun j hj=>by omega⟩
 ·simp[Value.cells]at hcs
  obtain⟨rfl,rfl,rfl⟩:=hcs;simp only[if_true]at hz;have hd:d=.slice (lits .i64 (zs.take len)) (lits .i64 (zs.drop len)):=congrArg Prod.fst hx;have hr:=hs _ _ hd;rw[Tryz.bytesInt]at hr;simp only[lits,List.length_map,List.length_take,List.length_drop,reachBytes]at hr;refine⟨fun j=>zs.getD j 0,hl,by omega,?_,?_⟩
  ·by_cases h0:len=0
   ·exact Or.inl h0
   obtain⟨b,off,rfl,hc⟩:=ints_at hcell (by omega);exact Or.inr ⟨b,off,rfl,cell_lt (hc 0 (by omega)),fun j hj=>hc j (by omega)⟩
  intro j hj;have h1:zs.getD j 0∈zs:=by
   have hj':j<zs.length:=by omega
   rw[List.getD_eq_getElem?_getD,List.getElem?_eq_getElem hj'];exact List.getElem_mem hj'
  have h2:=hwz _ h1;have h3:IntKind.i64.min = -9223372036854775808:=rfl;have h4:IntKind.i64.max=9223372036854775807:=rfl;simp only[Lit.wf,Bool.and_eq_true,decide_eq_true_eq]at h2;omega
theorem hid{p:Prop}(h:p):Hid p:=h
def IntSl(w:World)(B:Nat)(v:Value)(n:Nat)(X:Nat→Int):Prop :=
 ∃(ad:Option Addr) (cap:Nat),v=.slice ad n cap∧(n≤cap∧n*8≤140737488351232)∧(n=0∨∃b off,ad=some ⟨b,off,none⟩∧b<B∧∀j,j<n→w.cell? ⟨b,off+j,none⟩=some (.int .i64 (X j)))
theorem IntSl.below{w w':World}{B:Nat}{v:Value}{n:Nat}{X:Nat→Int}(h:IntSl w B v n X)(hb:Below B w w'):IntSl w' B v n X:=by
 obtain⟨ad,cap,h1,h0,h2⟩:=h;refine⟨ad,cap,h1,h0,?_⟩;rcases h2 with h2|⟨b,off,h3,h4,h5⟩;·exact Or.inl h2
 exact Or.inr ⟨b,off,h3,h4,fun j hj=>by rw[hb.cell h4];exact h5 j hj⟩
theorem IntSl.mono{w:World}{B B':Nat}{v:Value}{n:Nat}{X:Nat→Int}(h:IntSl w B v n X)(hb:B≤B'):IntSl w B' v n X:=by
 obtain⟨ad,cap,h1,h0,h2⟩:=h;refine⟨ad,cap,h1,h0,?_⟩;rcases h2 with h2|⟨b,off,h3,h4,h5⟩;·exact Or.inl h2
 exact Or.inr ⟨b,off,h3,by omega,h5⟩
def fstAt(X:Nat→Int)(v:Int):Nat→Nat→Int
 |0,_ => -1
 |m+1,k=>if v=X k then(k:Int)else fstAt X v m (k+1)
theorem fstAt_neg(X:Nat→Int)(v:Int)(m:Nat):∀k,(0≤fstAt X v m k↔∃j,k≤j∧j<k+m∧X j=v):=by
 induction m with
 | zero => intro k; simp only [fstAt]; constructor
           ·intro h;omega
           ·rintro⟨j,h1,h2,_⟩;omega
 |succ m ih =>
  intro k;simp only[fstAt];by_cases h:v=X k
  ·rw[if_pos h]
   constructor;·intro _;exact⟨k,by omega,by omega,h.symm⟩
   intro _;omega
  rw[if_neg h,ih (k+1)];constructor;·rintro⟨j,h1,h2,h3⟩;exact⟨j,by omega,by omega,h3⟩
  rintro⟨j,h1,h2,h3⟩;by_cases hj:j=k;·subst hj;exact absurd h3.symm h
  exact⟨j,by omega,by omega,h3⟩
theorem index_any(b off n c:Nat)(X:Nat→Int)(v:Int)(w:World)(hbig:n*8≤140737488351232)
 (hc:∀j,j<n→w.cell? ⟨b,off+j,none⟩=some (.int .i64 (X j))) :
 Calls Tryz.prog 97 #[.slice (some ⟨b,off,none⟩) n c,.int .i64 v] w fun e w'=>e=.returned (.int .i64 (fstAt X v n 0))∧w'=w:=by
 have HC:Hid (∀j,j<n→w.cell? ⟨b,off+j,none⟩=some (.int .i64 (X j))):=hc
 clear hc
 go_enter Tryz.func97,Tryz.ntmps97
 go_wp2
 go_loop [8] (fun i=>∃k:Nat,k≤n∧i=.int .i64 k∧fstAt X v (n-k) k=fstAt X v n 0) (fun i=>n-(intOf i).toNat)
 case atStart=>exact⟨0,Nat.zero_le _,rfl,rfl⟩
 case round =>
  obtain⟨k,hk,rfl,hf⟩:=hrel;have HF:Hid (fstAt X v (n-k) k=fstAt X v n 0):=hf;clear hf;by_cases hlt:k<n
  ·have hcell:=HC.out k hlt
   have hi:(k:Int)<(n:Int):=by omega
   obtain⟨u,hu⟩:∃u,X k=u:=⟨_,rfl⟩;rw[hu]at hcell;have HU:Hid (X k=u):=hu;clear hu;by_cases he:v=u
   ·have heq:(v==u)=true:=by simp[he]
    have HE:Hid (v=u):=he;clear he;go_wp2;go_ret;refine⟨?_,rfl⟩;have h1:=HF.out;rw[show n-k=(n-k-1)+1 by omega]at h1;simp only[fstAt]at h1;rw[if_pos (by rw[HU.out];exact HE.out)]at h1;rw[←h1];rfl
   have heq:(v==u)=false:=by simp[he]
   have HE:Hid (¬v=u):=he;clear he;go_wp2;have h1:=HF.out;rw[show n-k=(n-(k+1))+1 by omega]at h1;simp only[fstAt]at h1;rw[if_neg (by rw[HU.out];exact HE.out)]at h1;go_round
   case rel=>exact⟨k+1,by omega,by go_num,h1⟩
   case measure=>simp only[intOf];omega
  have he:k=n:=by omega
  subst he;go_wp2;go_ret;refine⟨?_,rfl⟩;have h1:=HF.out;rw[Nat.sub_self]at h1;rw[←h1];rfl
def hasB(X:Nat→Int)(n:Nat)(v:Int):Bool:=decide (0≤fstAt X v n 0)
theorem hasB_iff(X:Nat→Int)(n:Nat)(v:Int):hasB X n v=true↔∃j,j<n∧X j=v:=by
 unfold hasB;rw[decide_eq_true_iff,fstAt_neg];constructor;·rintro⟨j,_,h2,h3⟩;exact⟨j,by omega,h3⟩
 rintro⟨j,h2,h3⟩;exact⟨j,by omega,by omega,h3⟩
theorem contains_any(b off n c:Nat)(X:Nat→Int)(v:Int)(w:World)(hbig:n*8≤140737488351232)
 (hc:∀j,j<n→w.cell? ⟨b,off+j,none⟩=some (.int .i64 (X j))) :
 Calls Tryz.prog 55 #[.slice (some ⟨b,off,none⟩) n c,.int .i64 v] w fun e w'=>e=.returned (.bool (hasB X n v))∧w'=w:=by
 have HC:Hid (∀j,j<n→w.cell? ⟨b,off+j,none⟩=some (.int .i64 (X j))):=hc
 clear hc
 unfold hasB
 go_enter Tryz.func55,Tryz.ntmps55
 go_wp2_with(go_at_call 97;go_must(refine(index_any _ _ _ _ X _ _ hbig HC.out).mono ?_;rintro e w' ⟨rfl,rfl⟩))
 go_ret
 exact⟨rfl,rfl⟩
theorem contains_none(ad:Option Addr)(c:Nat)(v:Int)(w:World):
 Calls Tryz.prog 55 #[.slice ad 0 c,.int .i64 v] w fun e w'=>e=.returned (.bool false)∧w'=w:=by
 go_enter Tryz.func55,Tryz.ntmps55
 go_wp2_with go_in
 refine wp_loop_rounds 1 ?_
 rw[rounds_succ]
 go_wp2
 go_ret
 exact⟨rfl,rfl⟩
end Go.Proofs.YtajmnlhfnhbleaaGreat
namespace Go.Proofs
open Go.Shelf
set_option linter.unusedVariables false
def Tryz.lays189_ren:Go.Shelf.Ren:=⟨fun|189=>143|125=>166|257=>165|128=>184|129=>185|294=>175|295=>176|296=>177|297=>178|298=>179|299=>180|216=>181|300=>182|301=>183|328=>208|329=>209|330=>210|331=>211|332=>212|215=>172|343=>222|n=>n,fun|28=>28|3=>3|46=>186|0=>0|51=>202|53=>204|4=>4|183=>194|182=>193|131=>199|5=>5|9=>9|218=>217|222=>221|228=>227|229=>228|n=>n,fun|n=>n⟩
theorem Tryz.lays189:Go.Proofs.Lays.n189 Tryz.prog Tryz.lays189_ren:={
 mixed:=by kernel_rfl
 f125:=Tryz.func166.trans (congrArg some (by kernel_rfl))
 f128:=Tryz.func184.trans (congrArg some (by kernel_rfl))
 f129:=Tryz.func185.trans (congrArg some (by kernel_rfl))
 f189:=Tryz.func143.trans (congrArg some (by kernel_rfl))
 f215:=Tryz.func172.trans (congrArg some (by kernel_rfl))
 f216:=Tryz.func181.trans (congrArg some (by kernel_rfl))
 f257:=Tryz.func165.trans (congrArg some (by kernel_rfl))
 f294:=Tryz.func175.trans (congrArg some (by kernel_rfl))
 f295:=Tryz.func176.trans (congrArg some (by kernel_rfl))
 f296:=Tryz.func177.trans (congrArg some (by kernel_rfl))
 f297:=Tryz.func178.trans (congrArg some (by kernel_rfl))
 f298:=Tryz.func179.trans (congrArg some (by kernel_rfl))
 f299:=Tryz.func180.trans (congrArg some (by kernel_rfl))
 f300:=Tryz.func182.trans (congrArg some (by kernel_rfl))
 f301:=Tryz.func183.trans (congrArg some (by kernel_rfl))
 f328:=Tryz.func208.trans (congrArg some (by kernel_rfl))
 f329:=Tryz.func209.trans (congrArg some (by kernel_rfl))
 f330:=Tryz.func210.trans (congrArg some (by kernel_rfl))
 f331:=Tryz.func211.trans (congrArg some (by kernel_rfl))
 f332:=Tryz.func212.trans (congrArg some (by kernel_rfl))
 f343:=Tryz.func222.trans (congrArg some (by kernel_rfl))
 t0:=Tryz.underlying0
 a0:=Tryz.isAgg0
 z0:=Tryz.sizeOf0
 v0:=Tryz.zeroValue0
 t3:=Tryz.underlying3
 a3:=Tryz.isAgg3
 z3:=Tryz.sizeOf3
 v3:=Tryz.zeroValue3
 t4:=Tryz.underlying4
 a4:=Tryz.isAgg4
 z4:=Tryz.sizeOf4
 v4:=Tryz.zeroValue4
 t5:=Tryz.underlying5
 a5:=Tryz.isAgg5
 z5:=Tryz.sizeOf5
 v5:=Tryz.zeroValue5
 t9:=Tryz.underlying9
 a9:=Tryz.isAgg9
 z9:=Tryz.sizeOf9
 v9:=Tryz.zeroValue9
 t28:=Tryz.underlying28
 a28:=Tryz.isAgg28
 z28:=Tryz.sizeOf28
 v28:=Tryz.zeroValue28
 t46:=Tryz.underlying186
 a46:=Tryz.isAgg186
 z46:=Tryz.sizeOf186
 v46:=Tryz.zeroValue186
 t51:=Tryz.underlying202
 a51:=Tryz.isAgg202
 z51:=Tryz.sizeOf202
 v51:=Tryz.zeroValue202
 t53:=Tryz.underlying204
 a53:=Tryz.isAgg204
 z53:=Tryz.sizeOf204
 v53:=Tryz.zeroValue204
 t131:=Tryz.underlying199
 a131:=Tryz.isAgg199
 z131:=Tryz.sizeOf199
 v131:=Tryz.zeroValue199
 t182:=Tryz.underlying193
 a182:=Tryz.isAgg193
 z182:=Tryz.sizeOf193
 v182:=Tryz.zeroValue193
 t183:=Tryz.underlying194
 a183:=Tryz.isAgg194
 z183:=Tryz.sizeOf194
 v183:=Tryz.zeroValue194
 t218:=Tryz.underlying217
 a218:=Tryz.isAgg217
 z218:=Tryz.sizeOf217
 v218:=Tryz.zeroValue217
 t222:=Tryz.underlying221
 a222:=Tryz.isAgg221
 z222:=Tryz.sizeOf221
 v222:=Tryz.zeroValue221
 t228:=Tryz.underlying227
 a228:=Tryz.isAgg227
 z228:=Tryz.sizeOf227
 v228:=Tryz.zeroValue227
 t229:=Tryz.underlying228
 a229:=Tryz.isAgg228
 z229:=Tryz.sizeOf228
 v229:=Tryz.zeroValue228 }
open Go.Sort Go.RowKit in
theorem Tryz.slices_Sort_int(blk off cap:Nat)(zs:List Int)(w:World)(hH:Holds (Value.int .i64) w blk off zs.toArray)(hblk:blk<w.heap.size)(hsz:zs.length<4611686018427387904):
 Calls Tryz.prog 143 #[.slice (some ⟨blk,off,none⟩) zs.length cap] w fun e w' =>
  e=.returned (.tuple #[])∧∃n os,w'=grow (putRow (Value.int .i64) (Sort.ahead w n) blk off (zs.mergeSort fun x y=>decide (x≤y)).toArray) os:=Any.slices_Sort_int Tryz.lays189 blk off cap zs w hH hblk hsz
def Tryz.lays111_ren:Go.Shelf.Ren:=⟨fun|111=>32|n=>n,fun|28=>28|3=>3|4=>4|0=>0|n=>n,fun|n=>n⟩
theorem Tryz.lays111:Go.Proofs.Lays.n111 Tryz.prog Tryz.lays111_ren:={
 mixed:=by kernel_rfl
 f111:=Tryz.func32.trans (congrArg some (by kernel_rfl))
 t0:=Tryz.underlying0
 a0:=Tryz.isAgg0
 z0:=Tryz.sizeOf0
 v0:=Tryz.zeroValue0
 t3:=Tryz.underlying3
 a3:=Tryz.isAgg3
 z3:=Tryz.sizeOf3
 v3:=Tryz.zeroValue3
 t4:=Tryz.underlying4
 a4:=Tryz.isAgg4
 z4:=Tryz.sizeOf4
 v4:=Tryz.zeroValue4
 t28:=Tryz.underlying28
 a28:=Tryz.isAgg28
 z28:=Tryz.sizeOf28
 v28:=Tryz.zeroValue28 }
open Go.RowKit Go.Lib in
theorem Tryz.slices_Equal_int(b1 o1 n c b2 o2 m d:Nat)(xs ys:List Int)(w:World)(hx:n≤xs.length)(hy:m≤ys.length)(hbig:n≤9223372036854775807)(hbig2:m≤9223372036854775807)(hc1:∀j,j<xs.length→w.cell? ⟨b1,o1+j,none⟩=some (.int .i64 (xs.getD j 0)))(hc2:∀j,j<ys.length→w.cell? ⟨b2,o2+j,none⟩=some (.int .i64 (ys.getD j 0))):
 Calls Tryz.prog 32 #[.slice (some ⟨b1,o1,none⟩) n c,.slice (some ⟨b2,o2,none⟩) m d] w fun e w'=>e=.returned (.bool (xs.take n==ys.take m))∧∃q,w'=w.drewN q:=Any.slices_Equal_int Tryz.lays111 b1 o1 n c b2 o2 m d xs ys w hx hy hbig hbig2 hc1 hc2
open Go.RowKit Go.Lib in
theorem Tryz.slices_Equal_int_empty(a1 a2:Option Addr)(c m d:Nat)(w:World)(hbig2:m≤9223372036854775807):
 Calls Tryz.prog 32 #[.slice a1 0 c,.slice a2 m d] w fun e w'=>e=.returned (.bool (decide (m=0)))∧w'=w:=Any.slices_Equal_int_empty Tryz.lays111 a1 a2 c m d w hbig2
open Go.RowKit Go.Sort in
theorem Tryz.slices_Sort_int_none(p:Option Addr)(cap:Nat)(w:World):
 Calls Tryz.prog 143 #[.slice p 0 cap] w fun e w'=>e=.returned (.tuple #[])∧w'=w:=Any.slices_Sort_int_none Tryz.lays189 p cap w
open Go.RowKit Go.Lib in
theorem Tryz.slices_Equal_int_lens(a1 a2:Option Addr)(n c m d:Nat)(w:World)(hnm:n≠m):
 Calls Tryz.prog 32 #[.slice a1 n c,.slice a2 m d] w fun e w'=>e=.returned (.bool false)∧w'=w:=Any.slices_Equal_int_lens Tryz.lays111 a1 a2 n c m d w hnm
end Go.Proofs
namespace Go.Proofs.YtajmnlhfnhbleaaGreat
open Go.RowKit
set_option linter.unusedVariables false
structure Row(w0 wr:World)(g n:Nat)(C:Nat→Int):Prop where
 below:Below w0.heap.size w0 wr
 ge:w0.heap.size≤g
 cell:∀j,j<n→wr.cell? ⟨g,j,none⟩=some (.int .i64 (C j))
 free:∀j,j<n→wr.frozen? ⟨g,j,none⟩=false
theorem Row.drewN{w0 wr:World}{g n:Nat}{C:Nat→Int}(h:Row w0 wr g n C)(m:Nat):Row w0 (wr.drewN m) g n C :=
 ⟨h.below.trans ⟨rfl,rfl,rfl,Nat.le_refl _,fun _ _=>rfl⟩,h.ge,h.cell,h.free⟩
theorem Row.set{w0 wr:World}{g n:Nat}{C:Nat→Int}(h:Row w0 wr g n C)(i:Nat)(hi:i<n)(v:Int):Row w0 (wr.setCell ⟨g,i,none⟩ (.int .i64 v)) g n (fun j=>if j=i then v else C j):=by
 refine⟨Below.setCell h.below h.ge _,h.ge,fun j hj=>?_,fun j hj=>by rw[World.frozen?_setCell];exact h.free j hj⟩;by_cases hji:j=i
 ·subst hji
  simp only[if_true];exact World.cell?_setCell_same _ _ _ (h.cell j hj)
 simp only[if_neg hji];rw[World.cell?_setCell_other _ _ _ _ (by intro e;injection e with _ e2;exact hji e2.symm)];exact h.cell j hj
theorem Row.of_owns{w0 wr:World}{e:TypeId}{v:Value}{n:Nat}{xs:List Value}{C:Nat→Int}(hn:1≤n)(h:wr.ownsRow w0.heap.size e 1 v n xs)(hb:Below w0.heap.size w0 wr)
 (hx:∀j,j<n→xs[j]?=some (.int .i64 (C j))):∃g cap,v=.slice (some ⟨g,0,none⟩) n cap∧n≤cap∧Row w0 wr g n C:=by
 obtain⟨hl,h2⟩:=h
 rcases h2 with⟨_,h0⟩|⟨g,cap,cur,hv,hg,hh,hc1,hc2,hsz,hcur⟩
 ·omega
 ·refine⟨g,cap,hv,hc1,hb,hg,fun j hj=>?_,fun j hj=>?_⟩
  ·have h3:=hx j hj
   rw[←hcur]at h3;have h4:cur[j]?=some (.int .i64 (C j)):=by
    rw[List.getElem?_take]at h3;rw[if_pos (by omega)]at h3;simpa using h3
   simp[World.cell?,hh,h4]
  simp[World.frozen?,hh]
theorem SlArg.isl{w:World}{a:Option Addr}{len cap:Nat}{X:Nat→Int}(h:SlArg w a len cap X):IntSl w w.heap.size (.slice a len cap) len X :=
 ⟨a,cap,rfl,⟨h.le,by have:=h.le;have:=h.reach;omega⟩,h.cells⟩
theorem IntSl.up{w w':World}{v:Value}{n:Nat}{X:Nat→Int}(h:IntSl w w.heap.size v n X)(hb:Below w.heap.size w w'):IntSl w' w'.heap.size v n X :=
 (h.below hb).mono hb.size
theorem heap_two_old(w:World)(o1 o2:Obj):((w.alloc o1).alloc o2).heap[w.heap.size]?=some o1:=by
 rw[Below.heap_alloc _ _ _ (by simp)];exact heap_alloc_new _ _
theorem heap_two_new(w:World)(o1 o2:Obj):((w.alloc o1).alloc o2).heap[w.heap.size+1]?=some o2:=by
 have h:=heap_alloc_new (w.alloc o1) o2;simpa using h
theorem Tryz.infoInt:(Tryz.prog.info? 3).map (fun i=>(i.zero,i.size,i.bytes))=some (some (.int .i64 0),1,8):=by kernel_rfl
theorem IntSl.congr{w:World}{B:Nat}{v:Value}{n:Nat}{X Y:Nat→Int}(h:IntSl w B v n X)(e:∀j,j<n→X j=Y j):IntSl w B v n Y:=by
 obtain⟨ad,cap,h1,h0,h2⟩:=h;refine⟨ad,cap,h1,h0,?_⟩;rcases h2 with h2|⟨b,off,h3,h4,h5⟩;·exact Or.inl h2
 exact Or.inr ⟨b,off,h3,h4,fun j hj=>by rw[h5 j hj,e j hj]⟩
theorem Row.isl{w0 wr:World}{g n cap:Nat}{C:Nat→Int}(h:Row w0 wr g n C)(hc:n≤cap)(hr:n*8≤140737488351232):IntSl wr wr.heap.size (.slice (some ⟨g,0,none⟩) n cap) n C:=by
 refine⟨_,_,rfl,⟨hc,hr⟩,?_⟩;by_cases h0:n=0;·exact Or.inl h0
 exact Or.inr ⟨g,0,rfl,cell_lt (h.cell 0 (by omega)),fun j hj=>by rw[Nat.zero_add];exact h.cell j hj⟩
theorem Row.congr{w0 wr:World}{g n:Nat}{C D:Nat→Int}(h:Row w0 wr g n C)(e:∀j,j<n→C j=D j):Row w0 wr g n D :=
 ⟨h.below,h.ge,fun j hj=>by rw[h.cell j hj,e j hj],h.free⟩
theorem Row.other{w0 wr:World}{g n:Nat}{C:Nat→Int}(h:Row w0 wr g n C){a:Addr}(ha:a.block≠g)(hb:w0.heap.size≤a.block)(u:Value):Row w0 (wr.setCell a u) g n C:=by
 refine⟨Below.setCell h.below hb _,h.ge,fun j hj=>?_,fun j hj=>by rw[World.frozen?_setCell];exact h.free j hj⟩;rw[World.cell?_setCell_other _ _ _ _ (by intro e;rw[e]at ha;exact ha rfl)];exact h.cell j hj
theorem Row.trans{w0 wr w2:World}{g n:Nat}{C:Nat→Int}(h:Row w0 wr g n C)(hb:Below wr.heap.size wr w2):Row w0 w2 g n C:=by
 refine⟨h.below.trans (hb.mono h.below.size),h.ge,fun j hj=>?_,fun j hj=>?_⟩
 ·have hl:=cell_lt (h.cell j hj)
  rw[hb.cell hl];exact h.cell j hj
 have hl:=cell_lt (h.cell j hj);rw[hb.frozen hl];exact h.free j hj
theorem below_of_grown{w w':World}(h:w.grownBy w' none):Below w.heap.size w w' :=
 (Below.refl _ _).grown h (Nat.le_refl _) (fun k hk=>by cases hk)
theorem row_made{w w':World}{n:Nat}(ho:w'.ownsRow w.heap.size 3 1 (.slice (some ⟨w.heap.size,0,none⟩) n n) n (madeCells (Value.int .i64 0).cells (n*1)).toList)(hg:w.grownBy w' none):
 Row w w' w.heap.size n (fun _=>0):=by
 by_cases h0:n=0
 ·subst h0
  exact⟨below_of_grown hg,Nat.le_refl _,fun j hj=>by omega,fun j hj=>by omega⟩
 ·obtain⟨g,cap,hv,_,hr⟩:=Row.of_owns (C:=fun _=>0) (by omega) ho (below_of_grown hg) (fun j hj=>by
   have e:(Value.int .i64 0).cells=#[Value.int .i64 0]:=rfl;rw[e,toList_madeCells_one];simp[hj])
  injection hv with h1 h2 h3;injection h1 with h4;injection h4 with h5;rw[h5];exact hr
def OwnI(w0 wr:World)(v:Value)(n:Nat)(C:Nat→Int):Prop:=wr.ownsRow w0.heap.size 3 1 v n ((List.range n).map fun j=>Value.int .i64 (C j))∧Below w0.heap.size w0 wr
theorem OwnI.nil(w:World)(C:Nat→Int):OwnI w w (.slice none 0 0) 0 C:=⟨World.ownsRow_nil _ _ _ _,Below.refl _ _⟩
theorem OwnI.row{w0 wr:World}{v:Value}{n:Nat}{C:Nat→Int}(h:OwnI w0 wr v n C)(hn:1≤n):∃g cap,v=.slice (some ⟨g,0,none⟩) n cap∧n≤cap∧Row w0 wr g n C :=
 Row.of_owns hn h.1 h.2 (fun j hj=>by simp[hj])
theorem OwnI.push{w0 wr w1:World}{v v':Value}{k:Nat}{C:Nat→Int}{x:Int}(h:OwnI w0 wr v k C)(o:Obj)(q:Nat)
 (ho:w1.ownsRow w0.heap.size 3 1 v' (k+1) (((List.range k).map fun j=>Value.int .i64 (C j))++[.int .i64 x])) (hg:((wr.drewN q).alloc o).grownBy w1 v.ownBlock) (hx:C k=x):OwnI w0 w1 v' (k+1) C:=by
 refine⟨?_,?_⟩
 ·rw[List.range_succ,List.map_append]
  simp only[List.map_cons,List.map_nil,hx];exact ho
 ·have hb:Below w0.heap.size w0 ((wr.drewN q).alloc o):=by
   have h1:Below w0.heap.size w0 (wr.drewN q):=h.2.trans ⟨rfl,rfl,rfl,Nat.le_refl _,fun _ _=>rfl⟩;exact h1.alloc h1.size o
  refine hb.grown hg hb.size (fun j hj=>?_);obtain⟨_,h2⟩:=h.1;rcases h2 with⟨rfl,_⟩|⟨g,cap,cur,rfl,hge,_⟩;·cases hj
  simp only[Value.ownBlock,Option.some.injEq]at hj;omega
theorem OwnI.owns{w0 wr:World}{v:Value}{k:Nat}{C:Nat→Int}(h:OwnI w0 wr v k C)(o:Obj)(q:Nat):((wr.drewN q).alloc o).ownsRow w0.heap.size 3 1 v k ((List.range k).map fun j=>Value.int .i64 (C j)) :=
 World.ownsRow.alloc (w:=wr.drewN q) h.1 o
theorem newCell(w:World)(x:Int)(T:TypeId):∀j u,([Value.int .i64 x]:List Value)[j]?=some u→(w.alloc (.cells #[.int .i64 x] T)).cell? (Addr.add ⟨w.heap.size,0,none⟩ j)=some u:=by
 intro j u hj;match j,hj with
 |0,hj=>simp at hj;subst hj;simp[Addr.add]
theorem oneCell(x:Int):∀u∈([Value.int .i64 x]:List Value),u.oneCell'=true:=by
 intro u hu;simp at hu;subst hu;rfl
def planV(nd of sz:Int):Value:=.agg #[.int .i64 nd,.int .i64 of,.int .i64 sz]
def shareV(N:Int)(V:Value):Value:=.agg #[.int .i64 N,V]
def planOk(nd of sz:Int):Bool:=decide ((1≤nd∧nd≤4)∧(nd≤of∧of≤8)∧(1≤sz∧sz≤24))
def chkP(nd of sz:Int):Int:=if planOk nd of sz=true then 0 else 2
def rowsN(nd sz:Int):Nat:=((sz+nd-1)/nd).toNat
def longP(nd of sz:Int):Int:=if planOk nd of sz=true then(rowsN nd sz:Int)else 0
def eqB(n m:Nat)(X Y:Nat→Int):Bool:=decide (n=m∧∀j,j<n→X j=Y j)
def Above(B:Nat)(v:Value):Prop:=∀ad n c,v=.slice (some ad) n c→B≤ad.block
theorem Above.mono'{B B':Nat}{v:Value}(h:Above B v)(hb:B'≤B):Above B' v:=fun ad n c e=>Nat.le_trans hb (h ad n c e)
theorem IntSl.set{w:World}{B bs:Nat}{v:Value}{n:Nat}{X:Nat→Int}(h:IntSl w B v n X)(ha:Above (bs+1) v)(o:Nat)(u:Value):IntSl (w.setCell ⟨bs,o,none⟩ u) B v n X:=by
 obtain⟨ad,cap,rfl,h0,h2⟩:=h;refine⟨ad,cap,rfl,h0,?_⟩;rcases h2 with h2|⟨b,off,rfl,h4,h5⟩;·exact Or.inl h2
 have hb:bs+1≤b:=ha _ _ _ rfl;exact Or.inr ⟨b,off,rfl,h4,fun j hj=>by rw[World.cell?_setCell_other _ _ _ _ (by intro e;injection e with e1;omega)];exact h5 j hj⟩
theorem equal_isl{w:World}{v1 v2:Value}{n m:Nat}{X Y:Nat→Int}{B:Nat}(h1:IntSl w B v1 n X)(h2:IntSl w B v2 m Y):
 Calls Tryz.prog 32 #[v1,v2] w fun e w'=>e=.returned (.bool (eqB n m X Y))∧∃k,w'=w.drewN k:=by
 obtain⟨a1,c1,rfl,⟨hc1,hr1⟩,hx⟩:=h1
 obtain⟨a2,c2,rfl,⟨hc2,hr2⟩,hy⟩:=h2
 by_cases hnm:n=m
 ·subst hnm
  rcases hx with h0|⟨b1,o1,rfl,_,hx⟩
  ·subst h0
   have e:eqB 0 0 X Y=true:=decide_eq_true ⟨rfl,fun j hj=>by omega⟩;rw[e];refine(Tryz.slices_Equal_int_empty a1 a2 c1 0 c2 w (by omega)).mono ?_;rintro e w' ⟨he,hw⟩;exact⟨by rw[he];rfl,0,by rw[hw];rfl⟩
  rcases hy with h0|⟨b2,o2,rfl,_,hy⟩
  ·subst h0
   have e:eqB 0 0 X Y=true:=decide_eq_true ⟨rfl,fun j hj=>by omega⟩;rw[e];refine(Tryz.slices_Equal_int_empty (some ⟨b1,o1,none⟩) a2 c1 0 c2 w (by omega)).mono ?_;rintro e w' ⟨he,hw⟩;exact⟨by rw[he];rfl,0,by rw[hw];rfl⟩
  refine(Tryz.slices_Equal_int b1 o1 n c1 b2 o2 n c2 ((List.range n).map X) ((List.range n).map Y) w (by simp) (by simp) (by omega) (by omega) (fun j hj=>?_) (fun j hj=>?_)).mono ?_
  ·have hj':j<n:=by simpa using hj
   rw[hx j hj'];simp[hj']
  ·have hj':j<n:=by simpa using hj
   rw[hy j hj'];simp[hj']
  rintro e w' ⟨he,hw⟩;refine⟨?_,hw⟩;rw[he];have e2:(((List.range n).map X).take n==((List.range n).map Y).take n)=eqB n n X Y:=by
   have h1:((List.range n).map X).take n=(List.range n).map X:=List.take_of_length_le (by simp);have h2:((List.range n).map Y).take n=(List.range n).map Y:=List.take_of_length_le (by simp);rw[h1,h2,Bool.eq_iff_iff];simp only[beq_iff_eq,eqB,decide_eq_true_eq,true_and];constructor
   ·intro h j hj
    have h3:=congrArg (fun l=>l[j]?) h;simpa[hj]using h3
   intro h;exact List.map_congr_left fun j hj=>h j (List.mem_range.1 hj)
  rw[e2]
 ·have e:eqB n m X Y=false:=decide_eq_false (fun h=>hnm h.1)
  rw[e];refine(Tryz.slices_Equal_int_lens a1 a2 n c1 m c2 w hnm).mono ?_;rintro e w' ⟨he,hw⟩;exact⟨he,0,by rw[hw];rfl⟩
theorem below_alloc(w:World)(o:Obj):Below w.heap.size w (w.alloc o):=(Below.refl _ _).alloc (Nat.le_refl _) _
theorem cell_at{w:World}{b i:Nat}{cs:Array Value}{T:TypeId}{v:Value}(hh:w.heap[b]?=some (.cells cs T))(h:cs[i]?=some v):w.cell? ⟨b,i,none⟩=some v:=by
 simp[World.cell?,hh,h]
theorem IntSl.alloc{w:World}{v:Value}{n:Nat}{X:Nat→Int}(h:IntSl w w.heap.size v n X)(o:Obj):IntSl (w.alloc o) (w.alloc o).heap.size v n X:=h.up (below_alloc w o)
theorem planOk_spec{nd of sz:Int}(h:planOk nd of sz=true):(1≤nd∧nd≤4)∧(nd≤of∧of≤8)∧(1≤sz∧sz≤24):=by
 unfold planOk at h;exact of_decide_eq_true h
theorem rowsN_bd{nd sz:Int}(h1:1≤nd∧nd≤4)(h2:1≤sz∧sz≤24):sz≤rowsN nd sz*nd∧((rowsN nd sz:Int)-1)*nd<sz∧1≤rowsN nd sz∧rowsN nd sz≤24∧rowsN nd sz*nd≤27:=by
 unfold rowsN;rcases(show nd=1∨nd=2∨nd=3∨nd=4 by omega)with rfl|rfl|rfl|rfl<;>omega
theorem frozen_at{w:World}{b i:Nat}{cs:Array Value}{T:TypeId}(hh:w.heap[b]?=some (.cells cs T)):w.frozen? ⟨b,i,none⟩=false:=by
 simp[World.frozen?,hh]
theorem made_block{w':World}{B g n:Nat}(ho:w'.ownsRow B 3 1 (.slice (some ⟨g,0,none⟩) n n) n (madeCells (Value.int .i64 0).cells (n*1)).toList):
 w'.heap[g]?=some (.cells (List.replicate n (Value.int .i64 0)).toArray 3 (0,0)):=by
 obtain⟨hl,h2⟩:=ho
 rcases h2 with⟨h1,_⟩|⟨g',cap,cur,hv,_,hh,hc1,hc2,hsz,hcur⟩
 ·cases h1
 ·injection hv with e1 _ e3
  injection e1 with e1;injection e1 with e1;subst e1 e3;have e:(Value.int .i64 0).cells=#[Value.int .i64 0]:=rfl;rw[e,toList_madeCells_one,List.take_of_length_le (by simp[hsz])]at hcur;rw[hh];congr 2;rw[←Array.toArray_toList (xs:=cur),hcur];simp
theorem Tryz.sizeInt:(Tryz.prog.info? 3).map (·.size)=some 1:=by kernel_rfl
theorem shCheck(nd of sz:Int)(w:World):Calls Tryz.prog 110 #[planV nd of sz] w fun e w'=>e=.returned (.int .i64 (chkP nd of sz))∧Below w.heap.size w w':=by
 have HB:=hid (below_alloc w (.cells #[.int .i64 nd,.int .i64 of,.int .i64 sz] 59));obtain⟨ans,hans⟩:∃a,chkP nd of sz=a:=⟨_,rfl⟩;rw[hans];unfold chkP planOk at hans;unfold planV;by_cases h1:nd<1
 ·rw[if_neg (by rw[decide_eq_true_iff];omega)]at hans
  subst hans;go_enter Tryz.func110,Tryz.ntmps110;go_wp2;go_ret;exact⟨rfl,HB.out⟩
 by_cases h2:4<nd
 ·rw[if_neg (by rw[decide_eq_true_iff];omega)]at hans
  subst hans;go_enter Tryz.func110,Tryz.ntmps110;go_wp2;go_ret;exact⟨rfl,HB.out⟩
 by_cases h3:of<nd
 ·rw[if_neg (by rw[decide_eq_true_iff];omega)]at hans
  subst hans;go_enter Tryz.func110,Tryz.ntmps110;go_wp2;go_ret;exact⟨rfl,HB.out⟩
 by_cases h4:8<of
 ·rw[if_neg (by rw[decide_eq_true_iff];omega)]at hans
  subst hans;go_enter Tryz.func110,Tryz.ntmps110;go_wp2;go_ret;exact⟨rfl,HB.out⟩
 by_cases h5:sz<1
 ·rw[if_neg (by rw[decide_eq_true_iff];omega)]at hans
  subst hans;go_enter Tryz.func110,Tryz.ntmps110;go_wp2;go_ret;exact⟨rfl,HB.out⟩
 by_cases h6:24<sz
 ·rw[if_neg (by rw[decide_eq_true_iff];omega)]at hans
  subst hans;go_enter Tryz.func110,Tryz.ntmps110;go_wp2;go_ret;exact⟨rfl,HB.out⟩
 rw[if_pos (by rw[decide_eq_true_iff];omega)]at hans;subst hans;go_enter Tryz.func110,Tryz.ntmps110;go_wp2;go_ret;exact⟨rfl,HB.out⟩
structure Bk where
 PL:Nat→Nat
 PX:Nat→Nat→Int
 nd:Nat→Int
 of:Nat→Int
 sz:Nat→Int
def VeSl(w:World)(B:Nat)(v:Value)(n:Nat)(PV:Nat→Value)(b:Bk):Prop :=
 ∃(ad:Option Addr) (cap:Nat),v=.slice ad n cap∧(n≤cap∧n*48≤140737488351232)∧(n=0∨∃bl off,ad=some ⟨bl,off,none⟩∧bl<B∧∀j,j<n →
  w.cell? ⟨bl,off+j*4,none⟩=some (PV j)∧w.cell? ⟨bl,off+j*4+1,none⟩=some (.int .i64 (b.nd j))∧w.cell? ⟨bl,off+j*4+2,none⟩=some (.int .i64 (b.of j))∧w.cell? ⟨bl,off+j*4+3,none⟩=some (.int .i64 (b.sz j))∧IntSl w B (PV j) (b.PL j) (b.PX j))
theorem VeSl.below{w w':World}{B:Nat}{v:Value}{n:Nat}{PV:Nat→Value}{b:Bk}(h:VeSl w B v n PV b)(hb:Below B w w'):VeSl w' B v n PV b:=by
 obtain⟨ad,cap,h1,h0,h2⟩:=h;refine⟨ad,cap,h1,h0,?_⟩;rcases h2 with h2|⟨bl,off,h3,h4,h5⟩;·exact Or.inl h2
 refine Or.inr ⟨bl,off,h3,h4,fun j hj=>?_⟩;obtain⟨g1,g2,g3,g4,g5⟩:=h5 j hj;exact⟨by rw[hb.cell h4];exact g1,by rw[hb.cell h4];exact g2,by rw[hb.cell h4];exact g3,by rw[hb.cell h4];exact g4,g5.below hb⟩
theorem VeSl.mono{w:World}{B B':Nat}{v:Value}{n:Nat}{PV:Nat→Value}{b:Bk}(h:VeSl w B v n PV b)(hb:B≤B'):VeSl w B' v n PV b:=by
 obtain⟨ad,cap,h1,h0,h2⟩:=h;refine⟨ad,cap,h1,h0,?_⟩;rcases h2 with h2|⟨bl,off,h3,h4,h5⟩;·exact Or.inl h2
 refine Or.inr ⟨bl,off,h3,by omega,fun j hj=>?_⟩;obtain⟨g1,g2,g3,g4,g5⟩:=h5 j hj;exact⟨g1,g2,g3,g4,g5.mono hb⟩
theorem VeSl.up{w w':World}{v:Value}{n:Nat}{PV:Nat→Value}{b:Bk}(h:VeSl w w.heap.size v n PV b)(hb:Below w.heap.size w w'):VeSl w' w'.heap.size v n PV b:=(h.below hb).mono hb.size
def verV(pv:Value)(nd of sz:Int):Value:=.agg #[pv,.int .i64 nd,.int .i64 of,.int .i64 sz]
def bookV(v:Value):Value:=.agg #[v]
def parE(k:Int)(X:Nat→Int):Nat→Nat→Int→Int
 |0,_,_=>0
 |f+1,i,last=>if X i<0∨k≤X i then 4 else if X i≤last then 5 else parE k X f (i+1) (X i)
def verE(b:Bk)(k:Nat):Int:=if parE k (b.PX k) (b.PL k) 0 (-1)=0 then chkP (b.nd k) (b.of k) (b.sz k)else parE k (b.PX k) (b.PL k) 0 (-1)
def scanV(b:Bk):Nat→Nat→Int
 |0,_=>0
 |f+1,k=>if verE b k=0 then scanV b f (k+1)else verE b k
def bookE(n:Nat)(b:Bk):Int:=if n≤12 then scanV b n 0 else 1
end Go.Proofs.YtajmnlhfnhbleaaGreat
