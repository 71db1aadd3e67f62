/- Several texts of one proof, in their order. -/
import Derived.Test.YtajmnlhfnhbleaaGreatKw24
import Derived.Laws.AppendOwnNone
namespace Go.Proofs.YtajmnlhfnhbleaaGreat
open Go.RowKit
set_option linter.unusedVariables false
set_option maxHeartbeats 8000000
set_option maxRecDepth 10000
theorem keep_app{w0 w w':World}{g6:Nat}{v v':Value}{UV:Nat→Value}{t:Kt}{l l2 l3:List Nat}(h:KsIn w0 w v UV t l)(h2:∀i,i∈l2→KsOk w0 w v (UV i) (t.L i) (t.X i))
 (h3:∀i,i∈l3→KsOk w0 w v (UV i) (t.L i) (t.X i))
 (ho:w'.ownsRow w0.heap.size 83 3 v' (l.length+l2.length) (flatI UV t l++flatI UV t l2)) (hg:w.grownBy w' v.ownBlock) (hat:v'.ownBlock=v.ownBlock∨v'.ownBlock=some w.heap.size) (hl:g6<w.heap.size) (hv:v.ownBlock≠some g6) :
 KsIn w0 w' v' UV t (l++l2)∧(∀i,i∈l3→KsOk w0 w' v' (UV i) (t.L i) (t.X i))∧w'.heap[g6]?=w.heap[g6]?∧v'.ownBlock≠some g6∧g6<w'.heap.size:=by
 refine⟨h.cat h2 ho hg hat,fun i hi=>?_,hg.block g6 hl (fun e=>hv e.symm),fun e=>?_,Nat.lt_of_lt_of_le hl hg.size⟩
 ·exact(h3 i hi).grown hg hat
 ·rcases hat with e2|e2
  ·rw[e2]at e;exact hv e
  rw[e2]at e;injection e with e;omega
def cboU(m:Nat)(t:Kt)(ver:Int)(uk:Value)(UA UB:Nat→Value):Nat→Value:=fun i=>if i=m then uk else if t.V i<ver then UA i else UB i
theorem snocT_old{m:Nat}{t:Kt}{ver N:Int}{L:Nat}{X:Nat→Int}{i:Nat}(h:i<m):t.V i=(snocT m t ver N L X).V i∧t.N i=(snocT m t ver N L X).N i∧t.L i=(snocT m t ver N L X).L i∧t.X i=(snocT m t ver N L X).X i:=by
 have hne:i≠m:=by omega
 simp[snocT,hne]
theorem flatI_new{m:Nat}{t:Kt}{ver N:Int}{L:Nat}{X:Nat→Int}{uk:Value}{UA UB:Nat→Value}:flatI (cboU m t ver uk UA UB) (snocT m t ver N L X) [m]=[.int .i64 ver,.int .i64 N,uk]:=by
 simp[flatI,snocT,cboU]
theorem cbo_ahead{m:Nat}{t:Kt}{ver:Int}{uk:Value}{UA UB:Nat→Value}{i:Nat}(h:i∈agL (ahB t ver) m):UA i=cboU m t ver uk UA UB i:=by
 have h1:=agL_lt h;have h2:t.V i<ver:=of_decide_eq_true (List.mem_filter.1 h).2;have hne:i≠m:=by omega
 simp[cboU,hne,h2]
theorem cbo_behind{m:Nat}{t:Kt}{ver:Int}{uk:Value}{UA UB:Nat→Value}{i:Nat}(h:i∈agL (bhB t ver) m):UB i=cboU m t ver uk UA UB i:=by
 have h1:=agL_lt h;have h2:ver<t.V i:=of_decide_eq_true (List.mem_filter.1 h).2;have hne:i≠m:=by omega
 have hn2:¬t.V i<ver:=by omega
 simp[cboU,hne,hn2]
theorem peKeep(vb:Value)(n:Nat)(PV:Nat→Value)(b:Bk)(th:Bool)(room:Int)(vk:Value)(m:Nat)(UV:Nat→Value)(t:Kt)(ver N:Int)(uv:Value)(L:Nat)(X:Nat→Int)(w:World)(hv:VeSl w w.heap.size vb n PV b)(hk:KeSl w w.heap.size vk m UV t)(hu:IntSl w w.heap.size uv L X):
 Calls Tryz.prog 117 #[bookV vb,peerV th room vk,keptV ver N uv] w (KeepPostW w n b th room m t ver N L X):=by
 have HV:=hid hv
 have HK:=hid hk
 have HU:=hid hu
 obtain⟨ad,cap,rfl,_,_⟩:=hv
 obtain⟨ak,capk,rfl,_,_⟩:=hk
 obtain⟨au,cu,rfl,_,_⟩:=hu
 obtain⟨ii,hii,hz0,hz1,hz2⟩:=info_parts Tryz.infoKept
 have hb0:=((((Below.refl w.heap.size w).alloc (Nat.le_refl _) (.cells #[.slice ad n cap] 24)).alloc (by simp) (.cells #[.bool th,.int .i64 room,.slice ak m capk] 41)).alloc (by simp<;>omega) (.cells #[.int .i64 ver,.int .i64 N,.slice au L cu] 83)).alloc (by simp<;>omega) (.cells #[.bool false,.int .i64 0,.slice none 0 0] 41)
 have c0:((((w.alloc (.cells #[.slice ad n cap] 24)).alloc (.cells #[.bool th,.int .i64 room,.slice ak m capk] 41)).alloc (.cells #[.int .i64 ver,.int .i64 N,.slice au L cu] 83)).alloc (.cells #[.bool false,.int .i64 0,.slice none 0 0] 41)).heap[w.heap.size]?=some (.cells #[.slice ad n cap] 24 (0,0)):=by
  rw[Below.heap_alloc _ _ _ (by simp<;>omega),Below.heap_alloc _ _ _ (by simp<;>omega),Below.heap_alloc _ _ _ (by simp)];exact heap_alloc_new _ _
 have c1:((((w.alloc (.cells #[.slice ad n cap] 24)).alloc (.cells #[.bool th,.int .i64 room,.slice ak m capk] 41)).alloc (.cells #[.int .i64 ver,.int .i64 N,.slice au L cu] 83)).alloc (.cells #[.bool false,.int .i64 0,.slice none 0 0] 41)).heap[w.heap.size+1]?=some (.cells #[.bool th,.int .i64 room,.slice ak m capk] 41 (0,0)):=by
  rw[Below.heap_alloc _ _ _ (by simp<;>omega),Below.heap_alloc _ _ _ (by simp)];have:=heap_alloc_new (w.alloc (.cells #[.slice ad n cap] 24)) (.cells #[.bool th,.int .i64 room,.slice ak m capk] 41);simpa using this
 have c2:((((w.alloc (.cells #[.slice ad n cap] 24)).alloc (.cells #[.bool th,.int .i64 room,.slice ak m capk] 41)).alloc (.cells #[.int .i64 ver,.int .i64 N,.slice au L cu] 83)).alloc (.cells #[.bool false,.int .i64 0,.slice none 0 0] 41)).heap[w.heap.size+2]?=some (.cells #[.int .i64 ver,.int .i64 N,.slice au L cu] 83 (0,0)):=by
  rw[Below.heap_alloc _ _ _ (by simp)];have:=heap_alloc_new ((w.alloc (.cells #[.slice ad n cap] 24)).alloc (.cells #[.bool th,.int .i64 room,.slice ak m capk] 41)) (.cells #[.int .i64 ver,.int .i64 N,.slice au L cu] 83);simpa using this
 have c3:((((w.alloc (.cells #[.slice ad n cap] 24)).alloc (.cells #[.bool th,.int .i64 room,.slice ak m capk] 41)).alloc (.cells #[.int .i64 ver,.int .i64 N,.slice au L cu] 83)).alloc (.cells #[.bool false,.int .i64 0,.slice none 0 0] 41)).heap[w.heap.size+3]?=some (.cells #[.bool false,.int .i64 0,.slice none 0 0] 41 (0,0)):=by
  have:=heap_alloc_new (((w.alloc (.cells #[.slice ad n cap] 24)).alloc (.cells #[.bool th,.int .i64 room,.slice ak m capk] 41)).alloc (.cells #[.int .i64 ver,.int .i64 N,.slice au L cu] 83)) (.cells #[.bool false,.int .i64 0,.slice none 0 0] 41);simpa using this
 obtain⟨W0,hW0⟩:∃W,(((w.alloc (.cells #[.slice ad n cap] 24)).alloc (.cells #[.bool th,.int .i64 room,.slice ak m capk] 41)).alloc (.cells #[.int .i64 ver,.int .i64 N,.slice au L cu] 83)).alloc (.cells #[.bool false,.int .i64 0,.slice none 0 0] 41)=W:=⟨_,rfl⟩
 rw[hW0]at hb0 c0 c1 c2 c3
 have B0:=hid hb0
 have HCk:=hid (peChecked _ n PV b th room _ m UV t W0 (HV.out.up hb0) (HK.out.up hb0))
 have C0:=hid c0
 have C1:=hid c1
 have C2:=hid c2
 have C3:=hid c3
 have p0:W0.cell? ⟨w.heap.size,0,none⟩=some (.slice ad n cap):=cell_at c0 rfl
 obtain⟨p1,p2,p3⟩:=three_at c1
 clear hb0 c0 c1 c2 c3
 obtain⟨c,hcc⟩:∃c,peerE n b room m t=c:=⟨_,rfl⟩
 rw[hcc]at HCk
 unfold bookV peerV at HCk
 unfold bookV peerV keptV
 go_enter Tryz.func117,Tryz.ntmps117
 go_wp2_with fail
 refine Calls.mono HCk.out ?_
 rintro e W ⟨rfl,hbW⟩
 have d0:=stayB C0.out hbW
 have d1:=stayB C1.out hbW
 have d2:=stayB C2.out hbW
 have d3:=stayB C3.out hbW
 have B1:=hid (B0.out.trans (hbW.mono B0.out.size))
 clear hbW HCk C0 C1 C2 C3 p0 p1 p2 p3 hW0
 have D0:=hid d0
 have D1:=hid d1
 have D2:=hid d2
 have D3:=hid d3
 by_cases hc0:c=0
 ·subst hc0
  obtain⟨p1,p2,p3⟩:=three_at d1;obtain⟨k1,k2,k3⟩:=three_at d2;obtain⟨r1,r2,r3⟩:=three_at d3;have f1:=frozen_at (i:=0) d3;have f2:=frozen_at (i:=1) d3;have f3:=frozen_at (i:=2) d3;clear d0 d1 d2 d3;have HOk:=hid (peerE_ok hcc);have hm20:m≤20:=by have:=(peerE_ok hcc);omega
  have hmr:(m:Int)≤room:=(peerE_ok hcc).2.2.1;have HE:=hid hcc;clear hcc;by_cases hfull:(m:Int)=room
  ·have hfe:((m:Int)==room)=true:=by simpa using hfull
   have hfl:room≤(m:Int):=by omega
   clear hfull;go_wp2;refine ret2 (put3_whole D3.out _ _ _) Tryz.underlying41 ?_;exact keeps_errW (t':=t) (Or.inr (Or.inl ⟨HE.out,hfl,rfl,rfl,rfl,rfl⟩)) B1.out
  have HAt:=hid (peFind th room _ m UV t ver W (HK.out.up B1.out));obtain⟨at9,hat⟩:∃a,fstAt t.V ver m 0=a:=⟨_,rfl⟩;rw[hat]at HAt;have HFs:=hid hat;unfold peerV at HAt;have hfe:((m:Int)==room)=false:=by simpa using hfull
  have hlt9:(m:Int)<room:=by omega
  clear hfull hat;go_wp2_with fail
  refine Calls.mono HAt.out ?_;rintro e W2 ⟨rfl,hb2⟩;have B2:=hid (B1.out.trans (hb2.mono B1.out.size));have g0:=stayB D0.out hb2;have g1:=stayB D1.out hb2;have g2:=stayB D2.out hb2;have g3:=stayB D3.out hb2;clear p1 p2 p3 k1 k2 k3 r1 r2 r3 f1 f2 f3 hb2 HAt D0 D1 D2 D3;have G0:=hid g0;have G1:=hid g1;have G2:=hid g2;have G3:=hid g3;have I0:=hid g0;have I3:=hid g3;by_cases hge:at9≥0
  ·obtain⟨r1,r2,r3⟩:=three_at g3
   have f1:=frozen_at (i:=0) g3;have f2:=frozen_at (i:=1) g3;have f3:=frozen_at (i:=2) g3;clear g0 g1 g2 g3;go_wp2;refine ret2 (put3_whole G3.out _ _ _) Tryz.underlying41 ?_;exact keeps_errW (t':=t) (Or.inr (Or.inr (Or.inl ⟨HE.out,hlt9,by rw[HFs.out];exact hge,rfl,rfl,rfl,rfl⟩))) B2.out
  have hfn:fstAt t.V ver m 0<0:=by rw[HFs.out];omega
  have HFn:=hid hfn;have hIn:InOrder (snocT m t ver N L X) (m+1) ((agL (ahB t ver) m++[m])++agL (bhB t ver) m):=put_order (rise_far (X:=t.V) (m:=m) (fun j hj=>(scanK_rise m 0 (-1) HOk.out.2.2.2).2 j (Nat.zero_le _) (by omega))) (fstAt_none hfn);have HIn:=hid hIn;have hlen:((agL (ahB t ver) m++[m])++agL (bhB t ver) m).length=m+1:=by rw[hIn.1.length_eq];simp
  have HLen:=hid hlen;have hla:=agL_len (ahB t ver) m;have hlb:=agL_len (bhB t ver) m;obtain⟨p1,p2,p3⟩:=three_at g1;obtain⟨k1,k2,k3⟩:=three_at g2;have hw3:w.heap.size+3<W2.heap.size:=(Array.getElem?_eq_some_iff.1 g3).1;have HW3:=hid hw3;have hmf:∀(fn:Fn) (first cap:Array Value) (w:World),(Instr.makeFunc fn first cap).run Tryz.prog w=.ok (.func fn first cap) w:=fun _ _ _ _=>rfl;have HCa:=hid (peThoseA (w.heap.size+2) (.slice ak m capk) m UV t (ahB t ver) (by omega) W2 (HK.out.up B2.out) (fun i hi w' hb'=>peAhead (w.heap.size+2) ver (t.V i) (t.N i) (UV i) w' (by rw[hb'.cell (Array.getElem?_eq_some_iff.1 G2.out).1];exact cell_at G2.out rfl) (kel_slices HK.out i hi)));clear g0 g1 g2 g3 hfn hIn hlen hw3;go_wp2_with fail
  refine Calls.mono HCa.out ?_;rintro e W4 ⟨hb4,va,UA,rfl,hksa⟩;have B4:=hid (B2.out.trans (hb4.mono B2.out.size));have HKa:=hid hksa;have HB4:=hid hb4;have g0:=stayB G0.out hb4;have g1:=stayB G1.out hb4;have g2:=stayB G2.out hb4;have g3:=stayB G3.out hb4;have J0:=hid g0;have J1:=hid g1;have J2:=hid g2;have J3:=hid g3;clear p1 p2 p3 k1 k2 k3 G0 G1 G2 G3 HCa hb4;obtain⟨aa,ca,hva⟩:=owns_sliceV hksa.own.1;subst hva;obtain⟨p1,p2,p3⟩:=three_at g1;have HCb:=hid (peThoseB (w.heap.size+2) (.slice ak m capk) m UV t (bhB t ver) (by omega) W4 (HK.out.up B4.out) (fun i hi w' hb'=>peBehind (w.heap.size+2) ver (t.V i) (t.N i) (UV i) w' (by rw[hb'.cell (Array.getElem?_eq_some_iff.1 J2.out).1];exact cell_at J2.out rfl) (kel_slices HK.out i hi)));clear g0 g1 g2 g3 hksa;go_wp2_with fail
  refine Calls.mono HCb.out ?_;rintro e W5 ⟨hb5,vz,UB,rfl,hksb⟩;have B5:=hid (B4.out.trans (hb5.mono B4.out.size));have HKb:=hid hksb;have HB5:=hid hb5;have g0:=stayB J0.out hb5;have g1:=stayB J1.out hb5;have g2:=stayB J2.out hb5;have g3:=stayB J3.out hb5;clear p1 p2 p3 J0 J1 J2 J3 HCb hb5;have hbM:=below_alloc W5 (.cells #[.bool th,.int .i64 room,.slice ak m capk] 41);have km:=heap_alloc_new W5 (.cells #[.bool th,.int .i64 room,.slice ak m capk] 41);obtain⟨W6,hW6⟩:∃W,W5.alloc (.cells #[.bool th,.int .i64 room,.slice ak m capk] 41)=W:=⟨_,rfl⟩;rw[hW6]at hbM km;have B6:=hid (B5.out.trans (hbM.mono B5.out.size));have HB6:=hid hbM;have J0:=hid (stayB g0 hbM);have J2:=hid (stayB g2 hbM);have J3:=hid (stayB g3 hbM);have JM:=hid km;obtain⟨p1,p2,p3⟩:=three_at g1;obtain⟨k1,k2,k3⟩:=three_at (stayB g2 hbM)
  have hsM:W5.heap.size<W6.heap.size:=(Array.getElem?_eq_some_iff.1 km).1;have HSM:=hid hsM;clear g0 g1 g2 g3 hbM km hsM;have HCo:=hid (peOwn _ L X ver N W6 (HU.out.up B6.out));unfold keptV at HCo;rcases hksb.own.1.2 with⟨hvz,hz9⟩|⟨gz,cz,curz,hvz,hgz,hhz,hcz1,hcz2,hsz,hcurz⟩
  ·subst hvz
   clear hksb;go_wp2_with fail
   refine Calls.mono HCo.out ?_;rintro e W7 ⟨hb7,uk,rfl,huk,hab⟩;obtain⟨T,hT⟩:∃T,snocT m t ver N L X=T:=⟨_,rfl⟩;obtain⟨UC,hUC⟩:∃U,cboU m t ver uk UA UB=U:=⟨_,rfl⟩;have HT:=hid hT;have HUC:=hid hUC;have HUk:=hid huk;have HAb:=hid hab;have HB7:=hid hb7;have B7:=hid (B6.out.trans (hb7.mono B6.out.size));have hb57:Below W5.heap.size W5 W7:=HB6.out.trans (hb7.mono HB6.out.size);have hb47:Below W4.heap.size W4 W7:=HB5.out.trans (hb57.mono HB5.out.size);have hTo:∀i,i<m→t.V i=T.V i∧t.N i=T.N i∧t.L i=T.L i∧t.X i=T.X i:=fun i hi=>by rw[←hT];exact snocT_old hi
   have KA:Hid (KsIn W2 W7 (.slice aa (agL (ahB t ver) m).length ca) UC T (agL (ahB t ver) m)):=(HKa.out.up hb47).congr fun i hi=>⟨by rw[←hUC];exact cbo_ahead hi,hTo i (agL_lt hi)⟩;have hs24:W2.heap.size≤W4.heap.size:=HB4.out.size;have hs45:W4.heap.size≤W5.heap.size:=HB5.out.size;have hs56:W5.heap.size≤W6.heap.size:=HB6.out.size;have hs67:W6.heap.size≤W7.heap.size:=hb7.size;have KZ:Hid (∀i,i∈agL (bhB t ver) m→KsOk W2 W7 (.slice aa (agL (ahB t ver) m).length ca) (UC i) (T.L i) (T.X i)):=fun i hi=>by
    obtain⟨q1,q2,q3,q4⟩:=HKb.out.at_ i hi;obtain⟨_,_,o3,o4⟩:=hTo i (agL_lt hi);rw[←hUC,←cbo_behind hi,←o3,←o4];exact⟨q1.up hb57,q2.mono' hs24,offK_new HKa.out.own q2,q4.imp id fun h=>(h.up hb57).mono hs24⟩
   have huc:UC m=uk:=by rw[←hUC];simp[cboU]
   have hTm:T.V m=ver∧T.N m=N∧T.L m=L∧T.X m=X:=by rw[←hT];simp[snocT]
   have KM:Hid (∀i,i∈[m]→KsOk W2 W7 (.slice aa (agL (ahB t ver) m).length ca) (UC i) (T.L i) (T.X i)):=fun i hi=>by
    have hi:i=m:=by simpa using hi
    subst hi;rw[huc,hTm.2.2.1,hTm.2.2.2];exact⟨huk,hab.above.mono' (by omega),offK_new (HKa.out.up (HB5.out.trans (HB6.out.mono HB5.out.size))).own hab.above,Or.inr (hab.mono (by omega))⟩
   have KN:Hid (∀i,i∈(agL (ahB t ver) m++[m])++agL (bhB t ver) m→OffN W5.heap.size (UC i) (T.L i)):=fun i hi=>by
    rcases List.mem_append.1 hi with hi|hi
    ·rcases List.mem_append.1 hi with hi|hi
     ·rw[←hUC,←cbo_ahead hi,←(hTo i (agL_lt hi)).2.2.1]
      exact fresh_offN (HKa.out.at_ i hi).1 hs45
     have hi:i=m:=by simpa using hi
     subst hi;rw[huc];exact above_offN hab.above HSM.out
    rw[←hUC,←cbo_behind hi,←(hTo i (agL_lt hi)).2.2.1];exact fresh_offN (HKb.out.at_ i hi).1 (Nat.le_refl _)
   have KS:Hid (∀i,i∈(agL (ahB t ver) m++[m])++agL (bhB t ver) m→(T.V i=ver→Above W6.heap.size (UC i))∧(T.V i≠ver→LtV W6.heap.size (UC i) (T.L i))):=fun i hi=>by
    rcases List.mem_append.1 hi with hi|hi
    ·rcases List.mem_append.1 hi with hi|hi
     ·rw[←hUC,←cbo_ahead hi,←(hTo i (agL_lt hi)).2.2.1,←(hTo i (agL_lt hi)).1]
      exact⟨fun e=>absurd e (ag_ahead hi),fun _=>fresh_ltV (HKa.out.at_ i hi).1 (by omega)⟩
     have hi:i=m:=by simpa using hi
     subst hi;rw[huc,hTm.1];exact⟨fun _=>hab.above,fun e=>absurd rfl e⟩
    rw[←hUC,←cbo_behind hi,←(hTo i (agL_lt hi)).2.2.1,←(hTo i (agL_lt hi)).1];exact⟨fun e=>absurd e (ag_behind hi),fun _=>fresh_ltV (HKb.out.at_ i hi).1 (by omega)⟩
   have KV:Hid ((Value.slice aa (agL (ahB t ver) m).length ca).ownBlock≠some W5.heap.size):=fun e=>by have:=(HKa.out.own.1.lt _ e).2;omega
   have HFn1:Hid (flatI UC T [m]=[.int .i64 ver,.int .i64 N,uk]):=by show _=_;rw[←hUC,←hT];exact flatI_new
   have J0:=hid (stayB J0.out hb7);have J3:=hid (stayB J3.out hb7);have JM:=hid (stayB JM.out hb7);have HL7:Hid (W5.heap.size<W7.heap.size):=Nat.lt_of_lt_of_le HSM.out hs67;have h27:W2.heap.size≤W7.heap.size:=by omega
   obtain⟨au9,cu9,huk9,_,_⟩:=huk;subst huk9;have HCt:=hid (cells_three W7 (.int .i64 ver) (.int .i64 N) (.slice au9 L cu9) 83);have hbA:=below_alloc W7 (.cells #[.int .i64 ver,.int .i64 N,.slice au9 L cu9] 83);have K8:=hid (KA.out.up hbA);have K8m:Hid (∀i,i∈[m]→KsOk W2 (W7.alloc (.cells #[.int .i64 ver,.int .i64 N,.slice au9 L cu9] 83)) (.slice aa (agL (ahB t ver) m).length ca) (UC i) (T.L i) (T.X i)):=fun i hi=>(KM.out i hi).up hbA;have K8z:Hid (∀i,i∈agL (bhB t ver) m→KsOk W2 (W7.alloc (.cells #[.int .i64 ver,.int .i64 N,.slice au9 L cu9] 83)) (.slice aa (agL (ahB t ver) m).length ca) (UC i) (T.L i) (T.X i)):=fun i hi=>(KZ.out i hi).up hbA;have J8:=hid (stayB JM.out hbA);have HL8:Hid (W5.heap.size<(W7.alloc (.cells #[.int .i64 ver,.int .i64 N,.slice au9 L cu9] 83)).heap.size):=Nat.lt_of_lt_of_le HL7.out hbA.size
   clear k1 k2 k3 p1 p2 p3 hb7 hb57 hb47 hTo huc hTm hT hUC hab hbA hs24 hs45 hs56 hs67;go_wp2_with(at_builtin;refine wpList_append_own_at _ rfl (.tmp 42) (.tmp 45) 39 rfl W2.heap.size 83 ii (.agg #[.int .i64 0,.int .i64 0,.slice none 0 0]) 3 40 Tryz.underlying39 hii hz0 hz1 hz2 rfl (by decide) _ _ _ rfl K8.out.own.1 ⟨_,0,none⟩ 1 1 [.int .i64 ver,.int .i64 N,.slice au9 L cu9] rfl rfl HCt.out (by intro u hu;simp at hu;rcases hu with rfl|rfl|rfl<;>rfl) (by unfold maxLen;omega) (by omega) (by simp;omega) ?_;intro v1 W9 ho9 hg9 _ hat9;refine Hid.out ?_)
   refine hid ?_;obtain⟨K9,K9z,J9,V9,L9⟩:=keep_app (l2:=[m]) K8.out K8m.out K8z.out (by rw[HFn1.out];exact ho9) hg9 hat9 HL8.out KV.out;have HK9:=hid K9;have HK9z:=hid K9z;have HJ9:=hid (J9.trans J8.out);have HV9:=hid V9;have HL9:=hid L9;obtain⟨a1,c1,hv1⟩:=owns_sliceV K9.own.1;subst hv1;clear ho9 hg9 hat9 K9 K9z J9 V9 L9;have HK10:Hid (KsIn W2 W9 (.slice a1 (agL (ahB t ver) m++[m]).length c1) UC T ((agL (ahB t ver) m++[m])++agL (bhB t ver) m)):=by
    have h9:agL (bhB t ver) m=[]:=List.length_eq_zero_iff.1 hz9;rw[h9,List.append_nil];exact HK9.out
   have HJ10:=HJ9;have HV10:=HV9;have hl2:(agL (ahB t ver) m++[m]).length=m+1:=by have:=HLen.out;rw[List.length_append,hz9]at this;exact this
   go_wp2_with(at_builtin;refine wpList_append_own_none rfl (.tmp 46) (.tmp 47) 39 rfl W2.heap.size 83 ii 3 Tryz.underlying39 hii _ _ _ rfl HK9.out.own.1 rfl ?_;refine Hid.out ?_)
   refine hid ?_;rw[hl2]at HK10 HV10;clear hl2;have y3:=HJ10.out;have s3:=(three_at y3).2.2;have fm:=frozen_at (i:=2) y3;obtain⟨Y,hY⟩:∃Y,W9.setCell ⟨W5.heap.size,2,none⟩ (.slice a1 (m+1) c1)=Y:=⟨_,rfl⟩;have hw3:=HW3.out;have h25:W2.heap.size≤W5.heap.size:=Nat.le_trans HB4.out.size HB5.out.size;have hww:w.heap.size≤W2.heap.size:=B2.out.size;have HYm:Hid (Y.heap[W5.heap.size]?=some (.cells #[.bool th,.int .i64 room,.slice a1 (m+1) c1] 41 (0,0))):=by show _=_;rw[←hY];exact set_three y3 _
   have HYo:Hid (∀k,k<W2.heap.size→Y.heap[k]?=W2.heap[k]?):=fun k hk=>by
    rw[←hY,Below.heap_setCell _ _ _ _ (by show k≠W5.heap.size;omega)];exact HK10.out.own.2.block k hk
   have HYw:Hid (Below w.heap.size w Y):=by show Below _ _ _;rw[←hY];exact(B2.out.trans (HK10.out.own.2.mono B2.out.size)).setCell (p:=⟨W5.heap.size,2,none⟩) (by show w.heap.size≤W5.heap.size;omega) _
   have HYk:Hid (KsAt W2.heap.size Y (.slice a1 (m+1) c1) UC T ((agL (ahB t ver) m++[m])++agL (bhB t ver) m)):=by show KsAt _ _ _ _ _ _;rw[←hY];exact HK10.out.out.set HV10.out KN.out 2 _
   have hyk:=HYk.out.kel (by rw[HLen.out];omega);rw[HLen.out]at hyk;have HCk:=hid (peChecked _ n PV b th room _ (m+1) _ (selT T ((agL (ahB t ver) m++[m])++agL (bhB t ver) m)) Y (HV.out.up HYw.out) hyk);unfold bookV peerV at HCk;have HA2:Hid (∀i,i∈(agL (ahB t ver) m++[m])++agL (bhB t ver) m→Above W2.heap.size (UC i)):=fun i hi=>(HK10.out.at_ i hi).2.1;have HO2:Hid (∀g,g<W2.heap.size→(Value.slice a1 (m+1) c1).ownBlock≠some g):=fun g hg e=>by have:=(HK10.out.own.1.lt g e).1;omega
   have z0:Y.heap[w.heap.size]?=some (.cells #[.slice ad n cap] 24 (0,0)):=by rw[HYo.out _ (by omega)];exact I0.out
   have z3:Y.heap[w.heap.size+3]?=some (.cells #[.bool false,.int .i64 0,.slice none 0 0] 41 (0,0)):=by rw[HYo.out _ (by omega)];exact I3.out
   have q0:Y.cell? ⟨w.heap.size,0,none⟩=some (.slice ad n cap):=cell_at z0 rfl;obtain⟨q1,q2,q3⟩:=three_at HYm.out;have HZ3:=hid z3;obtain⟨er,her⟩:∃c,peerE n b room (m+1) (selT T ((agL (ahB t ver) m++[m])++agL (bhB t ver) m))=c:=⟨_,rfl⟩;rw[her]at HCk;have HEr:=hid her;clear her z0 z3 y3 hyk;go_wp2_with fail
   refine Calls.mono HCk.out ?_;rintro e Z ⟨rfl,hbz⟩;have tm:=stayB HYm.out hbz;have t3:=stayB HZ3.out hbz;have HBz:=hid (HYw.out.trans (hbz.mono HYw.out.size));have HKz:=hid (HYk.out.up hbz);have HNv:Hid (∀i,i∈(agL (ahB t ver) m++[m])++agL (bhB t ver) m→T.L i=0∨NewV W2.heap.size Z (UC i)):=fun i hi=>(HK10.out.at_ i hi).2.2.2.imp id fun h=>(by have h9:=h.set ⟨W5.heap.size,2,none⟩ (.slice a1 (m+1) c1);rw[hY]at h9;exact h9.up hbz);have HT3:=hid t3;obtain⟨q1,q2,q3⟩:=three_at tm;obtain⟨r1,r2,r3⟩:=three_at t3;have f1:=frozen_at (i:=0) t3;have f2:=frozen_at (i:=1) t3;have f3:=frozen_at (i:=2) t3;clear tm t3 hbz HCk s3 fm hY q0;by_cases he0:er=0
   ·subst he0
    go_wp2;refine ret2 (put3_whole HT3.out _ _ _) Tryz.underlying41 ?_;have hkp:=HKz.out.put3 (HO2.out (w.heap.size+3) (by omega)) (fun i hi=>above_offN (HA2.out i hi) (by omega)) (.bool th) (.int .i64 room) (.slice a1 (m+1) c1);have hkf:=hkp.kel (by rw[HLen.out];omega);rw[HLen.out]at hkf;have hT:=HT.out;subst hT;exact⟨put3_below HBz.out (by omega),0,th,room,_,m+1,_,_,rfl,hkf,Or.inr (Or.inr (Or.inr ⟨HE.out,hlt9,HFn.out,_,HIn.out,HEr.out.symm,Or.inl ⟨rfl,rfl,rfl,rfl,rfl⟩⟩)),⟨(owns_new hkp.row).mono B2.out.size,fun i hi=>(HNv.out _ (getD_inK (by rw[HLen.out];exact hi))).imp id fun h=>((((h.mono B2.out.size).set _ _).set _ _).set _ _)⟩,partK_of HK10.out KS.out HLen.out⟩
   have heb:(er != 0)=true:=by simpa using he0
   have HE0:=hid he0;clear he0;go_wp2;refine ret2 (put3_whole HT3.out _ _ _) Tryz.underlying41 ?_;have hT:=HT.out;subst hT;exact keeps_errW (t':=t) (Or.inr (Or.inr (Or.inr ⟨HE.out,hlt9,HFn.out,_,HIn.out,HEr.out.symm,Or.inr ⟨HE0.out,rfl,rfl,rfl⟩⟩))) HBz.out
  subst hvz;clear hksb hhz hcz1 hcz2 hsz hcurz;go_wp2_with fail
  refine Calls.mono HCo.out ?_;rintro e W7 ⟨hb7,uk,rfl,huk,hab⟩;obtain⟨T,hT⟩:∃T,snocT m t ver N L X=T:=⟨_,rfl⟩;obtain⟨UC,hUC⟩:∃U,cboU m t ver uk UA UB=U:=⟨_,rfl⟩;have HT:=hid hT;have HUC:=hid hUC;have HUk:=hid huk;have HAb:=hid hab;have HB7:=hid hb7;have B7:=hid (B6.out.trans (hb7.mono B6.out.size));have hb57:Below W5.heap.size W5 W7:=HB6.out.trans (hb7.mono HB6.out.size);have hb47:Below W4.heap.size W4 W7:=HB5.out.trans (hb57.mono HB5.out.size);have hTo:∀i,i<m→t.V i=T.V i∧t.N i=T.N i∧t.L i=T.L i∧t.X i=T.X i:=fun i hi=>by rw[←hT];exact snocT_old hi
  have KA:Hid (KsIn W2 W7 (.slice aa (agL (ahB t ver) m).length ca) UC T (agL (ahB t ver) m)):=(HKa.out.up hb47).congr fun i hi=>⟨by rw[←hUC];exact cbo_ahead hi,hTo i (agL_lt hi)⟩;have hs24:W2.heap.size≤W4.heap.size:=HB4.out.size;have hs45:W4.heap.size≤W5.heap.size:=HB5.out.size;have hs56:W5.heap.size≤W6.heap.size:=HB6.out.size;have hs67:W6.heap.size≤W7.heap.size:=hb7.size;have KZ:Hid (∀i,i∈agL (bhB t ver) m→KsOk W2 W7 (.slice aa (agL (ahB t ver) m).length ca) (UC i) (T.L i) (T.X i)):=fun i hi=>by
   obtain⟨q1,q2,q3,q4⟩:=HKb.out.at_ i hi;obtain⟨_,_,o3,o4⟩:=hTo i (agL_lt hi);rw[←hUC,←cbo_behind hi,←o3,←o4];exact⟨q1.up hb57,q2.mono' hs24,offK_new HKa.out.own q2,q4.imp id fun h=>(h.up hb57).mono hs24⟩
  have huc:UC m=uk:=by rw[←hUC];simp[cboU]
  have hTm:T.V m=ver∧T.N m=N∧T.L m=L∧T.X m=X:=by rw[←hT];simp[snocT]
  have KM:Hid (∀i,i∈[m]→KsOk W2 W7 (.slice aa (agL (ahB t ver) m).length ca) (UC i) (T.L i) (T.X i)):=fun i hi=>by
   have hi:i=m:=by simpa using hi
   subst hi;rw[huc,hTm.2.2.1,hTm.2.2.2];exact⟨huk,hab.above.mono' (by omega),offK_new (HKa.out.up (HB5.out.trans (HB6.out.mono HB5.out.size))).own hab.above,Or.inr (hab.mono (by omega))⟩
  have KN:Hid (∀i,i∈(agL (ahB t ver) m++[m])++agL (bhB t ver) m→OffN W5.heap.size (UC i) (T.L i)):=fun i hi=>by
   rcases List.mem_append.1 hi with hi|hi
   ·rcases List.mem_append.1 hi with hi|hi
    ·rw[←hUC,←cbo_ahead hi,←(hTo i (agL_lt hi)).2.2.1]
     exact fresh_offN (HKa.out.at_ i hi).1 hs45
    have hi:i=m:=by simpa using hi
    subst hi;rw[huc];exact above_offN hab.above HSM.out
   rw[←hUC,←cbo_behind hi,←(hTo i (agL_lt hi)).2.2.1];exact fresh_offN (HKb.out.at_ i hi).1 (Nat.le_refl _)
  have KS:Hid (∀i,i∈(agL (ahB t ver) m++[m])++agL (bhB t ver) m→(T.V i=ver→Above W6.heap.size (UC i))∧(T.V i≠ver→LtV W6.heap.size (UC i) (T.L i))):=fun i hi=>by
   rcases List.mem_append.1 hi with hi|hi
   ·rcases List.mem_append.1 hi with hi|hi
    ·rw[←hUC,←cbo_ahead hi,←(hTo i (agL_lt hi)).2.2.1,←(hTo i (agL_lt hi)).1]
     exact⟨fun e=>absurd e (ag_ahead hi),fun _=>fresh_ltV (HKa.out.at_ i hi).1 (by omega)⟩
    have hi:i=m:=by simpa using hi
    subst hi;rw[huc,hTm.1];exact⟨fun _=>hab.above,fun e=>absurd rfl e⟩
   rw[←hUC,←cbo_behind hi,←(hTo i (agL_lt hi)).2.2.1,←(hTo i (agL_lt hi)).1];exact⟨fun e=>absurd e (ag_behind hi),fun _=>fresh_ltV (HKb.out.at_ i hi).1 (by omega)⟩
  have KV:Hid ((Value.slice aa (agL (ahB t ver) m).length ca).ownBlock≠some W5.heap.size):=fun e=>by have:=(HKa.out.own.1.lt _ e).2;omega
  have HFn1:Hid (flatI UC T [m]=[.int .i64 ver,.int .i64 N,uk]):=by show _=_;rw[←hUC,←hT];exact flatI_new
  have J0:=hid (stayB J0.out hb7);have J3:=hid (stayB J3.out hb7);have JM:=hid (stayB JM.out hb7);have HL7:Hid (W5.heap.size<W7.heap.size):=Nat.lt_of_lt_of_le HSM.out hs67;have h27:W2.heap.size≤W7.heap.size:=by omega
  have HR7:Hid (∀j u,(flatI UC T (agL (bhB t ver) m))[j]?=some u→W7.cell? ((⟨gz,0,none⟩:Addr).add j)=some u):=fun j u hj=>by
   have hrow:=owns_below HKb.out.own.1 hb57;rw[flatI_congr (UV':=UC) (t':=T) fun i hi=>⟨(hTo i (agL_lt hi)).1,(hTo i (agL_lt hi)).2.1,by rw[←hUC];exact cbo_behind hi⟩]at hrow;exact hrow.cells (g:=gz) rfl j u hj
  have HGz:Hid (some gz≠(Value.slice aa (agL (ahB t ver) m).length ca).ownBlock):=fun e=>by have:=(HKa.out.own.1.lt gz e.symm).2;omega
  obtain⟨au9,cu9,huk9,_,_⟩:=huk;subst huk9;have HCt:=hid (cells_three W7 (.int .i64 ver) (.int .i64 N) (.slice au9 L cu9) 83);have hbA:=below_alloc W7 (.cells #[.int .i64 ver,.int .i64 N,.slice au9 L cu9] 83);have K8:=hid (KA.out.up hbA);have K8m:Hid (∀i,i∈[m]→KsOk W2 (W7.alloc (.cells #[.int .i64 ver,.int .i64 N,.slice au9 L cu9] 83)) (.slice aa (agL (ahB t ver) m).length ca) (UC i) (T.L i) (T.X i)):=fun i hi=>(KM.out i hi).up hbA;have K8z:Hid (∀i,i∈agL (bhB t ver) m→KsOk W2 (W7.alloc (.cells #[.int .i64 ver,.int .i64 N,.slice au9 L cu9] 83)) (.slice aa (agL (ahB t ver) m).length ca) (UC i) (T.L i) (T.X i)):=fun i hi=>(KZ.out i hi).up hbA;have J8:=hid (stayB JM.out hbA);have HL8:Hid (W5.heap.size<(W7.alloc (.cells #[.int .i64 ver,.int .i64 N,.slice au9 L cu9] 83)).heap.size):=Nat.lt_of_lt_of_le HL7.out hbA.size
  have HR8:Hid (∀j u,(flatI UC T (agL (bhB t ver) m))[j]?=some u→(W7.alloc (.cells #[.int .i64 ver,.int .i64 N,.slice au9 L cu9] 83)).cell? ((⟨gz,0,none⟩:Addr).add j)=some u):=fun j u hj=>by
   have h9:=HR7.out j u hj;rw[hbA.cell (cell_lt h9)];exact h9
  clear k1 k2 k3 p1 p2 p3 hb7 hb57 hb47 hTo huc hTm hT hUC hab hbA hs24 hs45 hs56 hs67;go_wp2_with(at_builtin;refine wpList_append_own_at _ rfl (.tmp 42) (.tmp 45) 39 rfl W2.heap.size 83 ii (.agg #[.int .i64 0,.int .i64 0,.slice none 0 0]) 3 40 Tryz.underlying39 hii hz0 hz1 hz2 rfl (by decide) _ _ _ rfl K8.out.own.1 ⟨_,0,none⟩ 1 1 [.int .i64 ver,.int .i64 N,.slice au9 L cu9] rfl rfl HCt.out (by intro u hu;simp at hu;rcases hu with rfl|rfl|rfl<;>rfl) (by unfold maxLen;omega) (by omega) (by simp;omega) ?_;intro v1 W9 ho9 hg9 _ hat9;refine Hid.out ?_)
  refine hid ?_;obtain⟨K9,K9z,J9,V9,L9⟩:=keep_app (l2:=[m]) K8.out K8m.out K8z.out (by rw[HFn1.out];exact ho9) hg9 hat9 HL8.out KV.out;have HRz:Hid (∀j u,(flatI UC T (agL (bhB t ver) m))[j]?=some u→W9.cell? ((⟨gz,0,none⟩:Addr).add j)=some u):=fun j u hj=>hg9.cell (HR8.out j u hj) (by rw[Addr.add_lit];exact HGz.out);have HK9:=hid K9;have HK9z:=hid K9z;have HJ9:=hid (J9.trans J8.out);have HV9:=hid V9;have HL9:=hid L9;obtain⟨a1,c1,hv1⟩:=owns_sliceV K9.own.1;subst hv1;clear ho9 hg9 hat9 K9 K9z J9 V9 L9
  go_wp2_with(at_builtin;refine wpList_append_own_at _ rfl (.tmp 46) (.tmp 47) 39 rfl W2.heap.size 83 ii (.agg #[.int .i64 0,.int .i64 0,.slice none 0 0]) 3 40 Tryz.underlying39 hii hz0 hz1 hz2 rfl (by decide) _ _ _ rfl HK9.out.own.1 ⟨gz,0,none⟩ (agL (bhB t ver) m).length cz (flatI UC T (agL (bhB t ver) m)) rfl (flatI_len _ _ _) HRz.out (flatI_one fun i hi=>isl_one (HK9z.out i hi).1) (by unfold maxLen;rw[List.length_append];simp;omega) (by rw[List.length_append];simp;omega) (Nat.le_trans HK9.out.own.2.size (Nat.le_refl _)) ?_;intro v2 W10 ho10 hg10 _ hat10;refine Hid.out ?_)
  refine hid ?_;obtain⟨K10,_,J10,V10,L10⟩:=keep_app (l3:=[]) HK9.out HK9z.out (fun i hi=>by simp at hi) ho10 hg10 hat10 HL9.out HV9.out;have HK10:=hid K10;have HJ10:=hid (J10.trans HJ9.out);have HV10:=hid V10;obtain⟨a2,c2,hv2⟩:=owns_sliceV K10.own.1;rw[HLen.out]at hv2;subst hv2;clear ho10 hg10 hat10 K10 J10 V10 L10 HRz;have y3:=HJ10.out;have s3:=(three_at y3).2.2;have fm:=frozen_at (i:=2) y3;obtain⟨Y,hY⟩:∃Y,W10.setCell ⟨W5.heap.size,2,none⟩ (.slice a2 (m+1) c2)=Y:=⟨_,rfl⟩;have hw3:=HW3.out;have h25:W2.heap.size≤W5.heap.size:=Nat.le_trans HB4.out.size HB5.out.size;have hww:w.heap.size≤W2.heap.size:=B2.out.size;have HYm:Hid (Y.heap[W5.heap.size]?=some (.cells #[.bool th,.int .i64 room,.slice a2 (m+1) c2] 41 (0,0))):=by show _=_;rw[←hY];exact set_three y3 _
  have HYo:Hid (∀k,k<W2.heap.size→Y.heap[k]?=W2.heap[k]?):=fun k hk=>by
   rw[←hY,Below.heap_setCell _ _ _ _ (by show k≠W5.heap.size;omega)];exact HK10.out.own.2.block k hk
  have HYw:Hid (Below w.heap.size w Y):=by show Below _ _ _;rw[←hY];exact(B2.out.trans (HK10.out.own.2.mono B2.out.size)).setCell (p:=⟨W5.heap.size,2,none⟩) (by show w.heap.size≤W5.heap.size;omega) _
  have HYk:Hid (KsAt W2.heap.size Y (.slice a2 (m+1) c2) UC T ((agL (ahB t ver) m++[m])++agL (bhB t ver) m)):=by show KsAt _ _ _ _ _ _;rw[←hY];exact HK10.out.out.set HV10.out KN.out 2 _
  have hyk:=HYk.out.kel (by rw[HLen.out];omega);rw[HLen.out]at hyk;have HCk:=hid (peChecked _ n PV b th room _ (m+1) _ (selT T ((agL (ahB t ver) m++[m])++agL (bhB t ver) m)) Y (HV.out.up HYw.out) hyk);unfold bookV peerV at HCk;have HA2:Hid (∀i,i∈(agL (ahB t ver) m++[m])++agL (bhB t ver) m→Above W2.heap.size (UC i)):=fun i hi=>(HK10.out.at_ i hi).2.1;have HO2:Hid (∀g,g<W2.heap.size→(Value.slice a2 (m+1) c2).ownBlock≠some g):=fun g hg e=>by have:=(HK10.out.own.1.lt g e).1;omega
  have z0:Y.heap[w.heap.size]?=some (.cells #[.slice ad n cap] 24 (0,0)):=by rw[HYo.out _ (by omega)];exact I0.out
  have z3:Y.heap[w.heap.size+3]?=some (.cells #[.bool false,.int .i64 0,.slice none 0 0] 41 (0,0)):=by rw[HYo.out _ (by omega)];exact I3.out
  have q0:Y.cell? ⟨w.heap.size,0,none⟩=some (.slice ad n cap):=cell_at z0 rfl;obtain⟨q1,q2,q3⟩:=three_at HYm.out;have HZ3:=hid z3;obtain⟨er,her⟩:∃c,peerE n b room (m+1) (selT T ((agL (ahB t ver) m++[m])++agL (bhB t ver) m))=c:=⟨_,rfl⟩;rw[her]at HCk;have HEr:=hid her;clear her z0 z3 y3 hyk;go_wp2_with fail
  refine Calls.mono HCk.out ?_;rintro e Z ⟨rfl,hbz⟩;have tm:=stayB HYm.out hbz;have t3:=stayB HZ3.out hbz;have HBz:=hid (HYw.out.trans (hbz.mono HYw.out.size));have HKz:=hid (HYk.out.up hbz);have HNv:Hid (∀i,i∈(agL (ahB t ver) m++[m])++agL (bhB t ver) m→T.L i=0∨NewV W2.heap.size Z (UC i)):=fun i hi=>(HK10.out.at_ i hi).2.2.2.imp id fun h=>(by have h9:=h.set ⟨W5.heap.size,2,none⟩ (.slice a2 (m+1) c2);rw[hY]at h9;exact h9.up hbz);have HT3:=hid t3;obtain⟨q1,q2,q3⟩:=three_at tm;obtain⟨r1,r2,r3⟩:=three_at t3;have f1:=frozen_at (i:=0) t3;have f2:=frozen_at (i:=1) t3;have f3:=frozen_at (i:=2) t3;clear tm t3 hbz HCk s3 fm hY q0;by_cases he0:er=0
  ·subst he0
   go_wp2;refine ret2 (put3_whole HT3.out _ _ _) Tryz.underlying41 ?_;have hkp:=HKz.out.put3 (HO2.out (w.heap.size+3) (by omega)) (fun i hi=>above_offN (HA2.out i hi) (by omega)) (.bool th) (.int .i64 room) (.slice a2 (m+1) c2);have hkf:=hkp.kel (by rw[HLen.out];omega);rw[HLen.out]at hkf;have hT:=HT.out;subst hT;exact⟨put3_below HBz.out (by omega),0,th,room,_,m+1,_,_,rfl,hkf,Or.inr (Or.inr (Or.inr ⟨HE.out,hlt9,HFn.out,_,HIn.out,HEr.out.symm,Or.inl ⟨rfl,rfl,rfl,rfl,rfl⟩⟩)),⟨(owns_new hkp.row).mono B2.out.size,fun i hi=>(HNv.out _ (getD_inK (by rw[HLen.out];exact hi))).imp id fun h=>((((h.mono B2.out.size).set _ _).set _ _).set _ _)⟩,partK_of HK10.out KS.out HLen.out⟩
  have heb:(er != 0)=true:=by simpa using he0
  have HE0:=hid he0;clear he0;go_wp2;refine ret2 (put3_whole HT3.out _ _ _) Tryz.underlying41 ?_;have hT:=HT.out;subst hT;exact keeps_errW (t':=t) (Or.inr (Or.inr (Or.inr ⟨HE.out,hlt9,HFn.out,_,HIn.out,HEr.out.symm,Or.inr ⟨HE0.out,rfl,rfl,rfl⟩⟩))) HBz.out
 ·have hcb:(c != 0)=true:=by simpa using hc0
  obtain⟨r1,r2,r3⟩:=three_at d3;have f1:=frozen_at (i:=0) d3;have f2:=frozen_at (i:=1) d3;have f3:=frozen_at (i:=2) d3;have HC0:=hid hc0;have HCc:=hid hcc;clear d0 d1 d2 d3 hc0 hcc;go_wp2;refine ret2 (put3_whole D3.out _ _ _) Tryz.underlying41 ?_;exact keeps_errW (t':=t) (Or.inl ⟨by rw[HCc.out];exact HC0.out,HCc.out.symm,rfl,rfl,rfl⟩) B1.out
end Go.Proofs.YtajmnlhfnhbleaaGreat
