/- Parts of the proof -/
import Derived.Test.YthhhfcdakfbpkaaGreatDoorU8
import Derived.Test.YthhhfcdakfbpkaaGreatDoorU7
open Go.Value renaming int -> Yg, agg -> Yj, pointer -> Ym, tuple -> Yn, slice -> Yp, ownBlock -> aaR
open Go.IntKind renaming i64 -> Yh
open Go.Obj renaming cells -> Yk
open Go.Ending renaming returned -> Yl
open Go.Proofs.Tryz renaming prog -> Zc, func210 -> agb, ntmps210 -> agc, func209 -> agd, ntmps209 -> age, results209 -> agf, func153 -> agh, ntmps153 -> agi
open List renaming mem_of_getElem? -> afx, take_append_drop -> aej, mem_cons -> aeQ, mem_append -> YW, not_mem_nil -> afA, length_map -> aeB, getElem?_map -> ady, map_append -> aev, flatMap_append -> aeN, flatMap_cons -> YU, getElem?_append_right -> aey, getElem?_eq_getElem -> YP, map_cons -> YZ, mem_append_right -> aec, append_nil -> aaK, mem_cons_of_mem -> agj, rel_of_pairwise_cons -> aeT, getElem_of_mem -> aeg, any_eq_false -> agk
open Go.RowKit.Below renaming heap_setCell -> Zb
open Array renaming getElem?_eq_getElem -> aga, getElem?_setIfInBounds_ne -> afs, getElem?_setIfInBounds_self -> afG
open Go.Addr renaming add_lit -> Zn
open Nat renaming zero_add -> Ze
open Go.World renaming size_alloc -> ZC
open Option renaming none -> Y1, some -> Y2
open Go renaming Value -> Y3, World -> Y4, TypeId -> Y5, Calls -> aaT, bodyPost_ret -> aaU, maxLen -> aaV
open Go.RowKit renaming Below -> aaS
namespace Go.Proofs.YthhhfcdakfbpkaaGreatDoor
set_option linter.unusedSimpArgs false
set_option linter.unusedVariables false
set_option maxRecDepth 100000
set_option maxHeartbeats 16000000
open Go.RowKit
variable {w w':Y4}{b d hh hi hl j lh ll lo off:Nat}{ve ve' vk vk':Y3}{F F':List Nat}{T:Y5}{cs:Array Y3}
namespace Bt
theorem Fu(b off j k gk nk ck kb n cp:Nat)(ao:Option Addr)(w:Y4)(hb:b<w.heap.size)(hg:gk<w.heap.size)(hk:kb<w.heap.size)(hj:j<nk)(c1:w.cell? ⟨b,off+1,Y1⟩=Y2 (Yp (Y2 ⟨gk,0,Y1⟩) nk ck))(k0:w.cell? ⟨gk,j,Y1⟩=Y2 (Ym (Y2 ⟨kb,0,Y1⟩)))(e0:w.cell? ⟨kb,0,Y1⟩=Y2 (Yp ao n cp)):
   aaT Zc 269 #[Ym (Y2 ⟨b,off,Y1⟩),Yg Yh j,Yg Yh k] w fun x w'=>x=Yl (.bool (decide (n<k)))/\w'=w:=by
 have hj2:(j:Int)<(nk:Int):=by omega
 have hd2:decide ((n:Int)<(k:Int))=decide (n<k):=by simp
 go_enter Tryz.func269,Tryz.ntmps269;go_wp2_with fail;go_ret;exact⟨by first|rfl|simp,rfl⟩
end Bt
namespace Bt
theorem K8(b off i nk gk ck:Nat)(w:Y4)(R:Y4->Prop)(s0 s1 s2:Bool)(hb:b<w.heap.size)(hi:i<nk)(hn:nk<=100)(c1:w.cell? ⟨b,off+1,Y1⟩=Y2 (Yp (Y2 ⟨gk,0,Y1⟩) nk ck))
   (h0:aaT Zc 269 #[Ym (Y2 ⟨b,off,Y1⟩),Yg Yh i,Yg Yh 3] w fun x w'=>x=Yl (.bool s0)/\w'=w)
   (h1:∀m:Nat,m+1=i->aaT Zc 269 #[Ym (Y2 ⟨b,off,Y1⟩),Yg Yh m,Yg Yh 4] w fun x w'=>x=Yl (.bool s1)/\w'=w)
   (h2:∀m:Nat,i+1=m->m<nk->aaT Zc 269 #[Ym (Y2 ⟨b,off,Y1⟩),Yg Yh m,Yg Yh 4] w fun x w'=>x=Yl (.bool s2)/\w'=w)
   (r0:s0=false->R w)
   (r1:∀m:Nat,m+1=i->s0=true->s1=false->aaT Zc 270 #[Ym (Y2 ⟨b,off,Y1⟩),Yg Yh m] w fun x w'=>x=Yl (Yn #[])/\R w')
   (r2:(i=0\/s1=true)->i+1<nk->s0=true->s2=false->aaT Zc 271 #[Ym (Y2 ⟨b,off,Y1⟩),Yg Yh i] w fun x w'=>x=Yl (Yn #[])/\R w')
   (r3:∀m:Nat,m+1=i->s0=true->s1=true->aaT Zc 272 #[Ym (Y2 ⟨b,off,Y1⟩),Yg Yh m] w fun x w'=>x=Yl (Yn #[])/\R w')
   (r4:i=0->s0=true->(i+1<nk->s2=true)->aaT Zc 272 #[Ym (Y2 ⟨b,off,Y1⟩),Yg Yh i] w fun x w'=>x=Yl (Yn #[])/\R w'):
   aaT Zc 210 #[Ym (Y2 ⟨b,off,Y1⟩),Yg Yh i] w fun x w'=>x=Yl (Yn #[])/\R w':=by
 have H0:=hd h0;have H1:=hd h1;have H2:=hd h2;have R0:=hd r0;have R1:=hd r1;have R2:=hd r2;have R3:=hd r3;have R4:=hd r4;obtain⟨i2,hi2⟩:∃i2,i+1=i2:=⟨_,rfl⟩
 have wi2:IntKind.i64.wrap ((i:Int)+1)=(i2:Int):=by rw[show(i:Int)+1=(i2:Int) by omega];exact jC _ (by omega) (by omega)
 have HI2:=hd hi2;have HNK:=hd hi;clear h0 h1 h2 r0 r1 r2 r3 r4 hi2 hi
 cases s0
 · have HR:=hd (R0.o rfl);clear R0 R1 R2 R3 R4 H1 H2;go_enter agb,agc;go_wp2_with fail;refine H0.o.mono ?_;rintro x w1 ⟨rfl,rfl⟩;go_wp2_with fail;exact aaU (results_none rfl _ _ _) rfl ⟨rfl,HR.o⟩
 by_cases hp:0<i
 · obtain⟨m,hm⟩:∃m,m+1=i:=⟨i-1,by omega⟩
   have wm:IntKind.i64.wrap ((i:Int)-1)=(m:Int):=by rw[show(i:Int)-1=(m:Int) by omega];exact jC _ (by omega) (by have:=HNK.o;omega)
   have hp1:(0:Int)<(i:Int):=by omega
   have hp2:decide (0<i)=true:=decide_eq_true hp;have H1m:=hd (H1.o m hm);have R1m:=hd (R1.o m hm rfl);have R3m:=hd (R3.o m hm rfl);have R2m:=hd R2.o;clear R0 R1 R3 R4 H1 R2
   cases s1
   · have HC:=hd (R1m.o rfl);clear R1m R3m R2m H2 hm;go_enter agb,agc;go_wp2_with fail;refine H0.o.mono ?_;rintro x w ⟨rfl,rfl⟩;go_wp2_with fail;refine H1m.o.mono ?_;rintro x w ⟨rfl,rfl⟩;go_wp2_with fail;refine HC.o.mono ?_;rintro x w9 ⟨rfl,hr⟩;have HR:=hd hr;clear hr;go_wp2_with fail
     go_end0
     exact⟨rfl,HR.o⟩
   have HC3:=hd (R3m.o rfl);by_cases hq:i2<nk
   · have hq1:(i2:Int)<(nk:Int):=by omega
     have hq2:decide (i2<nk)=true:=decide_eq_true hq;have H2m:=hd (H2.o i2 HI2.o hq);have HC2:=hd (fun h=>R2m.o (.inr rfl) (by rw[HI2.o];exact hq) rfl h);clear R1m R3m R2m H2 hm
     cases s2
     · have HC:=hd (HC2.o rfl);clear HC2 HC3;go_enter agb,agc;go_wp2_with fail;refine H0.o.mono ?_;rintro x w ⟨rfl,rfl⟩;go_wp2_with fail;refine H1m.o.mono ?_;rintro x w ⟨rfl,rfl⟩;go_wp2_with fail;refine H2m.o.mono ?_;rintro x w ⟨rfl,rfl⟩;go_wp2_with fail;refine HC.o.mono ?_;rintro x w9 ⟨rfl,hr⟩;have HR:=hd hr;clear hr;go_wp2_with fail
       go_end0
       exact⟨rfl,HR.o⟩
     clear HC2;go_enter agb,agc;go_wp2_with fail;refine H0.o.mono ?_;rintro x w ⟨rfl,rfl⟩;go_wp2_with fail;refine H1m.o.mono ?_;rintro x w ⟨rfl,rfl⟩;go_wp2_with fail;refine H2m.o.mono ?_;rintro x w ⟨rfl,rfl⟩;go_wp2_with fail;refine HC3.o.mono ?_;rintro x w9 ⟨rfl,hr⟩;have HR:=hd hr;clear hr;go_wp2_with fail
     go_end0
     exact⟨rfl,HR.o⟩
   have hq1:¬(i2:Int)<(nk:Int):=by omega
   have hq2:decide (i2<nk)=false:=decide_eq_false hq;go_enter agb,agc;go_wp2_with fail;refine H0.o.mono ?_;rintro x w ⟨rfl,rfl⟩;go_wp2_with fail;refine H1m.o.mono ?_;rintro x w ⟨rfl,rfl⟩;go_wp2_with fail;refine HC3.o.mono ?_;rintro x w9 ⟨rfl,hr⟩;have HR:=hd hr;go_wp2_with fail
   go_end0
   exact⟨rfl,HR.o⟩
 obtain rfl:i=0:=by omega
 have hw0:IntKind.i64.wrap (1:Int)=1:=jC 1 (by omega) (by omega);by_cases hq:1<nk
 · have hq1:(1:Int)<(nk:Int):=by omega
   have hq2:decide (1<nk)=true:=decide_eq_true hq;have H2m:=hd (H2.o 1 rfl hq);have HC2:=hd (fun h=>R2.o (.inl rfl) hq rfl h);have HC4:=hd (fun h=>R4.o rfl rfl h)
   cases s2
   · have HC:=hd (HC2.o rfl);go_enter agb,agc;go_wp2_with fail;refine H0.o.mono ?_;rintro x w ⟨rfl,rfl⟩;go_wp2_with fail;refine H2m.o.mono ?_;rintro x w ⟨rfl,rfl⟩;go_wp2_with fail;refine HC.o.mono ?_;rintro x w9 ⟨rfl,hr⟩;have HR:=hd hr;go_wp2_with fail
     go_end0
     exact⟨rfl,HR.o⟩
   have HC:=hd (HC4.o (fun _=>rfl));go_enter agb,agc;go_wp2_with fail;refine H0.o.mono ?_;rintro x w ⟨rfl,rfl⟩;go_wp2_with fail;refine H2m.o.mono ?_;rintro x w ⟨rfl,rfl⟩;go_wp2_with fail;refine HC.o.mono ?_;rintro x w9 ⟨rfl,hr⟩;have HR:=hd hr;go_wp2_with fail
   go_end0
   exact⟨rfl,HR.o⟩
 have hq1:¬(1:Int)<(nk:Int):=by omega
 have hq2:decide (1<nk)=false:=decide_eq_false hq;have HC:=hd (R4.o rfl rfl (fun h=>absurd h hq));go_enter agb,agc;go_wp2_with fail;refine H0.o.mono ?_;rintro x w ⟨rfl,rfl⟩;go_wp2_with fail;refine HC.o.mono ?_;rintro x w9 ⟨rfl,hr⟩;have HR:=hd hr;go_wp2_with fail
 go_end0
 exact⟨rfl,HR.o⟩
end Bt
namespace Bt
theorem wJ(b off:Nat)(ve:Y3)(ka:Option Addr)(kc:Nat)(L:List (Y3×Y3))(last:Y3×Y3)(cs:Array Y3)(T:Y5)(w:Y4)(hn:L.length<=100)(hB:ae w b cs T)(h0:cs[off]? =Y2 ve)(h1:cs[off+1]? =Y2 (Yp ka 0 kc))(ho:w.ownsRow 0 265 2 ve L.length (ah L))(hlast:L[L.length-1]? =Y2 last)(hent:∀e∈L,wO e)(hb:b∉own ve):
   aaT Zc 209 #[Ym (Y2 ⟨b,off,Y1⟩)] w fun x w'=>x=Yl (Yj #[last.1,last.2])/\∃ve',own ve'=own ve/\ax (b::own ve) w w'/\ae w' b (cs.setIfInBounds off ve') T/\w'.ownsRow 0 265 2 ve' (L.length-1) (ah (L.eraseIdx (L.length-1))):=by
 have hl:=(List.getElem?_eq_some_iff.1 hlast).1;obtain⟨gv,cap,cur,rfl,_,_,_,_,_⟩:=aA ho (by omega);obtain⟨z,ra,rn,rc,rfl⟩:=hent last (afx hlast)
 have hb0:aaS w.heap.size w (w.alloc (Yk #[Yg Yh 0,Yp Y1 0 0] 265)):=by go_grown
 have HR0:=hd (ae.new w #[Yg Yh 0,Yp Y1 0 0] 265);have B0:=hB.alloc (Yk #[Yg Yh 0,Yp Y1 0 0] 265);have O0:=ho.alloc (Yk #[Yg Yh 0,Yp Y1 0 0] 265);have HTO:=hd (jD b off (L.length-1) (Yp (Y2 ⟨gv,0,Y1⟩) L.length cap) L (Yg Yh z,Yp ra rn rc) cs T (w.alloc (Yk #[Yg Yh 0,Yp Y1 0 0] 265)).drew (by omega) B0.drew h0 O0 hlast hent hb);have c0:=(B0.cell off).trans h0;have c1:=(B0.cell (off+1)).trans h1;have lb0:=B0.lt;have hbw:=hB.lt;have lgv:=aQ ho gv (by simp[own,aaR]);obtain⟨n,hn'⟩:∃n,L.length=n:=⟨_,rfl⟩;obtain⟨m,hm⟩:∃m,n-1=m:=⟨_,rfl⟩;rw[hn']at c0;rw[hn',hm]at HTO⊢
 have wm:IntKind.i64.wrap ((n:Int)-1)=(m:Int):=by rw[show(n:Int)-1=(m:Int) by omega];exact jC _ (by omega) (by omega)
 clear hB h0 h1 ho hlast hent hb B0 O0 hn' hm hl hn hb0;go_enter agd,age;go_wp2_with fail;refine(eF b off ka kc _ lb0 c1).mono ?_;rintro x w1 ⟨rfl,rfl⟩;go_wp2_with fail
 go_region_with (first
  |(go_at_call 207
    refine HTO.o.mono ?_;rintro x w2 ⟨rfl,v2,y1,y2,y3,y4⟩;have T2:ax (b::own (Yp (Y2 ⟨gv,0,Y1⟩) n cap)) w w2:=((ax.refl _ w).alloc _).trans y2.bW (fun _ h=> .inl h);have R2:=y2.bW.blk HR0.o (by simp[own,aaR];omega);have r0:=R2.cell 0;have r1:=R2.cell 1;have f0:=R2.free 0;have f1:=R2.free 1;have lr:=R2.lt;simp at r0 r1;have S2:=(R2.set 0 (Yg Yh z)).set 1 (Yp ra rn rc);have s0:=S2.cell 0;have s1:=S2.cell 1;simp at s0 s1
    have HF:Yf (∃ve',own ve'=own (Yp (Y2 ⟨gv,0,Y1⟩) n cap)/\ax (b::own (Yp (Y2 ⟨gv,0,Y1⟩) n cap)) w ((w2.setCell ⟨w.heap.size,0,Y1⟩ (Yg Yh z)).setCell ⟨w.heap.size,1,Y1⟩ (Yp ra rn rc))/\ae ((w2.setCell ⟨w.heap.size,0,Y1⟩ (Yg Yh z)).setCell ⟨w.heap.size,1,Y1⟩ (Yp ra rn rc)) b (cs.setIfInBounds off ve') T/\((w2.setCell ⟨w.heap.size,0,Y1⟩ (Yg Yh z)).setCell ⟨w.heap.size,1,Y1⟩ (Yp ra rn rc)).ownsRow 0 265 2 ve' m (ah (L.eraseIdx m))):=by
     refine⟨v2,y1,(T2.set _ _ (.inr (nlr _))).set _ _ (.inr (nlr _)),(y3.far _ _ (by show w.heap.size≠b;omega)).far _ _ (by show w.heap.size≠b;omega),aK y4 fun g hg=> ?_⟩;rw[y1]at hg;simp[own,aaR]at hg;subst hg;rw[Zb _ _ _ _ (by show g≠w.heap.size;omega),Zb _ _ _ _ (by show g≠w.heap.size;omega)]
    clear y1 y2 y3 y4 T2 R2 S2))
 all_goals
  go_wp2_with fail;exact aaU (v:=Yj #[Yg Yh z,Yp ra rn rc]) (by simp[results,agf,go_sem,s0,s1]) rfl ⟨rfl,HF.o⟩
end Bt
namespace Bt
theorem wP(b off nk gk ck kb m:Nat)(z:Int)(ra:Option Addr)(rn rc:Nat)(w:Y4)(P R:Y4->Prop)(hb:b<w.heap.size)(hg:gk<w.heap.size)(hm:m+1=nk)(hn:nk<=100)(c1:w.cell? ⟨b,off+1,Y1⟩=Y2 (Yp (Y2 ⟨gk,0,Y1⟩) nk ck))(k0:w.cell? ⟨gk,m,Y1⟩=Y2 (Ym (Y2 ⟨kb,0,Y1⟩)))
   (hrec:aaT Zc 209 #[Ym (Y2 ⟨kb,0,Y1⟩)] (w.alloc (Yk #[Yg Yh 0,Yp Y1 0 0] 265)) fun x w1=>x=Yl (Yj #[Yg Yh z,Yp ra rn rc])/\P w1/\ae w1 w.heap.size #[Yg Yh 0,Yp Y1 0 0] 265)
   (hmend:∀w1,P w1->aaT Zc 210 #[Ym (Y2 ⟨b,off,Y1⟩),Yg Yh m] (w1.alloc (Yk #[Yg Yh z,Yp ra rn rc] 265)) fun x w2=>x=Yl (Yn #[])/\w2.heap[w.heap.size]? =w1.heap[w.heap.size]? /\ae w2 w1.heap.size #[Yg Yh z,Yp ra rn rc] 265/\R ((w2.setCell ⟨w.heap.size,0,Y1⟩ (Yg Yh z)).setCell ⟨w.heap.size,1,Y1⟩ (Yp ra rn rc))):
   aaT Zc 209 #[Ym (Y2 ⟨b,off,Y1⟩)] w fun x w'=>x=Yl (Yj #[Yg Yh z,Yp ra rn rc])/\R w':=by
 have uZ:=hd hrec;have HM:=hd hmend
 have hb0:aaS w.heap.size w (w.alloc (Yk #[Yg Yh 0,Yp Y1 0 0] 265)):=by go_grown
 have d1:=(hb0.cell (p:=⟨b,off+1,Y1⟩) hb).trans c1;have e0:=(hb0.cell (p:=⟨gk,m,Y1⟩) hg).trans k0
 have lb0:b<(w.alloc (Yk #[Yg Yh 0,Yp Y1 0 0] 265)).heap.size:=by simp;omega
 have lg0:gk<(w.alloc (Yk #[Yg Yh 0,Yp Y1 0 0] 265)).heap.size:=by simp;omega
 have wm:IntKind.i64.wrap ((nk:Int)-1)=(m:Int):=by rw[show(nk:Int)-1=(m:Int) by omega];exact jC _ (by omega) (by omega)
 have hz:((nk:Int)==0)=false:=by simp;omega
 have im:(m:Int)<(nk:Int):=by omega
 have nm:m<nk:=by omega
 go_enter agd,age;go_wp2_with fail;refine(gz b off nk _ ck _ hz lb0 d1).mono ?_;rintro x w9 ⟨rfl,rfl⟩;go_wp2_with fail;refine uZ.o.mono ?_;rintro x w1 ⟨rfl,hP,hR1⟩;have HMM:=hd (HM.o w1 hP);have HR1:=hd hR1;have l1:=hR1.lt;go_wp2_with fail;refine HMM.o.mono ?_;rintro x w2 ⟨rfl,q1,q2,q3⟩
 have R2:ae w2 w.heap.size #[Yg Yh 0,Yp Y1 0 0] 265:=by unfold ae;rw[q1];exact HR1.o
 obtain⟨r0,r1⟩:=R2.d2;obtain⟨f0,f1⟩:=R2.f2;have lr:=R2.lt;obtain⟨t0,t1⟩:=q2.d2;have lt:=q2.lt;have S2:=(R2.set 0 (Yg Yh z)).set 1 (Yp ra rn rc);obtain⟨s0,s1⟩:=S2.d2;have HQ:=hd q3;go_wp2_with fail;exact aaU (v:=Yj #[Yg Yh z,Yp ra rn rc]) (by simp[results,agf,go_sem,s0,s1]) rfl ⟨rfl,HQ.o⟩
end Bt
namespace Bt
theorem EN(b off i kc:Nat)(ka:Option Addr)(z:Int)(w:Y4)(R:Y4->Prop)(hb:b<w.heap.size)(c1:w.cell? ⟨b,off+1,Y1⟩=Y2 (Yp ka 0 kc))
   (hfind:aaT Zc 203 #[Ym (Y2 ⟨b,off,Y1⟩),Yg Yh z] w fun x w1=>x=Yl (Yn #[Yg Yh i,.bool true])/\aaS w.heap.size w w1)
   (hto:∀W,aaS w.heap.size w W->aaT Zc 207 #[Ym (Y2 ⟨b,off,Y1⟩),Yg Yh i] W fun x w'=>(∃p q,x=Yl (Yj #[p,q]))/\R w'):
   aaT Zc 153 #[Ym (Y2 ⟨b,off,Y1⟩),Yg Yh z] w fun x w'=>x=Yl (.bool true)/\R w':=by
 have HF:=hd hfind;have HT:=hd hto;go_enter agh,agi;go_wp2_with fail;refine HF.o.mono ?_;rintro x w1 ⟨rfl,hb1⟩;have d1:=(hb1.cell (p:=⟨b,off+1,Y1⟩) hb).trans c1;have lb1:b<w1.heap.size:=nlA hb hb1.size;have HTT:=hd (HT.o w1 hb1);go_wp2_with fail;refine(eF b off ka kc _ lb1 d1).mono ?_;rintro x w9 ⟨rfl,rfl⟩;go_wp2_with fail;refine HTT.o.mono ?_;rintro x w2 ⟨⟨p,q,rfl⟩,hr⟩;have HR:=hd hr;go_wp2_with fail;go_ret;exact⟨rfl,HR.o⟩
theorem GM(b off i nk gk ck kb:Nat)(z:Int)(w:Y4)(P R:Y4->Prop)(hb:b<w.heap.size)(hg:gk<w.heap.size)(hi:i<nk)(hn:nk<=100)(c1:w.cell? ⟨b,off+1,Y1⟩=Y2 (Yp (Y2 ⟨gk,0,Y1⟩) nk ck))(k0:w.cell? ⟨gk,i,Y1⟩=Y2 (Ym (Y2 ⟨kb,0,Y1⟩)))
   (hfind:aaT Zc 203 #[Ym (Y2 ⟨b,off,Y1⟩),Yg Yh z] w fun x w1=>x=Yl (Yn #[Yg Yh i,.bool false])/\aaS w.heap.size w w1)
   (hrec:∀W,aaS w.heap.size w W->aaT Zc 153 #[Ym (Y2 ⟨kb,0,Y1⟩),Yg Yh z] W fun x w'=>x=Yl (.bool true)/\P w')
   (hmend:∀w2,P w2->aaT Zc 210 #[Ym (Y2 ⟨b,off,Y1⟩),Yg Yh i] w2 fun x w'=>x=Yl (Yn #[])/\R w'):
   aaT Zc 153 #[Ym (Y2 ⟨b,off,Y1⟩),Yg Yh z] w fun x w'=>x=Yl (.bool true)/\R w':=by
 have HF:=hd hfind;have HT:=hd hrec;have HM:=hd hmend
 have hz:((nk:Int)==0)=false:=by simp;omega
 have im:(i:Int)<(nk:Int):=by omega
 go_enter agh,agi;go_wp2_with fail;refine HF.o.mono ?_;rintro x w1 ⟨rfl,hb1⟩;have d1:=(hb1.cell (p:=⟨b,off+1,Y1⟩) hb).trans c1;have e0:=(hb1.cell (p:=⟨gk,i,Y1⟩) hg).trans k0;have lb1:b<w1.heap.size:=nlA hb hb1.size;have lg1:gk<w1.heap.size:=nlA hg hb1.size;have HTT:=hd (HT.o w1 hb1);go_wp2_with fail;refine(gz b off nk _ ck _ hz lb1 d1).mono ?_;rintro x w9 ⟨rfl,rfl⟩;go_wp2_with fail;refine HTT.o.mono ?_;rintro x w2 ⟨rfl,hP⟩;have HMM:=hd (HM.o w2 hP);go_wp2_with fail;refine HMM.o.mono ?_;rintro x w3 ⟨rfl,hr⟩;have HR:=hd hr;go_wp2_with fail;go_ret;exact⟨rfl,HR.o⟩
theorem EE(b off i nk gk ck kb ge ne ce:Nat)(z z':Int)(ra:Option Addr)(rn rc:Nat)(w:Y4)(P R:Y4->Prop)(hb:b<w.heap.size)(hg:gk<w.heap.size)(hge:ge<w.heap.size)(hi:i<ne)(hi2:i<nk)(hn:nk<=100)(c0:w.cell? ⟨b,off,Y1⟩=Y2 (Yp (Y2 ⟨ge,0,Y1⟩) ne ce))(c1:w.cell? ⟨b,off+1,Y1⟩=Y2 (Yp (Y2 ⟨gk,0,Y1⟩) nk ck))(k0:w.cell? ⟨gk,i,Y1⟩=Y2 (Ym (Y2 ⟨kb,0,Y1⟩)))
   (hfind:aaT Zc 203 #[Ym (Y2 ⟨b,off,Y1⟩),Yg Yh z] w fun x w1=>x=Yl (Yn #[Yg Yh i,.bool true])/\aaS w.heap.size w w1)
   (hrec:∀W,aaS w.heap.size w W->aaT Zc 209 #[Ym (Y2 ⟨kb,0,Y1⟩)] W fun x w'=>x=Yl (Yj #[Yg Yh z',Yp ra rn rc])/\P w')
   (hP:∀w2,P w2->b<w2.heap.size/\w2.cell? ⟨b,off,Y1⟩=Y2 (Yp (Y2 ⟨ge,0,Y1⟩) ne ce)/\∃cur,ae w2 ge cur 265/\i*2+1<cur.size)
   (hmend:∀w2,P w2->aaT Zc 210 #[Ym (Y2 ⟨b,off,Y1⟩),Yg Yh i] ((w2.setCell ⟨ge,i*2,Y1⟩ (Yg Yh z')).setCell ⟨ge,i*2+1,Y1⟩ (Yp ra rn rc)) fun x w'=>x=Yl (Yn #[])/\R w'):
   aaT Zc 153 #[Ym (Y2 ⟨b,off,Y1⟩),Yg Yh z] w fun x w'=>x=Yl (.bool true)/\R w':=by
 have HF:=hd hfind;have HT:=hd hrec;have HM:=hd hmend;have HP:=hd hP
 have hz:((nk:Int)==0)=false:=by simp;omega
 have im:(i:Int)<(nk:Int):=by omega
 have ie:(i:Int)<(ne:Int):=by omega
 go_enter agh,agi;go_wp2_with fail;refine HF.o.mono ?_;rintro x w1 ⟨rfl,hb1⟩;have d0:=(hb1.cell (p:=⟨b,off,Y1⟩) hb).trans c0;have d1:=(hb1.cell (p:=⟨b,off+1,Y1⟩) hb).trans c1;have e0:=(hb1.cell (p:=⟨gk,i,Y1⟩) hg).trans k0;have lb1:b<w1.heap.size:=nlA hb hb1.size;have lg1:gk<w1.heap.size:=nlA hg hb1.size;have le1:ge<w1.heap.size:=nlA hge hb1.size;have HTT:=hd (HT.o w1.drew hb1.drew);go_wp2_with fail;refine(gz b off nk _ ck _ hz lb1 d1).mono ?_;rintro x w1 ⟨rfl,rfl⟩;go_wp2_with fail
 go_region_with (first
  |(go_at_call 209
    refine HTT.o.mono ?_;rintro x w2 ⟨rfl,hp⟩;obtain⟨p0,p1,cur,p2,p3⟩:=HP.o w2 hp;obtain⟨u0,hu0⟩:∃u,cur[i*2]? =Y2 u:=⟨_,aga (by omega)⟩;obtain⟨u1,hu1⟩:∃u,cur[i*2+1]? =Y2 u:=⟨_,aga p3⟩;have x0:=(p2.cell (i*2)).trans hu0;have x1:=(p2.cell (i*2+1)).trans hu1;have y0:=p2.free (i*2);have y1:=p2.free (i*2+1);have y2:=p2.lt;have HMM:=hd (HM.o w2 hp)
    clear hp p2 p3 hu0 hu1))
 all_goals
  go_wp2_with fail;refine HMM.o.mono ?_;rintro x w3 ⟨rfl,hr⟩;have HR:=hd hr;go_wp2_with fail;go_ret;exact⟨rfl,HR.o⟩
end Bt
namespace Bt
theorem DZ(z:Int)(p off:Nat)(c:Int)(w:Y4)(PO:Y4->Array Y3->Prop)(T:Y5)(R:Y4->Prop)(hp:p<w.heap.size)(hc:1<=c/\c<=1000000)
   (hrem:aaT Zc 153 #[Ym (Y2 ⟨p,off,Y1⟩),Yg Yh z] w fun x W=>x=Yl (.bool true)/\∃cs,PO W cs)
   (hPO:∀W cs,PO W cs->ae W p cs T/\cs[off+2]? =Y2 (Yg Yh c)/\∃m ao cp bo bn bc,m<=100/\bn<=100/\cs[off]? =Y2 (Yp ao m cp)/\cs[off+1]? =Y2 (Yp bo bn bc)/\(m≠0\/bn=0->R (W.setCell ⟨p,off+2,Y1⟩ (Yg Yh (c-1))))/\
     (m=0->bn≠0->∃gk kb a1 n1 c1 a2 n2 c2,bo=Y2 ⟨gk,0,Y1⟩/\gk≠p/\kb≠p/\gk<W.heap.size/\W.cell? ⟨gk,0,Y1⟩=Y2 (Ym (Y2 ⟨kb,0,Y1⟩))/\ae W kb #[Yp a1 n1 c1,Yp a2 n2 c2] 124/\R (((W.setCell ⟨p,off+2,Y1⟩ (Yg Yh (c-1))).setCell ⟨p,off,Y1⟩ (Yp a1 n1 c1)).setCell ⟨p,off+1,Y1⟩ (Yp a2 n2 c2)))):
   aaT Zc 86 #[Ym (Y2 ⟨p,off,Y1⟩),Yg Yh z] w fun x w'=>x=Yl (Yn #[])/\R w':=by
 have HR0:=hd hrem;have HPO:=hd hPO;have wc:IntKind.i64.wrap (c-1)=c-1:=jC _ (by omega) (by omega);go_enter Tryz.func86,Tryz.ntmps86;go_wp2_with fail;refine HR0.o.mono ?_;rintro x W ⟨rfl,cs,hpo⟩;obtain⟨hB,h2,m,ao,cp,bo,bn,bc,hm,hbn,h0,h1,p7,p8⟩:=HPO.o W cs hpo;have lp:=hB.lt;have x2:=(hB.cell (off+2)).trans h2;have f2:=hB.free (off+2);have HB1:=hd (hB.set (off+2) (Yg Yh (c-1)))
 have d0:(W.setCell ⟨p,off+2,Y1⟩ (Yg Yh (c-1))).cell? ⟨p,off,Y1⟩=Y2 (Yp ao m cp):=by rw[HB1.o.cell,afs (by omega)];exact h0
 have d1:(W.setCell ⟨p,off+2,Y1⟩ (Yg Yh (c-1))).cell? ⟨p,off+1,Y1⟩=Y2 (Yp bo bn bc):=by rw[HB1.o.cell,afs (by omega)];exact h1
 have lp1:=HB1.o.lt;have HR7:=hd p7;have HR8:=hd p8;have f0:=HB1.o.free off;have f1:=HB1.o.free (off+1);have HHB:=hd hB;by_cases hm0:m=0
 · by_cases hb0:bn=0
   · have HR:=hd (HR7.o (.inr hb0));subst hm0;subst hb0;go_wp2_with fail
     first
      |(refine(eF p off bo bc (W.setCell ⟨p,off+2,Y1⟩ (Yg Yh (c-1))) lp1 d1).mono ?_)
      |(refine(eF p off bo bc _ lp1 d1).mono ?_)
     rintro x w9 ⟨rfl,rfl⟩;go_wp2_with fail
     go_end0
     exact⟨rfl,HR.o⟩
   obtain⟨gk,kb,a1,n1,c1,a2,n2,c2,hbo,q1,q2,q3,q4,q5,q6⟩:=HR8.o hm0 hb0;subst hbo;subst hm0
   have hz:((bn:Int)==0)=false:=by simp;omega
   have HR:=hd q6;have k5:=q5.far ⟨p,off+2,Y1⟩ (Yg Yh (c-1)) (by show p≠kb;omega)
   have e0:(W.setCell ⟨p,off+2,Y1⟩ (Yg Yh (c-1))).cell? ⟨gk,0,Y1⟩=Y2 (Ym (Y2 ⟨kb,0,Y1⟩)):=by
    rw[World.cell?_setCell_other _ _ _ _ (by simp[q1,Ne.symm q1])];exact q4
   obtain⟨n0,n1'⟩:=k5.d2;have lk:=k5.lt
   have ib:(0:Int)<(bn:Int):=by omega
   have nb:0<bn:=by omega
   have lg:gk<(W.setCell ⟨p,off+2,Y1⟩ (Yg Yh (c-1))).heap.size:=by simpa using q3
   go_wp2_with fail;refine(gz p off bn (Y2 ⟨gk,0,Y1⟩) bc (W.setCell ⟨p,off+2,Y1⟩ (Yg Yh (c-1))) hz lp1 d1).mono ?_;rintro x w9 ⟨rfl,rfl⟩;go_wp2_with fail
   go_end0
   exact⟨rfl,HR.o⟩
 have HR:=hd (HR7.o (.inl hm0))
 have hz:((m:Int)==0)=false:=by simp;omega
 go_wp2_with fail
 go_end0
 exact⟨rfl,HR.o⟩
end Bt
namespace Bt
theorem H6{α:Type}(es1 es2:List α)(ls1 ls2:List (List α))(a b a' b':List α)(e e':α)(hl:ls1.length=es1.length)(h:a++e::b=a'++e'::b'):
   aF (ls1++a'::b'::ls2) (es1++e'::es2)=aF (ls1++a::b::ls2) (es1++e::es2):=by
 rw[<-lI es1 ls1 a' b' e' es2 ls2 hl,<-lI es1 ls1 a b e es2 ls2 hl,h]
theorem Hl{α:Type}(ls kh:List (List α))(k:List α)(el eh:List α)(last mid:α)(h:ls.length=el.length+1):
   aF (ls++[k]) (el++[last])++mid::aF kh eh=aF ls el++last::aF (k::kh) (mid::eh):=by
 rw[pW el ls [k] last [] h];simp[aF]
theorem KU{α:Type}(kl kh:List (List α))(k:List α)(el eh:List α)(mid first:α)(h:kl.length=el.length+1):
   aF kl el++mid::aF (k::kh) (first::eh)=aF (kl++[k]) (el++[mid])++first::aF kh eh:=by
 rw[pW el kl [k] mid [] h];simp[aF]
theorem Me{α:Type}(kl kh:List (List α))(el eh:List α)(mid:α)(h:kl.length=el.length+1):
   aF kl el++mid::aF kh eh=aF (kl++kh) (el++mid::eh):=(pW el kl kh mid eh h).symm
theorem J6{α:Type}(l:List α)(j:Nat)(h:j<l.length):l=l.take j++l[j]::l.drop (j+1):=by
 rw[<-List.drop_eq_getElem_cons h,aej]
theorem jf{α:Type}(l:List α)(j:Nat):l.eraseIdx j=l.take j++l.drop (j+1):=List.eraseIdx_eq_take_drop_succ l j
theorem Nd.lax{T:Ty}{lo' hi':Nat}{L:List (Y3×Y3)}(h:Nd T w d lo hi L ve vk F)(h1:lo'<=lo)(h2:hi<=hi'):Nd T w d lo' hi' L ve vk F:=by
 cases d with
 |zero=>
  obtain⟨h3,h4⟩:=h;exact⟨⟨by omega,by omega⟩,h4⟩
 |succ d=>
  obtain⟨es,ks,h3,h4⟩:=h;exact⟨es,ks,⟨by omega,by omega⟩,h4⟩
end Bt
namespace Bt
structure tV(w w':Y4)(d j:Nat)(ve:Y3)(es:List (Y3×Y3))(kl kh:aM)(mid up:Y3×Y3)(kl' kh':aM):Prop where
 gP:ax (own ve++(av kl++av kh)) w w'
 bz:w'.ownsRow 0 265 2 ve es.length (ah (es.set j up))
 low:fG w' d kl'
 high:fG w' d kh'
 bs:kl'.b=kl.b/\kh'.b=kh.b
 list:kl.L++mid::kh.L=kl'.L++up::kh'.L
 cnt:∀x,(av kl').count x+(av kh').count x<=(av kl).count x+(av kh).count x\/(w.heap.size<=x/\(av kl').count x+(av kh').count x<=1)
theorem ug{b':Nat}{T':Y5}{s s' n n':Nat}{v v':Y3}{xs xs':List Y3}(h:w.ownsRow b T s v n xs)(h':w.ownsRow b' T' s' v' n' xs')(hT:T≠T')(x:Nat):(own v).count x=0\/(own v').count x=0:=by
 by_cases hx:x∈own v
 · right
   refine List.count_eq_zero.2 fun hx'=> ?_
   rcases h.2 with⟨rfl,_⟩|⟨g1,_,_,rfl,_,h1,_⟩
   · simp[own,aaR]at hx
   rcases h'.2 with⟨rfl,_⟩|⟨g2,_,_,rfl,_,h2,_⟩
   · simp[own,aaR]at hx'
   simp[own,aaR]at hx hx';subst hx hx';rw[h1]at h2;injection h2 with h2;injection h2 with _ h2;exact hT h2
 exact .inl (List.count_eq_zero.2 hx)
theorem cZ(k:aM):av k=k.b::k.F:=rfl
theorem vS{es:List (Y3×Y3)}{kl kh:aM}{mid last up:Y3×Y3}{el' eh':List (Y3×Y3)}{vel' jP:Y3}
   (T:Turned w w' j ve es kl.b kh.b kl.ve kl.vk kh.ve kh.vk mid last vel' jP el' eh' up [] kl.vk kh.vk)
   (hFl:kl.F=own kl.ve) (hFh:kh.F=own kh.ve) (hkl:∃ka kc,kl.vk=Yp ka 0 kc) (hkh:∃ka kc,kh.vk=Yp ka 0 kc)
   (h1:3<=el'.length/\el'.length<=6) (h2:3<=eh'.length/\eh'.length<=6) (hlist:kl.L++mid::kh.L=el'++up::eh')
   (hlt:∀g∈av kl++av kh,g<w.heap.size):
   tV w w' 0 j ve es kl kh mid up ⟨kl.b,el',vel',kl.vk,own vel'⟩ ⟨kh.b,eh',jP,kh.vk,own jP⟩:=by
 refine⟨T.gP.more fun x hx=> ?_,T.bz,⟨T.lblk,h1,T.lents,hkl,rfl⟩,⟨T.hblk,h2,T.hents,hkh,rfl⟩,⟨rfl,rfl⟩,hlist,fun x=> ?_⟩
 · simp only[cZ,hFl,hFh,aeQ,YW,afA,or_false]at hx⊢
   grind
 have a1:=dV (x:=x) T.lown;have a2:=dV (x:=x) T.hown
 have a3:(own vel').count x=(own kl.ve).count x\/(own jP).count x=(own kh.ve).count x:=by
  rcases T.same with h|h
  · left;rw[h]
  right;rw[h]
 have a4:=cnt_lt (x:=x) hlt;simp only[cZ,hFl,hFh,aV,aD]at*;omega
theorem PZ{ql qh ql' qh':List aM}(h:ql'++qh'=ql++qh)(x:Nat):(ql'.flatMap av).count x+(qh'.flatMap av).count x=(ql.flatMap av).count x+(qh.flatMap av).count x:=by
 rw[<-tK,<-tK,h]
theorem su{es:List (Y3×Y3)}{kl kh:aM}{mid last up:Y3×Y3}{el' eh':List (Y3×Y3)}{vel' jP vkl' lW:Y3}{ql qh ql' qh':List aM}
   (T:Turned w w' j ve es kl.b kh.b kl.ve kl.vk kh.ve kh.vk mid last vel' jP el' eh' up (own kl.vk++own kh.vk) vkl' lW)
   (K:uy w w' kl.vk kh.vk vkl' lW (ql'.map aM.ptr) (qh'.map aM.ptr))
   (hFl:kl.F=own kl.ve++own kl.vk++ql.flatMap av) (hFh:kh.F=own kh.ve++own kh.vk++qh.flatMap av)
   (hq:ql'++qh'=ql++qh) (hkids:∀k∈ql++qh,fG w d k)
   (h1:3<=el'.length/\el'.length<=6) (h2:3<=eh'.length/\eh'.length<=6) (hl':ql'.length=el'.length+1) (hh':qh'.length=eh'.length+1)
   (hlist:kl.L++mid::kh.L=aF (ql'.map aM.L) el'++up::aF (qh'.map aM.L) eh')
   (hnd:(own ve++(av kl++av kh)).Nodup) (hlt:∀g∈av kl++av kh,g<w.heap.size):
   tV w w' (d+1) j ve es kl kh mid up ⟨kl.b,aF (ql'.map aM.L) el',vel',vkl',own vel'++own vkl'++ql'.flatMap av⟩ ⟨kh.b,aF (qh'.map aM.L) eh',jP,lW,own jP++own lW++qh'.flatMap av⟩:=by
 have hfar:∀g,g∈ql.flatMap av\/g∈qh.flatMap av->g∉kl.b::kh.b::(own ve++own kl.ve++own kh.ve++(own kl.vk++own kh.vk)):=fun g hg hx=>by
  have c1:=bu hnd g;have c2:=List.count_pos_iff.2 hx
  have c3:0<(ql.flatMap av).count g+(qh.flatMap av).count g:=by
   rcases hg with h|h
   · have:=List.count_pos_iff.2 h;omega
   have:=List.count_pos_iff.2 h;omega
  simp only[cZ,hFl,hFh,aV,aD]at c1 c2
  try simp only[show(fun k:aM=>k.b::k.F)=av from rfl]at*
  omega
 have keep:∀k∈ql'++qh',fG w' d k:=fun k hk=>by
  rw[hq]at hk;obtain⟨b1,b2⟩:=hkids k hk
  have hin:∀g∈av k,g∈ql.flatMap av\/g∈qh.flatMap av:=fun g hg=>by
   rcases List.mem_append.1 hk with h|h
   · exact .inl (List.mem_flatMap.2 ⟨k,h,hg⟩)
   exact .inr (List.mem_flatMap.2 ⟨k,h,hg⟩)
  exact⟨T.gP.blk b1 (hfar _ (hin _ (by simp[av]))),b2.touch T.gP fun g hg=>hfar g (hin g (by simp[av,hg]))⟩
 refine⟨T.gP.more fun x hx=> ?_,T.bz,⟨T.lblk,el',ql',h1,hl',T.lents,?_,rfl,rfl,fun k hk=>keep k (by simp[hk])⟩,⟨T.hblk,eh',qh',h2,hh',T.hents,?_,rfl,rfl,fun k hk=>keep k (by simp[hk])⟩,⟨rfl,rfl⟩,hlist,fun x=> ?_⟩
 · simp only[cZ,hFl,hFh,aeQ,YW,afA,or_false]at hx⊢
   grind
 · have:=K.lk;rw[aeB]at this;exact this
 · have:=K.hk;rw[aeB]at this;exact this
 have a1:=dV (x:=x) T.lown;have a2:=dV (x:=x) T.hown
 have a3:(own vel').count x=(own kl.ve).count x\/(own jP).count x=(own kh.ve).count x:=by
  rcases T.same with h|h
  · left;rw[h]
  right;rw[h]
 have b1:=dV (x:=x) K.lown;have b2:=dV (x:=x) K.hown
 have b3:(own vkl').count x=(own kl.vk).count x\/(own lW).count x=(own kh.vk).count x:=by
  rcases K.same with h|h
  · left;rw[h]
  right;rw[h]
 have c1:=ug T.lents K.lk (by decide) x;have c2:=ug T.lents K.hk (by decide) x;have c3:=ug T.hents K.lk (by decide) x;have c4:=ug T.hents K.hk (by decide) x;have a4:=cnt_lt (x:=x) hlt;have a5:=PZ hq x;clear hfar keep hkids hnd hlt T K hlist;simp only[cZ,hFl,hFh,aV,aD]at a4⊢
 try simp only[show(fun k:aM=>k.b::k.F)=av from rfl]at*
 omega
end Bt
namespace Bt
structure Two(w:Y4)(d b off j:Nat)(cs:Array Y3)(T:Y5)(ve vk:Y3)(es:List (Y3×Y3))(ks:List aM)(kl kh:aM)(ll lh hl hh:Nat)(mid:Y3×Y3):Prop where
 blk:ae w b cs T
 c0:cs[off]? =Y2 ve
 c1:cs[off+1]? =Y2 vk
 bz:w.ownsRow 0 265 2 ve es.length (ah es)
 kids:w.ownsRow 0 266 1 vk ks.length (ks.map aM.ptr)
 mid:es[j]? =Y2 mid
 lo:ks[j]? =Y2 kl
 hi:ks[j+1]? =Y2 kh
 lblk:ae w kl.b #[kl.ve,kl.vk] 124
 hblk:ae w kh.b #[kh.ve,kh.vk] 124
 lnd:Nd Tr w d ll lh kl.L kl.ve kl.vk kl.F
 hnd:Nd Tr w d hl hh kh.L kh.ve kh.vk kh.F
 apart:(b::(own ve++own vk++(av kl++av kh))).Nodup
 kT:(∀e∈es,wO e)/\(∀e∈kl.L,wO e)/\∀e∈kh.L,wO e
 small:es.length<=100/\ks.length<=100/\lh<=90/\hh<=90
theorem Two.lt{es:List (Y3×Y3)}{ks:List aM}{kl kh:aM}{mid:Y3×Y3}(h:Two w d b off j cs T ve vk es ks kl kh ll lh hl hh mid):∀g∈av kl++av kh,g<w.heap.size:=by
 intro g hg;simp only[cZ,YW,aeQ]at hg;rcases hg with(rfl|hg)|(rfl|hg)
 · exact h.lblk.lt
 · exact h.lnd.lt g hg
 · exact h.hblk.lt
 exact h.hnd.lt g hg
theorem Two.pair{es:List (Y3×Y3)}{ks:List aM}{kl kh:aM}{mid:Y3×Y3}(h:Two w d b off j cs T ve vk es ks kl kh ll lh hl hh mid)
   {el eh:List (Y3×Y3)} (hle:w.ownsRow 0 265 2 kl.ve el.length (ah el)) (hhe:w.ownsRow 0 265 2 kh.ve eh.length (ah eh)) (hl1:el.length<=100) (hh1:eh.length<=100) (hle2:∀e∈el,wO e) (hhe2:∀e∈eh,wO e)
   (hFl:∃R,kl.F=own kl.ve++R) (hFh:∃R,kh.F=own kh.ve++R):
   Sd w b off j cs T ve vk es (ks.map aM.ptr) kl.b kh.b kl.ve kl.vk kh.ve kh.vk el eh:=by
 obtain⟨R1,hFl⟩:=hFl;obtain⟨R2,hFh⟩:=hFh;refine⟨h.blk,h.c0,h.c1,h.bz,by rw[aeB];exact h.kids,?_,?_,h.lblk,h.hblk,hle,hhe,fJ fun x=> ?_,⟨h.kT.1,hle2,hhe2⟩,h.small.1,by rw[aeB];exact h.small.2.1,hl1,hh1⟩
 · rw[ady,h.lo];rfl
 · rw[ady,h.hi];rfl
 have:=bu h.apart x;simp only[cZ,hFl,hFh,aD,aV]at this⊢;omega
theorem uI{α β:Type}(f:α->β)(l:List α)(i:Nat):(l.map f).eraseIdx i=(l.eraseIdx i).map f:=by
 rw[jf,jf,aev,List.map_take,List.map_drop]
theorem wZ(ks:List aM):∀u∈ks.map aM.ptr,u.oneCell'=true:=fun u hu=>by
 obtain⟨q,_,rfl⟩:=List.mem_map.1 hu
 rfl
theorem Two.inner{es:List (Y3×Y3)}{ks:List aM}{kl kh:aM}{mid:Y3×Y3}(h:Two w d b off j cs T ve vk es ks kl kh ll lh hl hh mid)
   {ql qh:List aM} (hlk:w.ownsRow 0 266 1 kl.vk ql.length (ql.map aM.ptr)) (hhk:w.ownsRow 0 266 1 kh.vk qh.length (qh.map aM.ptr)) (hl0:0<ql.length) (hh0:0<qh.length) (hl1:ql.length<=100) (hh1:qh.length<=100)
   (hFl:kl.F=own kl.ve++own kl.vk++ql.flatMap av) (hFh:kh.F=own kh.ve++own kh.vk++qh.flatMap av):
   J9 w (b::kl.b::kh.b::(own ve++own vk++own kl.ve++own kh.ve)) kl.vk kh.vk (ql.map aM.ptr) (qh.map aM.ptr):=by
 have key:∀x,(b::kl.b::kh.b::(own ve++own vk++own kl.ve++own kh.ve)).count x+(own kl.vk).count x+(own kh.vk).count x<=1:=fun x=>by
  have:=bu h.apart x;simp only[cZ,hFl,hFh,aD,aV]at this⊢;omega
 refine⟨by rw[aeB];exact hlk,by rw[aeB];exact hhk,⟨by rw[aeB];exact hl0,by rw[aeB];exact hh0⟩,⟨by rw[aeB];exact hl1,by rw[aeB];exact hh1⟩,⟨wZ _,wZ _⟩,fun g hg=>⟨fun hx=> ?_,fun hx=> ?_⟩,fun g hg=>⟨fun hx=> ?_,fun hx=> ?_⟩⟩
 all_goals
  have a1:=key g;have a2:=List.count_pos_iff.2 hg;have a3:=List.count_pos_iff.2 hx;omega
theorem Cm{s n:Nat}{v:Y3}{xs:List Y3}(h:w.ownsRow 0 T s v n xs):n<=aaV:=by
 by_cases hn:n=0
 · subst hn;simp[aaV]
 obtain⟨_,_,_,_,_,h1,h2,_⟩:=aA h hn;omega
def Ry:List Y3:=List.replicate (aaV+2) (.bool true)
theorem yZ:Ry.length=aaV+2:=List.length_replicate
theorem jq{α:Type}(l:List α)(h:0<l.length):∃A a,l=A++[a]/\l.eraseIdx (l.length-1)=A/\l[l.length-1]? =Y2 a:=by
 rcases List.eq_nil_or_concat l with h1|⟨A,a,h1⟩
 · subst h1;simp at h
 subst h1;refine⟨A,a,by simp,?_,?_⟩
 · rw[jf];simp
 simp
theorem Two.nd{es:List (Y3×Y3)}{ks:List aM}{kl kh:aM}{mid:Y3×Y3}(h:Two w d b off j cs T ve vk es ks kl kh ll lh hl hh mid):(own ve++(av kl++av kh)).Nodup:=fJ fun x=>by
 have:=bu h.apart x;simp only[aD,aV]at this⊢;omega
theorem OE{es:List (Y3×Y3)}{ks:List aM}{kl kh:aM}{mid:Y3×Y3}(h:Two w d b off j cs T ve vk es ks kl kh 4 6 2 2 mid):
   aaT Zc 270 #[Ym (Y2 ⟨b,off,Y1⟩),Yg Yh j] w fun x w'=>x=Yl (Yn #[])/\∃up kl' kh',tV w w' d j ve es kl kh mid up kl' kh':=by
 have hlt:=h.lt;have hND:=h.nd
 cases d with
 |zero=>
  obtain⟨⟨l1,l2⟩,l3,⟨ka,kc,l4⟩,l5⟩:=h.lnd;obtain⟨⟨h1,h2⟩,h3,h4,h5⟩:=h.hnd;obtain⟨A,a,e1,e2,e3⟩:=jq kl.L (by omega);have P:=h.pair l3 h3 (by omega) (by omega) h.kT.2.1 h.kT.2.2 ⟨[],by simp[l5]⟩ ⟨[],by simp[h5]⟩;refine(qx w b off j cs T ve vk es (ks.map aM.ptr) kl.b kh.b kl.ve kl.vk kh.ve kh.vk kl.L kh.L mid a Ry [] 0 P (.inl ⟨ka,kc,l4⟩) h.mid e3 (by omega)).mono ?_;rintro x w' ⟨rfl,vel',jP,⟨_,R⟩|⟨vkl',lW,R,K⟩⟩
  · rw[e2]at R
    have hA:kl.L.length=A.length+1:=by rw[e1];simp
    exact⟨rfl,a,_,_,vS R l5 h5 ⟨ka,kc,l4⟩ h4 ⟨by omega,by omega⟩ ⟨by simp;omega,by simp;omega⟩ (by rw[e1];simp) hlt⟩
  have h9:=Cm K.lk;rw[jf]at h9;simp[yZ]at h9;omega
 |succ d=>
  obtain⟨el,ql,⟨l1,l2⟩,l3,l4,l5,l6,l7,l8⟩:=h.lnd;obtain⟨eh,qh,⟨h1,h2⟩,h3,h4,h5,h6,h7,h8⟩:=h.hnd
  have hinl:∀e∈el,e∈kl.L:=fun e he=>by rw[l6];exact fM _ _ (by simp;omega) e he
  have hinh:∀e∈eh,e∈kh.L:=fun e he=>by rw[h6];exact fM _ _ (by simp;omega) e he
  obtain⟨A,a,e1,e2,e3⟩:=jq el (by omega);obtain⟨Q,q,g1,g2,g3⟩:=jq ql (by omega);have P:=h.pair l4 h4 (by omega) (by omega) (fun e he=>h.kT.2.1 e (hinl e he)) (fun e he=>h.kT.2.2 e (hinh e he)) ⟨own kl.vk++ql.flatMap av,by rw[l7];simp;rfl⟩ ⟨own kh.vk++qh.flatMap av,by rw[h7];simp;rfl⟩;have I:=h.inner l5 h5 (by omega) (by omega) (by omega) (by omega) l7 h7;refine(qx w b off j cs T ve vk es (ks.map aM.ptr) kl.b kh.b kl.ve kl.vk kh.ve kh.vk el eh mid a (ql.map aM.ptr) (qh.map aM.ptr) q.b P (.inr ⟨I,by rw[aeB,ady,g3];rfl⟩) h.mid e3 (by omega)).mono ?_;rintro x w' ⟨rfl,vel',jP,⟨⟨ka,kc,hz⟩,R⟩|⟨vkl',lW,R,K⟩⟩
  · obtain⟨_,_,hz2⟩:=ai l5;rw[hz]at hz2;injection hz2 with _ hz2;omega
  rw[e2]at R
  have hA:el.length=A.length+1:=by rw[e1];simp
  have hQ:ql.length=Q.length+1:=by rw[g1];simp
  have hK:(ql.map aM.ptr).eraseIdx ((ql.map aM.ptr).length-1)=Q.map aM.ptr:=by rw[aeB,uI,g2]
  rw[hK,show Ym (Y2 ⟨q.b,0,Y1⟩)::qh.map aM.ptr=(q::qh).map aM.ptr from rfl]at K;refine⟨rfl,a,_,_,su (ql:=ql) (qh:=qh) R K l7 h7 (by rw[g1];simp) (fun k hk=> ?_) ⟨by omega,by omega⟩ ⟨by simp;omega,by simp;omega⟩ (by omega) (by simp;omega) ?_ hND hlt⟩
  · rcases List.mem_append.1 hk with hk|hk
    · exact l8 k hk
    exact h8 k hk
  rw[l6,h6,g1,e1];have:=Hl (Q.map aM.L) (qh.map aM.L) q.L A eh a mid (by simp;omega);simpa using this
theorem Og{es:List (Y3×Y3)}{ks:List aM}{kl kh:aM}{mid:Y3×Y3}(h:Two w d b off j cs T ve vk es ks kl kh 2 2 4 6 mid):
   aaT Zc 271 #[Ym (Y2 ⟨b,off,Y1⟩),Yg Yh j] w fun x w'=>x=Yl (Yn #[])/\∃up kl' kh',tV w w' d j ve es kl kh mid up kl' kh':=by
 have hlt:=h.lt;have hND:=h.nd
 cases d with
 |zero=>
  obtain⟨⟨l1,l2⟩,l3,l4,l5⟩:=h.lnd;obtain⟨⟨h1,h2⟩,h3,⟨ka,kc,h4⟩,h5⟩:=h.hnd
  obtain⟨a,A,e1⟩:∃a A,kh.L=a::A:=by
   cases hk:kh.L with
   |nil=>rw[hk]at h1;simp at h1
   |cons a A=>exact⟨a,A,rfl⟩
  have P:=h.pair l3 h3 (by omega) (by omega) h.kT.2.1 h.kT.2.2 ⟨[],by simp[l5]⟩ ⟨[],by simp[h5]⟩;refine(rR w b off j cs T ve vk es (ks.map aM.ptr) kl.b kh.b kl.ve kl.vk kh.ve kh.vk kl.L kh.L mid a Ry [] 0 P (.inl ⟨ka,kc,h4⟩) h.mid (by rw[e1];rfl) (by omega)).mono ?_;rintro x w' ⟨rfl,vel',jP,⟨_,R⟩|⟨vkl',lW,R,K⟩⟩
  · have e2:kh.L.eraseIdx 0=A:=by rw[e1];rfl
    rw[e2]at R
    have hA:kh.L.length=A.length+1:=by rw[e1];simp
    exact⟨rfl,a,_,_,vS R l5 h5 l4 ⟨ka,kc,h4⟩ ⟨by simp;omega,by simp;omega⟩ ⟨by omega,by omega⟩ (by rw[e1];simp) hlt⟩
  have h9:=Cm K.lk;simp[yZ]at h9;omega
 |succ d=>
  obtain⟨el,ql,⟨l1,l2⟩,l3,l4,l5,l6,l7,l8⟩:=h.lnd;obtain⟨eh,qh,⟨h1,h2⟩,h3,h4,h5,h6,h7,h8⟩:=h.hnd
  have hinl:∀e∈el,e∈kl.L:=fun e he=>by rw[l6];exact fM _ _ (by simp;omega) e he
  have hinh:∀e∈eh,e∈kh.L:=fun e he=>by rw[h6];exact fM _ _ (by simp;omega) e he
  obtain⟨a,A,e1⟩:∃a A,eh=a::A:=by
   cases eh with
   |nil=>simp at h1
   |cons a A=>exact⟨a,A,rfl⟩
  obtain⟨q,Q,g1⟩:∃q Q,qh=q::Q:=by
   cases qh with
   |nil=>simp at h3
   |cons a A=>exact⟨a,A,rfl⟩
  have P:=h.pair l4 h4 (by omega) (by omega) (fun e he=>h.kT.2.1 e (hinl e he)) (fun e he=>h.kT.2.2 e (hinh e he)) ⟨own kl.vk++ql.flatMap av,by rw[l7];simp;rfl⟩ ⟨own kh.vk++qh.flatMap av,by rw[h7];simp;rfl⟩;have I:=h.inner l5 h5 (by omega) (by omega) (by omega) (by omega) l7 h7;refine(rR w b off j cs T ve vk es (ks.map aM.ptr) kl.b kh.b kl.ve kl.vk kh.ve kh.vk el eh mid a (ql.map aM.ptr) (qh.map aM.ptr) q.b P (.inr ⟨I,by rw[g1];rfl⟩) h.mid (by rw[e1];rfl) (by omega)).mono ?_;rintro x w' ⟨rfl,vel',jP,⟨⟨ka,kc,hz⟩,R⟩|⟨vkl',lW,R,K⟩⟩
  · obtain⟨_,_,hz2⟩:=ai h5;rw[hz]at hz2;injection hz2 with _ hz2;omega
  have e2:eh.eraseIdx 0=A:=by rw[e1];rfl
  rw[e2]at R
  have hA:eh.length=A.length+1:=by rw[e1];simp
  have hQ:qh.length=Q.length+1:=by rw[g1];simp
  have hK:(qh.map aM.ptr).eraseIdx 0=Q.map aM.ptr:=by rw[g1];rfl
  rw[hK,show ql.map aM.ptr++[Ym (Y2 ⟨q.b,0,Y1⟩)]=(ql++[q]).map aM.ptr by simp[aM.ptr]]at K;refine⟨rfl,a,_,_,su (ql:=ql) (qh:=qh) R K l7 h7 (by rw[g1];simp) (fun k hk=> ?_) ⟨by simp;omega,by simp;omega⟩ ⟨by omega,by omega⟩ (by simp;omega) (by omega) ?_ hND hlt⟩
  · rcases List.mem_append.1 hk with hk|hk
    · exact l8 k hk
    exact h8 k hk
  rw[l6,h6,g1,e1];have:=KU (ql.map aM.L) (Q.map aM.L) q.L el A mid a (by simp;omega);simpa using this
structure Ju(w w':Y4)(d b off j:Nat)(cs:Array Y3)(T:Y5)(ve vk:Y3)(es:List (Y3×Y3))(ks:List aM)(kl kh:aM)(mid:Y3×Y3)(ve' vk':Y3)(kl':aM):Prop where
 gP:ax (b::(own ve++own vk++(av kl++av kh))) w w'
 blk:ae w' b ((cs.setIfInBounds off ve').setIfInBounds (off+1) vk') T
 bz:w'.ownsRow 0 265 2 ve' (es.length-1) (ah (es.eraseIdx j))
 kids:w'.ownsRow 0 266 1 vk' (ks.length-1) ((ks.eraseIdx (j+1)).map aM.ptr)
 low:fG w' d kl'
 bs:kl'.b=kl.b
 list:kl.L++mid::kh.L=kl'.L
 eown:own ve'=own ve/\own vk'=own vk
 cnt:∀x,(av kl').count x<=(av kl).count x+(av kh).count x\/(w.heap.size<=x/\(av kl').count x<=1)
theorem EX(off:Nat)(a b:Y3):(cs.setIfInBounds (off+1) a).setIfInBounds off b=(cs.setIfInBounds off b).setIfInBounds (off+1) a:=by
 apply Array.ext_getElem?;intro i;simp only[Array.getElem?_setIfInBounds,Array.size_setIfInBounds]
 grind
theorem JO{es:List (Y3×Y3)}{ks:List aM}{kl kh:aM}{mid:Y3×Y3}(h:Two w d b off j cs T ve vk es ks kl kh ll lh hl hh mid)(hlo:1<=ll/\1<=hl/\3<=ll+1+hl)(hhi:lh+1+hh<=6):
   aaT Zc 272 #[Ym (Y2 ⟨b,off,Y1⟩),Yg Yh j] w fun x w'=>x=Yl (Yn #[])/\∃ve' vk' kl',Ju w w' d b off j cs T ve vk es ks kl kh mid ve' vk' kl':=by
 have hlt:=h.lt;have hND:=h.apart
 cases d with
 |zero=>
  obtain⟨⟨l1,l2⟩,l3,l4,l5⟩:=h.lnd;obtain⟨⟨h1,h2⟩,h3,h4,h5⟩:=h.hnd;have P:=h.pair l3 h3 (by omega) (by omega) h.kT.2.1 h.kT.2.2 ⟨[],by simp[l5]⟩ ⟨[],by simp[h5]⟩;refine(FM w b off j cs T ve vk es (ks.map aM.ptr) kl.b kh.b kl.ve kl.vk kh.ve kh.vk kl.L kh.L mid Ry [] P (.inl ⟨l4,h4⟩) h.mid (wZ _) (by omega) (by omega)).mono ?_;rintro x w' ⟨rfl,ve',vk',vel',⟨_,R⟩|⟨vkl',R,K,_⟩⟩
  · refine⟨rfl,ve',vk',⟨kl.b,kl.L++mid::kh.L,vel',kl.vk,own vel'⟩,R.gP.more fun x hx=> ?_,by rw[<-EX];exact R.blk,R.bz,?_,⟨R.lblk,⟨by simp;omega,by simp;omega⟩,R.lents,l4,rfl⟩,rfl,rfl,R.eown,fun x=> ?_⟩
    · simp only[cZ,l5,h5,aeQ,YW,afA,or_false]at hx⊢
      grind
    · have:=R.kids;rw[aeB,uI]at this;exact this
    have a1:=dV (x:=x) R.lown;have a4:=cnt_lt (x:=x) hlt;simp only[cZ,l5,h5,aV,aD]at*;omega
  have h9:=Cm K;simp[yZ]at h9;omega
 |succ d=>
  obtain⟨el,ql,⟨l1,l2⟩,l3,l4,l5,l6,l7,l8⟩:=h.lnd;obtain⟨eh,qh,⟨h1,h2⟩,h3,h4,h5,h6,h7,h8⟩:=h.hnd
  have hinl:∀e∈el,e∈kl.L:=fun e he=>by rw[l6];exact fM _ _ (by simp;omega) e he
  have hinh:∀e∈eh,e∈kh.L:=fun e he=>by rw[h6];exact fM _ _ (by simp;omega) e he
  have P:=h.pair l4 h4 (by omega) (by omega) (fun e he=>h.kT.2.1 e (hinl e he)) (fun e he=>h.kT.2.2 e (hinh e he)) ⟨own kl.vk++ql.flatMap av,by rw[l7];simp;rfl⟩ ⟨own kh.vk++qh.flatMap av,by rw[h7];simp;rfl⟩;have I:=h.inner l5 h5 (by omega) (by omega) (by omega) (by omega) l7 h7;refine(FM w b off j cs T ve vk es (ks.map aM.ptr) kl.b kh.b kl.ve kl.vk kh.ve kh.vk el eh mid (ql.map aM.ptr) (qh.map aM.ptr) P (.inr I) h.mid (wZ _) (by omega) (by omega)).mono ?_;rintro x w' ⟨rfl,ve',vk',vel',⟨⟨ka,kc,hz⟩,R⟩|⟨vkl',R,K,hK⟩⟩
  · obtain⟨_,_,hz2⟩:=ai l5;rw[hz]at hz2;injection hz2 with _ hz2;omega
  have l7':kl.F=own kl.ve++own kl.vk++ql.flatMap av:=l7;have h7':kh.F=own kh.ve++own kh.vk++qh.flatMap av:=h7
  have hfar:∀g,g∈ql.flatMap av\/g∈qh.flatMap av->g∉b::kl.b::(own ve++own vk++own kl.ve++own kl.vk):=fun g hg hx=>by
   have c1:=bu hND g;have c2:=List.count_pos_iff.2 hx
   have c3:0<(ql.flatMap av).count g+(qh.flatMap av).count g:=by
    rcases hg with h|h
    · have:=List.count_pos_iff.2 h;omega
    have:=List.count_pos_iff.2 h;omega
   simp only[cZ,l7',h7',aV,aD]at c1 c2
   try simp only[show(fun k:aM=>k.b::k.F)=av from rfl]at*
   omega
  have keep:∀k∈ql++qh,fG w' d k:=fun k hk=>by
   obtain⟨b1,b2⟩:ae w k.b #[k.ve,k.vk] 124/\Nd Tr w d 3 6 k.L k.ve k.vk k.F:=by
    rcases List.mem_append.1 hk with h|h
    · exact l8 k h
    exact h8 k h
   have hin:∀g∈av k,g∈ql.flatMap av\/g∈qh.flatMap av:=fun g hg=>by
    rcases List.mem_append.1 hk with h|h
    · exact .inl (List.mem_flatMap.2 ⟨k,h,hg⟩)
    exact .inr (List.mem_flatMap.2 ⟨k,h,hg⟩)
   exact⟨R.gP.blk b1 (hfar _ (hin _ (by simp[av]))),b2.touch R.gP fun g hg=>hfar g (hin g (by simp[av,hg]))⟩
  refine⟨rfl,ve',vk',⟨kl.b,aF ((ql++qh).map aM.L) (el++mid::eh),vel',vkl',own vel'++own vkl'++(ql++qh).flatMap av⟩,R.gP.more fun x hx=> ?_,by rw[<-EX];exact R.blk,R.bz,?_,⟨R.lblk,el++mid::eh,ql++qh,⟨by simp;omega,by simp;omega⟩,by simp;omega,R.lents,?_,rfl,rfl,keep⟩,rfl,?_,R.eown,fun x=> ?_⟩
  · simp only[cZ,l7',h7',aeQ,YW,afA,or_false]at hx⊢
    grind
  · have:=R.kids;rw[aeB,uI]at this;exact this
  · rw[<-aev,aeB]at K;exact K
  · show kl.L++mid::kh.L=aF ((ql++qh).map aM.L) (el++mid::eh);rw[l6,h6,aev];exact Me _ _ _ _ _ (by simp;omega)
  have a1:=dV (x:=x) R.lown;have b1:=dV (x:=x) hK;have c1:=ug R.lents K (by decide) x;have a4:=cnt_lt (x:=x) hlt;have a5:=tK ql qh x;simp only[cZ,l7',h7',aV,aD]at a4⊢
  try simp only[show(fun k:aM=>k.b::k.F)=av from rfl]at*
  omega
end Bt
namespace Bt
structure GJ(w:Y4)(b off:Nat)(cs:Array Y3)(T:Y5)(ve vk:Y3)(es:List (Y3×Y3))(ks:List aM):Prop where
 blk:ae w b cs T
 c0:cs[off]? =Y2 ve
 c1:cs[off+1]? =Y2 vk
 bz:w.ownsRow 0 265 2 ve es.length (ah es)
 kids:w.ownsRow 0 266 1 vk ks.length (ks.map aM.ptr)
 len:ks.length=es.length+1
 apart:(b::(own ve++own vk++ks.flatMap av)).Nodup
 kT:∀e∈aF (ks.map aM.L) es,wO e
 small:es.length<=90
theorem nY(K1 K2:List aM)(kl kh:aM)(x:Nat):((K1++kl::kh::K2).flatMap av).count x=(K1.flatMap av).count x+((av kl).count x+(av kh).count x)+(K2.flatMap av).count x:=by
 simp only[aeN,YU,aV];omega
theorem mq(K1 K2:List aM)(k:aM)(x:Nat):((K1++k::K2).flatMap av).count x=(K1.flatMap av).count x+(av k).count x+(K2.flatMap av).count x:=by
 simp only[aeN,YU,aV];omega
theorem GJ.two{E1 E2:List (Y3×Y3)}{mid:Y3×Y3}{K1 K2:List aM}{kl kh:aM}(h:GJ w b off cs T ve vk (E1++mid::E2) (K1++kl::kh::K2))(h1:K1.length=E1.length)
   (hl1:ae w kl.b #[kl.ve,kl.vk] 124) (hh1:ae w kh.b #[kh.ve,kh.vk] 124) (hl2:Nd Tr w d ll lh kl.L kl.ve kl.vk kl.F) (hh2:Nd Tr w d hl hh kh.L kh.ve kh.vk kh.F) (hs:lh<=90/\hh<=90):
   Two w d b off E1.length cs T ve vk (E1++mid::E2) (K1++kl::kh::K2) kl kh ll lh hl hh mid:=by
 have hl:=h.len;have hs2:=h.small;obtain⟨s1,s2⟩:=jY ((K1++kl::kh::K2).map aM.L) (E1++mid::E2) (by rw[aeB];exact hl);refine⟨h.blk,h.c0,h.c1,h.bz,h.kids,by simp,by simp[h1],?_,hl1,hh1,hl2,hh2,fJ fun x=> ?_,⟨fun e he=>h.kT e (s1.subset he),fun e he=>h.kT e ((s2 kl.L (by simp)).subset he),fun e he=>h.kT e ((s2 kh.L (by simp)).subset he)⟩,by omega,by omega,hs.1,hs.2⟩
 · rw[aey (by omega),show E1.length+1-K1.length=1 by omega];rfl
 have:=bu h.apart x;simp only[aD,aV,nY]at this⊢;omega
theorem GJ.lt{es:List (Y3×Y3)}{ks:List aM}(h:GJ w b off cs T ve vk es ks)(hk:∀k∈ks,k.b<w.heap.size/\∀g∈k.F,g<w.heap.size):∀g∈own ve++own vk++ks.flatMap av,g<w.heap.size:=by
 intro g hg;rcases List.mem_append.1 hg with hg|hg
 · rcases List.mem_append.1 hg with hg|hg
   · exact aQ h.bz g hg
   exact aQ h.kids g hg
 obtain⟨k,hk1,hk2⟩:=List.mem_flatMap.1 hg;rcases List.mem_cons.1 hk2 with rfl|hk2
 · exact(hk k hk1).1
 exact(hk k hk1).2 g hk2
theorem ET{E1 E2:List (Y3×Y3)}{mid up:Y3×Y3}{K1 K2:List aM}{kl kh kl' kh':aM}(h:GJ w b off cs T ve vk (E1++mid::E2) (K1++kl::kh::K2))(h1:K1.length=E1.length)
   (hoth:∀k∈K1++K2,fG w d k) (hlt:∀g∈own ve++own vk++(K1++kl::kh::K2).flatMap av,g<w.heap.size) (O:tV w w' d E1.length ve (E1++mid::E2) kl kh mid up kl' kh'):
   di w w' (d+1) (E1++mid::E2).length (E1++mid::E2).length b off cs T (aF ((K1++kl::kh::K2).map aM.L) (E1++mid::E2)) ve vk (own ve++own vk++(K1++kl::kh::K2).flatMap av) ve vk (own ve++own vk++(K1++kl'::kh'::K2).flatMap av):=by
 have key:∀g,(if b=g then 1 else 0)+(own ve).count g+(own vk).count g+((K1.flatMap av).count g+((av kl).count g+(av kh).count g)+(K2.flatMap av).count g)<=1:=fun g=>by
  have:=bu h.apart g;simp only[aD,aV,nY]at this;omega
 have far:∀g,(if b=g then 1 else 0)+(own vk).count g+(K1.flatMap av).count g+(K2.flatMap av).count g≠0->g∉own ve++(av kl++av kh):=fun g hg hx=>by
  have a1:=key g;have a2:=List.count_pos_iff.2 hx;simp only[aV]at a2;omega
 have keep:∀k∈K1++K2,fG w' d k:=fun k hk=>by
  obtain⟨b1,b2⟩:=hoth k hk
  have hin:∀g∈av k,g∉own ve++(av kl++av kh):=fun g hg=>by
   refine far g ?_;rcases List.mem_append.1 hk with h|h
   · have:=List.count_pos_iff.2 (List.mem_flatMap.2 ⟨k,h,hg⟩);omega
   have:=List.count_pos_iff.2 (List.mem_flatMap.2 ⟨k,h,hg⟩);omega
  exact⟨O.gP.blk b1 (hin _ (by simp[av])),b2.touch O.gP fun g hg=>hin g (by simp[av,hg])⟩
 have hset:(E1++mid::E2).set E1.length up=E1++up::E2:=by simp
 have hptr:(K1++kl'::kh'::K2).map aM.ptr=(K1++kl::kh::K2).map aM.ptr:=by simp[aM.ptr,O.bs.1,O.bs.2]
 have hlen:=h.len;refine⟨O.gP.more fun x hx=> ?_,?_,⟨E1++up::E2,K1++kl'::kh'::K2,⟨by simp,by simp⟩,by simp at hlen⊢;omega,?_,?_,?_,rfl,fun k hk=> ?_⟩,fun x=> ?_⟩
 · simp only[aeQ,YW,aeN,YU]at hx⊢
   grind
 · rw[iR h.c0,iR h.c1];exact O.gP.blk h.blk (far b (by simp))
 · have:=O.bz;rw[hset]at this
   have e1:(E1++up::E2).length=(E1++mid::E2).length:=by simp
   rw[e1];exact this
 · rw[hptr]
   have e1:(K1++kl'::kh'::K2).length=(K1++kl::kh::K2).length:=by simp
   rw[e1]
   refine af h.kids O.gP fun g hg=>far g ?_
   have:=List.count_pos_iff.2 hg;omega
 · have:=H6 E1 E2 (K1.map aM.L) (K2.map aM.L) kl.L kh.L kl'.L kh'.L mid up (by simp[h1]) O.list;simpa using this.symm
 · rcases List.mem_append.1 hk with hk|hk
   · exact keep k (by simp[hk])
   rcases List.mem_cons.1 hk with rfl|hk
   · exact O.low
   rcases List.mem_cons.1 hk with rfl|hk
   · exact O.high
   exact keep k (by simp[hk])
 have a1:=key x;have a2:=O.cnt x;have a3:=cnt_lt (x:=x) hlt;simp only[aV,nY]at a3⊢;omega
theorem Es{E1 E2:List (Y3×Y3)}{mid:Y3×Y3}{K1 K2:List aM}{kl kh kl':aM}(h:GJ w b off cs T ve vk (E1++mid::E2) (K1++kl::kh::K2))(h1:K1.length=E1.length)
   (hoth:∀k∈K1++K2,fG w d k) (hlt:∀g∈own ve++own vk++(K1++kl::kh::K2).flatMap av,g<w.heap.size) (O:Ju w w' d b off E1.length cs T ve vk (E1++mid::E2) (K1++kl::kh::K2) kl kh mid ve' vk' kl'):
   di w w' (d+1) ((E1++mid::E2).length-1) ((E1++mid::E2).length-1) b off cs T (aF ((K1++kl::kh::K2).map aM.L) (E1++mid::E2)) ve vk (own ve++own vk++(K1++kl::kh::K2).flatMap av) ve' vk' (own ve'++own vk'++(K1++kl'::K2).flatMap av):=by
 have key:∀g,(if b=g then 1 else 0)+(own ve).count g+(own vk).count g+((K1.flatMap av).count g+((av kl).count g+(av kh).count g)+(K2.flatMap av).count g)<=1:=fun g=>by
  have:=bu h.apart g;simp only[aD,aV,nY]at this;omega
 have far:∀g,(K1.flatMap av).count g+(K2.flatMap av).count g≠0->g∉b::(own ve++own vk++(av kl++av kh)):=fun g hg hx=>by
  have a1:=key g;have a2:=List.count_pos_iff.2 hx;simp only[aV,aD]at a2;omega
 have keep:∀k∈K1++K2,fG w' d k:=fun k hk=>by
  obtain⟨b1,b2⟩:=hoth k hk
  have hin:∀g∈av k,g∉b::(own ve++own vk++(av kl++av kh)):=fun g hg=>by
   refine far g ?_;rcases List.mem_append.1 hk with h|h
   · have:=List.count_pos_iff.2 (List.mem_flatMap.2 ⟨k,h,hg⟩);omega
   have:=List.count_pos_iff.2 (List.mem_flatMap.2 ⟨k,h,hg⟩);omega
  exact⟨O.gP.blk b1 (hin _ (by simp[av])),b2.touch O.gP fun g hg=>hin g (by simp[av,hg])⟩
 have WQ:(E1++mid::E2).eraseIdx E1.length=E1++E2:=by rw[jf];simp
 have XT:(K1++kl::kh::K2).eraseIdx (E1.length+1)=K1++kl::K2:=by
  rw[<-h1,List.eraseIdx_append_of_length_le (by omega),show K1.length+1-K1.length=1 by omega]
  rfl
 have hptr:(K1++kl'::K2).map aM.ptr=(K1++kl::K2).map aM.ptr:=by simp[aM.ptr,O.bs]
 have hlen:=h.len;refine⟨O.gP.more fun x hx=> ?_,O.blk,⟨E1++E2,K1++kl'::K2,⟨by simp,by simp⟩,by simp at hlen⊢;omega,?_,?_,?_,rfl,fun k hk=> ?_⟩,fun x=> ?_⟩
 · simp only[aeQ,YW,aeN,YU]at hx⊢
   grind
 · have:=O.bz;rw[WQ]at this
   have e1:(E1++E2).length=(E1++mid::E2).length-1:=by simp
   rw[e1];exact this
 · have:=O.kids;rw[XT,<-hptr]at this
   have e1:(K1++kl'::K2).length=(K1++kl::kh::K2).length-1:=by simp
   rw[e1];exact this
 · have:=lI E1 (K1.map aM.L) kl.L kh.L mid E2 (K2.map aM.L) (by simp[h1]);rw[O.list]at this;simpa using this.symm
 · rcases List.mem_append.1 hk with hk|hk
   · exact keep k (by simp[hk])
   rcases List.mem_cons.1 hk with rfl|hk
   · exact O.low
   exact keep k (by simp[hk])
 have a1:=key x;have a2:=O.cnt x;have a3:=cnt_lt (x:=x) hlt;have a4:=mq K1 K2 kl' x;rw[O.eown.1,O.eown.2];simp only[aV,nY]at a3⊢;omega
def mR(v:Y3):Nat:=match v with
 |Yp _ n _=>n
 |_=>0
theorem Nd.sized{T:Ty}{L:List (Y3×Y3)}(h:Nd T w d lo hi L ve vk F):lo<=mR ve/\mR ve<=hi/\Nd T w d (mR ve) (mR ve) L ve vk F/\∃ao cp,ve=Yp ao (mR ve) cp:=by
 obtain⟨m,h1,h2,h3,ao,cp,rfl⟩:=h.exact;exact⟨h1,h2,h3,ao,cp,rfl⟩
theorem di.wide{lo' hi':Nat}{L:List (Y3×Y3)}(h:di w w' d lo hi b off cs T L ve vk F ve' vk' F')(h1:lo'<=lo)(h2:hi<=hi'):di w w' d lo' hi' b off cs T L ve vk F ve' vk' F':=
 ⟨h.gP,h.blk,h.nd.wide h1 h2,h.cnt⟩
theorem zq(w:Y4)(d b off:Nat)(cs:Array Y3)(T:Y5)(ve vk:Y3)(EA EB:List (Y3×Y3))(A B:List aM)(k:aM)(h:GJ w b off cs T ve vk (EA++EB) (A++k::B))(hA:A.length=EA.length)(hpos:0<(EA++EB).length)
   (hkB:ae w k.b #[k.ve,k.vk] 124) (hkN:Nd Tr w d 2 6 k.L k.ve k.vk k.F) (hoth:∀q∈A++B,fG w d q):
   aaT Zc 210 #[Ym (Y2 ⟨b,off,Y1⟩),Yg Yh A.length] w fun x w'=>x=Yl (Yn #[])/\∃ve' vk' F',di w w' (d+1) ((EA++EB).length-1) (EA++EB).length b off cs T (aF ((A++k::B).map aM.L) (EA++EB)) ve vk (own ve++own vk++(A++k::B).flatMap av) ve' vk' F':=by
 have hlen:=h.len;have hsm:=h.small
 have hBl:B.length=EB.length:=by simp at hlen;omega
 have hall:∀q∈A++k::B,ae w q.b #[q.ve,q.vk] 124/\Nd Tr w d 2 6 q.L q.ve q.vk q.F:=fun q hq=>by
  rcases List.mem_append.1 hq with hq|hq
  · exact⟨(hoth q (by simp[hq])).1,(hoth q (by simp[hq])).2.wide (by omega) (by omega)⟩
  rcases List.mem_cons.1 hq with rfl|hq
  · exact⟨hkB,hkN⟩
  exact⟨(hoth q (by simp[hq])).1,(hoth q (by simp[hq])).2.wide (by omega) (by omega)⟩
 have hlt:=h.lt (fun q hq=>⟨(hall q hq).1.lt,(hall q hq).2.lt⟩);obtain⟨gk,ck,rV,hvk,hgk,Qx,RG,QD,R8⟩:=aA h.kids (by simp);have Am:gk<w.heap.size:=(geA.1 hgk).1
 have c1:w.cell? ⟨b,off+1,Y1⟩=Y2 (Yp (Y2 ⟨gk,0,Y1⟩) (A++k::B).length ck):=by rw[<-hvk];exact(h.blk.cell (off+1)).trans h.c1
 have hptr:∀(j:Nat) (q:aM),(A++k::B)[j]? =Y2 q->w.cell? ⟨gk,j,Y1⟩=Y2 (Ym (Y2 ⟨q.b,0,Y1⟩)):=fun j q hq=>by
  have hk2:=h.kids;rw[hvk]at hk2;have:=hk2.cells (g:=gk) rfl j (Ym (Y2 ⟨q.b,0,Y1⟩)) (by rw[ady,hq];rfl);simpa only[Zn,Ze]using this
 have short:∀(j m:Nat) (q:aM),(A++k::B)[j]? =Y2 q->aaT Zc 269 #[Ym (Y2 ⟨b,off,Y1⟩),Yg Yh j,Yg Yh m] w fun x w'=>x=Yl (.bool (decide (mR q.ve<m)))/\w'=w:=fun j m q hq=>by
  obtain⟨q1,q2⟩:=hall q (afx hq);obtain⟨_,_,_,ao,cp,hv⟩:=q2.sized;exact Fu b off j m gk (A++k::B).length ck q.b (mR q.ve) cp ao w h.blk.lt Am q1.lt (List.getElem?_eq_some_iff.1 hq).1 c1 (hptr j q hq) (by rw[<-hv];exact q1.cell 0)
 have hk0:(A++k::B)[A.length]? =Y2 k:=by simp
 obtain⟨k1,k2,k3,_⟩:=hkN.sized;refine K8 b off A.length (A++k::B).length gk ck w _ (decide (mR k.ve<3)) (decide (mR ((A[A.length-1]?.map aM.ve).getD (.bool false))<4)) (decide (mR ((B[0]?.map aM.ve).getD (.bool false))<4)) h.blk.lt (by simp) (by omega) c1 (short A.length 3 k hk0) ?_ ?_ ?_ ?_ ?_ ?_ ?_
 · intro m hm
   have hm2:m<A.length:=by omega
   have:=short m 4 A[m] (by rw[List.getElem?_append_left hm2];simp);rw[show A.length-1=m by omega,YP hm2];exact this
 · intro m hm hm2
   have hm3:0<B.length:=by simp at hm2;omega
   have:=short m 4 B[0] (by rw[aey (by omega),show m-A.length=1 by omega];simp[hm3]);rw[YP hm3];exact this
 · intro hs
   have hs1:¬mR k.ve<3:=by simpa using hs
   refine⟨ve,vk,_,ax.refl _ _,by rw[iR h.c0,iR h.c1];exact h.blk,⟨EA++EB,A++k::B,⟨by omega,nlr _⟩,h.len,h.bz,h.kids,rfl,rfl,fun q hq=> ?_⟩,fun x=> .inl (nlr _)⟩;rcases List.mem_append.1 hq with hq|hq
   · exact hoth q (by simp[hq])
   rcases List.mem_cons.1 hq with rfl|hq
   · exact⟨hkB,k3.wide (by omega) k2⟩
   exact hoth q (by simp[hq])
 · intro m hm hs hs1
   have hs2:mR k.ve<3:=by simpa using hs
   obtain⟨A',kl,rfl,_,g3⟩:=jq A (by omega);obtain⟨EA',mid,rfl,_,_⟩:=jq EA (by omega);rw[g3]at hs1
   have hs3:¬mR kl.ve<4:=by simpa using hs1
   have hA2:A'.length=EA'.length:=by simpa using hA
   obtain rfl:m=EA'.length:=by simp at hm;omega
   have e1:A'++[kl]++k::B=A'++kl::k::B:=by simp
   have e2:EA'++[mid]++EB=EA'++mid::EB:=by simp
   rw[e1,e2]at h;rw[e1]at hlt;rw[e1,e2];obtain⟨kl1,kl2⟩:=hoth kl (by simp);obtain⟨z1,z2,z3,_⟩:=kl2.sized
   have xH:∀q∈A'++B,fG w d q:=fun q hq=>hoth q (by simp at hq⊢;rcases hq with h|h<;>simp[h])
   refine(OE (h.two hA2 kl1 hkB (z3.lax (lo':=4) (hi':=6) (by omega) (by omega)) (k3.lax (lo':=2) (hi':=2) (by omega) (by omega)) (by omega))).mono ?_;rintro x w' ⟨rfl,up,kl',kh',O⟩;exact⟨rfl,_,_,_,(ET h hA2 xH hlt O).wide (by omega) (by omega)⟩
 · intro _ hm hs hs1
   have hs2:mR k.ve<3:=by simpa using hs
   have hm3:0<B.length:=by simp at hm;omega
   obtain⟨kh,B',rfl⟩:∃kh B',B=kh::B':=by
    cases B with
    |nil=>simp at hm3
    |cons a r=>exact⟨a,r,rfl⟩
   obtain⟨mid,EB',rfl⟩:∃mid EB',EB=mid::EB':=by
    cases EB with
    |nil=>simp at hBl
    |cons a r=>exact⟨a,r,rfl⟩
   have hs3:¬mR kh.ve<4:=by simpa using hs1
   obtain⟨kl1,kl2⟩:=hoth kh (by simp);obtain⟨z1,z2,z3,_⟩:=kl2.sized
   have xH:∀q∈A++B',fG w d q:=fun q hq=>hoth q (by simp at hq⊢;rcases hq with h|h<;>simp[h])
   rw[show((A.length:Nat):Int)=(EA.length:Nat) by rw[hA]];refine(Og (h.two hA hkB kl1 (k3.lax (lo':=2) (hi':=2) (by omega) (by omega)) (z3.lax (lo':=4) (hi':=6) (by omega) (by omega)) (by omega))).mono ?_;rintro x w' ⟨rfl,up,kl',kh',O⟩;exact⟨rfl,_,_,_,(ET h hA xH hlt O).wide (by omega) (by omega)⟩
 · intro m hm hs hs1
   have hs2:mR k.ve<3:=by simpa using hs
   obtain⟨A',kl,rfl,_,g3⟩:=jq A (by omega);obtain⟨EA',mid,rfl,_,_⟩:=jq EA (by omega);rw[g3]at hs1
   have hs3:mR kl.ve<4:=by simpa using hs1
   have hA2:A'.length=EA'.length:=by simpa using hA
   obtain rfl:m=EA'.length:=by simp at hm;omega
   have e1:A'++[kl]++k::B=A'++kl::k::B:=by simp
   have e2:EA'++[mid]++EB=EA'++mid::EB:=by simp
   rw[e1,e2]at h;rw[e1]at hlt;rw[e1,e2];obtain⟨kl1,kl2⟩:=hoth kl (by simp);obtain⟨z1,z2,z3,_⟩:=kl2.sized
   have xH:∀q∈A'++B,fG w d q:=fun q hq=>hoth q (by simp at hq⊢;rcases hq with h|h<;>simp[h])
   refine(JO (h.two hA2 kl1 hkB (z3.lax (lo':=3) (hi':=3) (by omega) (by omega)) (k3.lax (lo':=2) (hi':=2) (by omega) (by omega)) (by omega)) (by omega) (by omega)).mono ?_;rintro x w' ⟨rfl,ve',vk',kl',O⟩;exact⟨rfl,_,_,_,(Es h hA2 xH hlt O).wide (by omega) (by omega)⟩
 intro hi0 hs hs1
 have hs2:mR k.ve<3:=by simpa using hs
 have hm3:0<B.length:=by simp at hpos;omega
 have hs1:=hs1 (by simp;omega)
 obtain⟨kh,B',rfl⟩:∃kh B',B=kh::B':=by
  cases B with
  |nil=>simp at hm3
  |cons a r=>exact⟨a,r,rfl⟩
 obtain⟨mid,EB',rfl⟩:∃mid EB',EB=mid::EB':=by
  cases EB with
  |nil=>simp at hBl
  |cons a r=>exact⟨a,r,rfl⟩
 have hs3:mR kh.ve<4:=by simpa using hs1
 obtain⟨kl1,kl2⟩:=hoth kh (by simp);obtain⟨z1,z2,z3,_⟩:=kl2.sized
 have xH:∀q∈A++B',fG w d q:=fun q hq=>hoth q (by simp at hq⊢;rcases hq with h|h<;>simp[h])
 rw[show((A.length:Nat):Int)=(EA.length:Nat) by rw[hA]];refine(JO (h.two hA hkB kl1 (k3.lax (lo':=2) (hi':=2) (by omega) (by omega)) (z3.lax (lo':=3) (hi':=3) (by omega) (by omega)) (by omega)) (by omega) (by omega)).mono ?_;rintro x w' ⟨rfl,ve',vk',kl',O⟩;exact⟨rfl,_,_,_,(Es h hA xH hlt O).wide (by omega) (by omega)⟩
end Bt
namespace Bt
theorem di.comp{W:Y4}{L:List (Y3×Y3)}{ve0 vk0:Y3}{F3:List Nat}(h:di W w' d lo hi b off cs T L ve vk F3 ve' vk' F')(ht:ax (b::F) w W)(hc:∀x,F3.count x<=F.count x\/(w.heap.size<=x/\F3.count x<=1)):di w w' d lo hi b off cs T L ve0 vk0 F ve' vk' F':=by
 refine⟨ht.trans h.gP fun x hx=> ?_,h.blk,h.nd,fun x=> ?_⟩
 · rcases List.mem_cons.1 hx with rfl|hx
   · exact .inl (by simp)
   have a1:=List.count_pos_iff.2 hx;rcases hc x with h1|h1
   · exact .inl (by simp[List.count_pos_iff.1 (show 0<F.count x by omega)])
   exact .inr h1.1
 have a1:=ht.size;have a2:=h.cnt x;have a3:=hc x;omega
theorem di.put{L:List (Y3×Y3)}(h:di w w' d lo hi b off cs T L ve vk F ve' vk' F')(p:Addr)(v:Y3)(h1:w.heap.size<=p.block)(h2:p.block≠b)(h3:p.block∉F'):di w (w'.setCell p v) d lo hi b off cs T L ve vk F ve' vk' F':=by
 refine⟨h.gP.set p v (.inr h1),?_,h.nd.keep fun k hk=>Zb _ _ _ _ (fun e=>h3 (by rw[<-e];exact hk)),h.cnt⟩;exact((ax.refl [p.block] w').set p v (.inl (by simp))).blk h.blk (by simp;exact fun e=>h2 e.symm)
theorem Nd.some{T:Ty}{L:List (Y3×Y3)}(h:Nd T w d lo hi L ve vk F)(h1:1<=lo):0<L.length:=by
 cases d with
 |zero=>have:=h.1.1;omega
 |succ d=>
  obtain⟨es,ks,h3,h4,_,_,rfl,_⟩:=h;have:=(jY (ks.map aM.L) es (by simpa using h4)).1.length_le;omega
theorem GJ.kid{W W2:Y4}{es:List (Y3×Y3)}{A B:List aM}{k:aM}{L':List (Y3×Y3)}{kve kvk:Y3}{kF:List Nat}(h:GJ w b off cs T ve vk es (A++k::B))(hk:∀q∈A++k::B,fG w d q)(hW:aaS w.heap.size w W)(po:di W W2 d lo 6 k.b 0 #[k.ve,k.vk] 124 L' k.ve k.vk k.F kve kvk kF)(hsub:∀e∈L',e∈k.L)(hA:A.length<=es.length):
   GJ W2 b off cs T ve vk es (A++⟨k.b,L',kve,kvk,kF⟩::B)/\ae W2 k.b #[kve,kvk] 124/\(∀q∈A++B,fG W2 d q)/\ax (k.b::k.F) w W2/\
   ∀x,(own ve++own vk++(A++⟨k.b,L',kve,kvk,kF⟩::B).flatMap av).count x<=(own ve++own vk++(A++k::B).flatMap av).count x\/(W.heap.size<=x/\(own ve++own vk++(A++⟨k.b,L',kve,kvk,kF⟩::B).flatMap av).count x<=1):=by
 have hlt:=h.lt (fun q hq=>⟨(hk q hq).1.lt,(hk q hq).2.lt⟩);have T2:ax (k.b::k.F) w W2:=(ax.of (F:=k.b::k.F) hW).trans po.gP (fun x hx=> .inl hx);have hs:=hW.size
 have key:∀g,(if b=g then 1 else 0)+(own ve).count g+(own vk).count g+((A.flatMap av).count g+(av k).count g+(B.flatMap av).count g)<=1:=fun g=>by
  have:=bu h.apart g;simp only[aD,aV,mq]at this;omega
 have far:∀g,(if b=g then 1 else 0)+(own ve).count g+(own vk).count g+(A.flatMap av).count g+(B.flatMap av).count g≠0->g∉k.b::k.F:=fun g hg hx=>by
  have a1:=key g;have a2:=List.count_pos_iff.2 hx;rw[<-cZ]at a2;omega
 have hcnt:∀x,(own ve++own vk++(A++(⟨k.b,L',kve,kvk,kF⟩:aM)::B).flatMap av).count x<=(own ve++own vk++(A++k::B).flatMap av).count x\/(W.heap.size<=x/\(own ve++own vk++(A++(⟨k.b,L',kve,kvk,kF⟩:aM)::B).flatMap av).count x<=1):=fun x=>by
  have a1:=po.cnt x;have a2:=cnt_lt (x:=x) hlt;simp only[aV,mq]at a2⊢;simp only[cZ,aD]at a2⊢
  try simp only[show(fun k:aM=>k.b::k.F)=av from rfl]at*
  omega
 refine⟨⟨T2.blk h.blk (far b (by simp)),h.c0,h.c1,af h.bz T2 fun g hg=>far g ?_,?_,?_,fJ fun x=> ?_,?_,h.small⟩,by simpa using po.blk,?_,T2,hcnt⟩
 · have:=List.count_pos_iff.2 hg;omega
 · have e1:(A++(⟨k.b,L',kve,kvk,kF⟩:aM)::B).length=(A++k::B).length:=by simp
   have e2:(A++(⟨k.b,L',kve,kvk,kF⟩:aM)::B).map aM.ptr=(A++k::B).map aM.ptr:=by simp[aM.ptr]
   rw[e1,e2]
   refine af h.kids T2 fun g hg=>far g ?_
   have:=List.count_pos_iff.2 hg;omega
 · have:=h.len;simp at this⊢;omega
 · have a1:=hcnt x;have a2:=bu h.apart x;have a3:=h.blk.lt;simp only[aD]at a2⊢;have i1:=jl b x;omega
 · intro e he;have hl:=h.len
   have hl2:A.length+1+B.length=es.length+1:=by simp at hl;omega
   obtain⟨p,s,hps⟩:=BD (es.take A.length) (A.map aM.L) (es.drop A.length) (B.map aM.L) (by simp;omega) (by simp;omega);have h1:=hps L';have h2:=hps k.L;rw[aej]at h1 h2;simp only[aev,YZ]at he;rw[h1]at he;refine h.kT e ?_;simp only[aev,YZ];rw[h2];simp only[YW]at he⊢;rcases he with(he|he)|he
   · exact .inl (.inl he)
   · exact .inl (.inr (hsub e he))
   exact .inr he
 intro q hq;obtain⟨b1,b2⟩:=hk q (by simp at hq⊢;rcases hq with h|h<;>simp[h])
 have hin:∀g∈av q,g∉k.b::k.F:=fun g hg=>by
  refine far g ?_;rcases List.mem_append.1 hq with h|h
  · have:=List.count_pos_iff.2 (List.mem_flatMap.2 ⟨q,h,hg⟩);omega
  have:=List.count_pos_iff.2 (List.mem_flatMap.2 ⟨q,h,hg⟩);omega
 exact⟨T2.blk b1 (hin _ (by simp[av])),b2.touch T2 fun g hg=>hin g (by simp[av,hg])⟩
theorem GJ.alloc{es:List (Y3×Y3)}{ks:List aM}(h:GJ w b off cs T ve vk es ks)(o:Obj):GJ (w.alloc o) b off cs T ve vk es ks:=
 ⟨h.blk.alloc o,h.c0,h.c1,h.bz.alloc o,h.kids.alloc o,h.len,h.apart,h.kT,h.small⟩
theorem fG.alloc{k:aM}(h:fG w d k)(o:Obj):fG (w.alloc o) d k:=
 ⟨h.1.alloc o,h.2.touch ((ax.refl [] w).alloc o) (fun _ _=>by simp)⟩
def CB(d:Nat):Prop:=∀(lo hi:Nat) (L0:List (Y3×Y3)) (last:Y3×Y3) (b off:Nat) (cs:Array Y3) (T:Y5) (ve vk:Y3) (F:List Nat) (w:Y4),1<=lo->hi<=6->ae w b cs T->cs[off]? =Y2 ve->cs[off+1]? =Y2 vk->Nd Tr w d lo hi (L0++[last]) ve vk F->(∀e∈L0++[last],wO e)->(b::F).Nodup->
   aaT Zc 209 #[Ym (Y2 ⟨b,off,Y1⟩)] w fun x w'=>x=Yl (Yj #[last.1,last.2])/\∃ve' vk' F',di w w' d (lo-1) hi b off cs T L0 ve vk F ve' vk' F'
theorem Mr:CB 0:=by
 intro lo hi L0 last b off cs T ve vk F w h1 h2 hB c0 c1 hN hent hnd;obtain⟨⟨n1,n2⟩,hown,⟨ka,kc,rfl⟩,rfl⟩:=hN;refine(wJ b off ve ka kc (L0++[last]) last cs T w (by omega) hB c0 c1 hown (by simp) hent (List.nodup_cons.1 hnd).1).mono ?_;rintro x w' ⟨rfl,ve',e1,e2,e3,e4⟩;refine⟨rfl,ve',Yp ka 0 kc,own ve',e2,?_,⟨⟨by simp at n1;omega,by simp at n2;omega⟩,?_,⟨_,_,rfl⟩,rfl⟩,fun x=> .inl (by rw[e1];exact nlr _)⟩
 · rw[iR (i:=off+1)]
   · exact e3
   rw[afs (by omega)];exact c1
 rw[jf]at e4;simp at e4;exact e4
theorem G7(d:Nat)(ih:CB d):CB (d+1):=by
 intro lo hi L0 last b off cs T ve vk F w h1 h2 hB c0 c1 hN hent hnd;obtain⟨es,ks,⟨hl1,hl2⟩,hkl,hown,kI,hL,rfl,hkids⟩:=hN;obtain⟨ks0,k,rfl,_,_⟩:=jq ks (by omega)
 have hk0:ks0.length=es.length:=by simpa using hkl
 obtain⟨hkB,hkN⟩:=hkids k (by simp);obtain⟨kL0,klast,hkL,_,_⟩:=jq k.L (hkN.some (by omega));have hw:=mZ es (ks0.map aM.L) kL0 [klast] (by simp[hk0]);have hL2:L0++[last]=aF ((ks0++[k]).map aM.L) es:=hL;rw[aev,YZ,List.map_nil,hkL,hw]at hL2;obtain⟨hL3,hL4⟩:=List.append_inj' hL2 rfl;injection hL4 with hL4;subst hL4;have hND:GJ w b off cs T ve vk es (ks0++k::[]):=⟨hB,c0,c1,hown,kI,hkl,hnd,by rw[<-hL];exact hent,by omega⟩;obtain⟨z,ra,rn,rc,hz⟩:=hent last (by simp);subst hz;obtain⟨gk,ck,rV,hvk,hgk,Qx,RG,QD,R8⟩:=aA kI (by omega);have Am:gk<w.heap.size:=(geA.1 hgk).1
 have q1:w.cell? ⟨b,off+1,Y1⟩=Y2 (Yp (Y2 ⟨gk,0,Y1⟩) (ks0++[k]).length ck):=by rw[<-hvk];exact(hB.cell (off+1)).trans c1
 have q0:w.cell? ⟨gk,ks0.length,Y1⟩=Y2 (Ym (Y2 ⟨k.b,0,Y1⟩)):=by
  have hk2:=kI;rw[hvk]at hk2;have:=hk2.cells (g:=gk) rfl ks0.length (Ym (Y2 ⟨k.b,0,Y1⟩)) (by simp[aM.ptr]);simpa only[Zn,Ze]using this
 have hlt:=hND.lt (fun q hq=>⟨(hkids q hq).1.lt,(hkids q hq).2.lt⟩)
 have wY:(k.b::k.F).Nodup:=fJ fun x=>by
  have:=bu hND.apart x;simp only[aD,aV,mq,cZ]at this⊢;omega
 have Vv:∀g∈k.b::k.F,g<w.heap.size:=fun g hg=>hlt g (by
  refine aec _ (List.mem_flatMap.2 ⟨k,by simp,hg⟩))
 have hA0:aaS w.heap.size w (w.alloc (Yk #[Yg Yh 0,Yp Y1 0 0] 265)):=by go_grown
 have hsA:(w.alloc (Yk #[Yg Yh 0,Yp Y1 0 0] 265)).heap.size=w.heap.size+1:=ZC _ _;have hbl:=hB.lt;refine wP b off (ks0++[k]).length gk ck k.b ks0.length z ra rn rc w (fun w1=>∃kve kvk kF,di (w.alloc (Yk #[Yg Yh 0,Yp Y1 0 0] 265)) w1 d 2 6 k.b 0 #[k.ve,k.vk] 124 kL0 k.ve k.vk k.F kve kvk kF) _ hbl Am (by simp) (by omega) q1 q0 ((ih 3 6 kL0 (Yg Yh z,Yp ra rn rc) k.b 0 #[k.ve,k.vk] 124 k.ve k.vk k.F _ (by omega) (by omega) (hkB.alloc _) rfl rfl (by rw[<-hkL];exact hkN.below hA0) ?_ wY).mono ?_) ?_
 · intro e he;rw[<-hkL]at he;exact hND.kT e ((jY ((ks0++[k]).map aM.L) es (by simpa using hkl)).2 k.L (by simp)|>.subset he)
 · rintro x w1 ⟨rfl,kve,kvk,kF,po⟩;refine⟨rfl,⟨kve,kvk,kF,po⟩,po.gP.blk (ae.new w _ _) fun hx=> ?_⟩;have:=Vv _ hx;omega
 rintro w1 ⟨kve,kvk,kF,po⟩;obtain⟨N1,kB1,oth1,T1,cnt1⟩:=hND.kid hkids hA0 po (fun e he=>by rw[hkL];simp[he]) (by omega);have hs1:=T1.size;have hs2:=po.gP.size
 have lt1:=N1.lt (fun q hq=>by
  rcases List.mem_append.1 hq with hq|hq
  · exact⟨(oth1 q (by simp[hq])).1.lt,(oth1 q (by simp[hq])).2.lt⟩
  simp at hq;subst hq;exact⟨kB1.lt,po.nd.lt⟩)
 have hw0:w.heap.size∉own ve++own vk++(ks0++[(⟨k.b,kL0,kve,kvk,kF⟩:aM)]).flatMap av:=fun hx=>by
  have a1:=List.count_pos_iff.2 hx;have a2:=cnt1 w.heap.size;have a3:=cnt_lt (x:=w.heap.size) hlt;omega
 generalize hV:w1.alloc (Yk #[Yg Yh z,Yp ra rn rc] 265)=V
 have hsV:V.heap.size=w1.heap.size+1:=by rw[<-hV];exact ZC _ _
 have hMM:=zq V d b off cs T ve vk es [] ks0 [] ⟨k.b,kL0,kve,kvk,kF⟩ (by rw[aaK,<-hV];exact N1.alloc _) hk0 (by simp;omega) (by rw[<-hV];exact kB1.alloc _) (by rw[<-hV];exact po.nd.touch ((ax.refl [] w1).alloc _) (fun _ _=>by simp)) (fun q hq=>by rw[<-hV];exact(oth1 q hq).alloc _);rw[aaK]at hMM;refine hMM.mono ?_;rintro x w2 ⟨rfl,ve',vk',F',mo⟩
 have hbV:ae V w1.heap.size #[Yg Yh z,Yp ra rn rc] 265:=by rw[<-hV];exact ae.new w1 _ _
 have UR:w.heap.size∉F':=fun hx=>by
  have a1:=List.count_pos_iff.2 hx;have a2:=mo.cnt w.heap.size;have a3:=List.count_eq_zero.2 hw0;omega
 refine⟨rfl,?_,?_,ve',vk',F',?_⟩
 · rw[mo.gP.block w.heap.size (by omega) (fun hx=> ?_),<-hV]
   · have:=((ax.refl [] w1).alloc (Yk #[Yg Yh z,Yp ra rn rc] 265)).block w.heap.size (by omega) (by simp);exact this
   rcases List.mem_cons.1 hx with h|h
   · omega
   exact hw0 h
 · refine mo.gP.blk hbV fun hx=> ?_
   rcases List.mem_cons.1 hx with h|h
   · omega
   have:=lt1 _ h;omega
 have hcomp:di w w2 (d+1) (es.length-1) es.length b off cs T L0 ve vk (own ve++own vk++(ks0++[k]).flatMap av) ve' vk' F':=by
  rw[hL3]
  have e9:aF ((ks0++[(⟨k.b,kL0,kve,kvk,kF⟩:aM)]).map aM.L) es=aF (ks0.map aM.L++[kL0]) es:=by simp
  rw[e9]at mo
  refine mo.comp ?_ fun x=> ?_
  · have T3:ax (b::(own ve++own vk++(ks0++[k]).flatMap av)) w w1:=T1.more fun x hx=>by
     refine agj _ (aec _ (List.mem_flatMap.2 ⟨k,by simp,hx⟩))
    rw[<-hV];exact T3.alloc _
  have:=cnt1 x;omega
 refine((hcomp.wide (lo':=lo-1) (hi':=hi) (by omega) (by omega)).put ⟨w.heap.size,0,Y1⟩ _ (nlr _) ?_ UR).put ⟨w.heap.size,1,Y1⟩ _ (nlr _) ?_ UR
 · show w.heap.size≠b;omega
 show w.heap.size≠b;omega
theorem FH:∀d,CB d
 |0=>Mr
 |d+1=>G7 d (FH d)
end Bt
namespace Bt
def keyOf(e:Y3×Y3):Int:=match e.1 with
 |.int _ z=>z
 |_=>0
def qZ(L:List (Y3×Y3)):Prop:=L.Pairwise fun a b=>keyOf a<keyOf b
theorem Ord.key{L:List (Y3×Y3)}(h:Ord L):qZ L:=h.imp fun{a b} hab=>by
 obtain⟨y,z,h1,h2,h3⟩:=hab;simp[keyOf,h1,h2,h3]
theorem qZ.pos:∀{X Y X' Y':List (Y3×Y3)} {e e':Y3×Y3},qZ (X++e::Y)->X++e::Y=X'++e'::Y'->keyOf e=keyOf e'->X=X'/\e=e'/\Y=Y'
 |[],Y,[],Y',e,e',h,he,hk=>by
  injection he with h1 h2;exact⟨rfl,h1,h2⟩
 |[],Y,x::X',Y',e,e',h,he,hk=>by
  injection he with h1 h2;have:=aeT h (show e'∈Y by rw[h2];simp);omega
 |x::X,Y,[],Y',e,e',h,he,hk=>by
  injection he with h1 h2;have:=aeT h (show e∈X++e::Y by simp);rw[h1]at this;omega
 |x::X,Y,x'::X',Y',e,e',h,he,hk=>by
  injection he with h1 h2;obtain⟨a,b,c⟩:=qZ.pos (X:=X) (Y:=Y) (X':=X') (Y':=Y') h.of_cons h2 hk;exact⟨by rw[h1,a],b,c⟩
def ahead{α:Type}:List (List α)->List α->List α
 |l::ls,e::es=>l++e::ahead ls es
 |_,_=>[]
def behind{α:Type}:List (List α)->List α->List α
 |ls,e::es=>e::aF ls es
 |_,[]=>[]
theorem EW{α:Type}:∀(es1:List α) (ls1:List (List α)) (es2:List α) (ls2:List (List α)) (l:List α),ls1.length=es1.length->aF (ls1++l::ls2) (es1++es2)=ahead ls1 es1++l++behind ls2 es2
 |[],[],[],ls2,l,_=>by simp[aF,ahead,behind]
 |[],[],e::es2,ls2,l,_=>by simp[aF,ahead,behind]
 |[],_::_,_,_,_,h=>by simp at h
 |a::es1,[],_,_,_,h=>by simp at h
 |a::es1,l0::ls1,es2,ls2,l,h=>by
  have:=EW es1 ls1 es2 ls2 l (by simpa using h);simp[aF,ahead,this]
theorem xQ{α:Type}:∀(es:List α) (ls:List (List α)),ls.length=es.length->(∃e0 p,e0∈es/\ahead ls es=p++[e0])\/ahead ls es=[]
 |[],[],_=> .inr rfl
 |[],_::_,h=>by simp at h
 |a::es,[],h=>by simp at h
 |a::es,l::ls,h=>by
  left
  rcases xQ es ls (by simpa using h)with⟨e0,p,h1,h2⟩|h2
  · exact⟨e0,l++a::p,by simp[h1],by simp[ahead,h2]⟩
  exact⟨a,l,by simp,by simp[ahead,h2]⟩
theorem QG{X Y:List (Y3×Y3)}(h:qZ (X++Y)):∀a∈X,∀b∈Y,keyOf a<keyOf b:=(List.pairwise_append.1 h).2.2
theorem KQ{es:List (Y3×Y3)}(h:∀e∈es,wO e):es=bz (es.map fun e=>(keyOf e,e.2)):=by
 unfold bz;rw[List.map_map]
 conv=>lhs;rw[<-List.map_id es]
 refine List.map_congr_left fun e he=> ?_
 obtain⟨z,ra,rn,rc,rfl⟩:=h e he
 rfl
theorem AR{es:List (Y3×Y3)}(h:qZ es):FY (es.map fun e=>(keyOf e,e.2)):=List.pairwise_map.2 h
theorem La{es:List (Y3×Y3)}(h:∀e∈es,wO e):Rows (es.map fun e=>(keyOf e,e.2)):=fun x hx=>by
 obtain⟨e,he,rfl⟩:=List.mem_map.1 hx;obtain⟨z,ra,rn,rc,rfl⟩:=h e he;exact⟨_,_,_,rfl⟩
theorem EU(es:List (Y3×Y3))(z:Int)(ho:qZ es):∃EA EB,es=EA++EB/\EA.length=cnt (es.map fun e=>(keyOf e,e.2)) z/\(∀e∈EA,keyOf e<z)/\
   ((has (es.map fun e=>(keyOf e,e.2)) z=true/\∃e EB',EB=e::EB'/\keyOf e=z)\/(has (es.map fun e=>(keyOf e,e.2)) z=false/\∀e∈EB,z<keyOf e)):=by
 obtain⟨p1,p2⟩:=(AR ho).parts z
 have hc:cnt (es.map fun e=>(keyOf e,e.2)) z<=es.length:=by have:=jI (es.map fun e=>(keyOf e,e.2)) z;simpa using this
 generalize hi:cnt (es.map fun e=>(keyOf e,e.2)) z=i at*
 have hA:∀e∈es.take i,keyOf e<z:=fun e he=>by
  obtain⟨t,ht,rfl⟩:=aeg he;have:=p1 t (by simp at ht⊢;omega) (by simp at ht;omega);simpa using this
 have hB:∀e∈es.drop i,z<=keyOf e:=fun e he=>by
  obtain⟨t,ht,rfl⟩:=aeg he;have:=p2 (i+t) (by simp at ht⊢;omega) (by omega);simpa using this
 refine⟨es.take i,es.drop i,(aej i es).symm,by simp;omega,hA,?_⟩;by_cases hh:has (es.map fun e=>(keyOf e,e.2)) z=true
 · left
   refine⟨hh,?_⟩;unfold has at hh;obtain⟨x,hx,hxz⟩:=List.any_eq_true.1 hh;obtain⟨e,he,rfl⟩:=List.mem_map.1 hx
   have hez:keyOf e=z:=by simpa using hxz
   rw[<-aej i es]at he;rcases List.mem_append.1 he with he|he
   · have:=hA e he;omega
   cases hd:es.drop i with
   |nil=>rw[hd]at he;simp at he
   |cons a r=>
    rw[hd]at he hB;refine⟨a,r,rfl,?_⟩;rcases List.mem_cons.1 he with rfl|he
    · exact hez
    have h1:qZ (a::r):=by rw[<-hd];exact ho.sublist (List.drop_sublist _ _)
    have h2:=aeT h1 he;have h3:=hB a (by simp);omega
 right
 have hf:has (es.map fun e=>(keyOf e,e.2)) z=false:=by simpa using hh
 refine⟨hf,fun e he=> ?_⟩;have h3:=hB e he
 have h4:keyOf e≠z:=fun hk=>by
  unfold has at hf;rw[agk]at hf;exact hf (keyOf e,e.2) (List.mem_map.2 ⟨e,List.mem_of_mem_drop he,rfl⟩) (by simp[hk])
 omega
def Jk(d:Nat):Prop:=∀(z:Int) (lo hi:Nat) (L1 L2:List (Y3×Y3)) (e:Y3×Y3) (b off:Nat) (cs:Array Y3) (T:Y5) (ve vk:Y3) (F:List Nat) (w:Y4),keyOf e=z->(d≠0->1<=lo)->hi<=6->ae w b cs T->cs[off]? =Y2 ve->cs[off+1]? =Y2 vk->Nd Tr w d lo hi (L1++e::L2) ve vk F->(∀x∈L1++e::L2,wO x)->qZ (L1++e::L2)->(b::F).Nodup->
   aaT Zc 153 #[Ym (Y2 ⟨b,off,Y1⟩),Yg Yh z] w fun x w'=>x=Yl (.bool true)/\∃ve' vk' F',di w w' d (lo-1) hi b off cs T (L1++L2) ve vk F ve' vk' F'
theorem J8(es:List (Y3×Y3))(z:Int)(ve:Y3)(b off:Nat)(w:Y4)(hb:b<w.heap.size)(c0:w.cell? ⟨b,off,Y1⟩=Y2 ve)(ho:qZ es)(hent:∀e∈es,wO e)(hn:es.length<=1000)(hown:w.ownsRow 0 265 2 ve es.length (ah es)):
   aaT Zc 203 #[Ym (Y2 ⟨b,off,Y1⟩),Yg Yh z] w fun x w'=>x=Yl (Yn #[Yg Yh (cnt (es.map fun e=>(keyOf e,e.2)) z:Nat),.bool (has (es.map fun e=>(keyOf e,e.2)) z)])/\aaS w.heap.size w w':=by
 have hb2:=KQ hent;refine xX (es.map fun e=>(keyOf e,e.2)) z ve b off w hb c0 (AR ho) (La hent) (by simp;omega) ?_;rw[<-hb2,aeB];exact hown
theorem PG:Jk 0:=by
 intro z lo hi L1 L2 e b off cs T ve vk F w hz h1 h2 hB c0 c1 hN hent wN hnd;obtain⟨⟨n1,n2⟩,hown,⟨ka,kc,rfl⟩,rfl⟩:=hN;have hf:=J8 (L1++e::L2) z ve b off w hB.lt ((hB.cell off).trans c0) wN hent (by omega) hown;obtain⟨EA,EB,e1,e2,e3,h5⟩:=EU (L1++e::L2) z wN
 obtain⟨hh,e',EB',rfl,e4⟩:has ((L1++e::L2).map fun e=>(keyOf e,e.2)) z=true/\∃e' EB',EB=e'::EB'/\keyOf e'=z:=by
  rcases h5 with h5|⟨h5,h6⟩
  · exact h5
  unfold has at h5;rw[agk]at h5;exact absurd (show(keyOf e==z)=true by simp[hz]) (h5 (keyOf e,e.2) (List.mem_map.2 ⟨e,by simp,rfl⟩))
 obtain⟨rfl,rfl,rfl⟩:=wN.pos e1 (by omega);rw[hh,<-e2]at hf;refine EN b off L1.length kc ka z w _ hB.lt ((hB.cell (off+1)).trans c1) hf ?_;intro W hW;refine(jD b off L1.length ve (L1++e::L2) e cs T W (by omega) (hB.below hW hB.lt) c0 (eO hown hW) (by simp) hent (List.nodup_cons.1 hnd).1).mono ?_;rintro x w' ⟨rfl,ve',a1,a2,a3,a4⟩;refine⟨⟨_,_,rfl⟩,ve',Yp ka 0 kc,own ve',(ax.of hW).trans a2 (fun x hx=> .inl hx),?_,⟨⟨by simp at n1⊢;omega,by simp at n2⊢;omega⟩,?_,⟨_,_,rfl⟩,rfl⟩,fun x=> .inl (by rw[a1];exact nlr _)⟩
 · rw[iR (i:=off+1)]
   · exact a3
   rw[afs (by omega)];exact c1
 rw[jf]at a4
 have e9:(L1++L2).length=(L1++e::L2).length-1:=by simp
 rw[e9];simp at a4⊢;exact a4
theorem KY(d:Nat)(ih:Jk d):Jk (d+1):=by
 intro z lo hi L1 L2 e b off cs T ve vk F w hz h1 h2 hB c0 c1 hN hent wN hnd;obtain⟨es,ks,⟨hl1,hl2⟩,hkl,hown,kI,hL,rfl,hkids⟩:=hN;have h1:=h1 (by omega);obtain⟨s1,s2⟩:=jY (ks.map aM.L) es (by simpa using hkl);rw[<-hL]at s1 s2;have heo:qZ es:=wN.sublist s1
 have hee:∀x∈es,wO x:=fun x hx=>hent x (s1.subset hx)
 have hf:=J8 es z ve b off w hB.lt ((hB.cell off).trans c0) heo hee (by omega) hown;obtain⟨EA,EB,rfl,e2,e3,h5⟩:=EU es z heo;generalize hM:cnt ((EA++EB).map fun e=>(keyOf e,e.2)) z=i at*;subst e2
 have hEl:EA.length<ks.length:=by simp at hkl;omega
 obtain⟨A,k,B,rfl,hA⟩:∃A k B,ks=A++k::B/\A.length=EA.length:=⟨ks.take EA.length,ks[EA.length],ks.drop (EA.length+1),J6 ks EA.length hEl,by simp;omega⟩;have hND:GJ w b off cs T ve vk (EA++EB) (A++k::B):=⟨hB,c0,c1,hown,kI,hkl,hnd,by rw[<-hL];exact hent,by omega⟩;have hkids':∀q∈A++k::B,fG w d q:=hkids;obtain⟨hkB,hkN⟩:=hkids' k (by simp);obtain⟨gk,ck,rV,hvk,hgk,Qx,RG,QD,R8⟩:=aA kI (by simp);have Am:gk<w.heap.size:=(geA.1 hgk).1
 have q1:w.cell? ⟨b,off+1,Y1⟩=Y2 (Yp (Y2 ⟨gk,0,Y1⟩) (A++k::B).length ck):=by rw[<-hvk];exact(hB.cell (off+1)).trans c1
 have q0:w.cell? ⟨gk,EA.length,Y1⟩=Y2 (Ym (Y2 ⟨k.b,0,Y1⟩)):=by
  have hk2:=kI;rw[hvk]at hk2;have:=hk2.cells (g:=gk) rfl EA.length (Ym (Y2 ⟨k.b,0,Y1⟩)) (by rw[<-hA];simp[aM.ptr]);simpa only[Zn,Ze]using this
 have hlt:=hND.lt (fun q hq=>⟨(hkids' q hq).1.lt,(hkids' q hq).2.lt⟩)
 have wY:(k.b::k.F).Nodup:=fJ fun x=>by
  have:=bu hND.apart x;simp only[aD,aV,mq,cZ]at this⊢;omega
 have NR:∀x∈k.L,wO x:=fun x hx=>hent x ((s2 k.L (by simp)).subset hx)
 have hko:qZ k.L:=wN.sublist (s2 k.L (by simp))
 have Dt:∀(l:List (Y3×Y3)) (E:List (Y3×Y3)),aF ((A++(⟨k.b,l,ve,vk,[]⟩:aM)::B).map aM.L) (EA++E)=ahead (A.map aM.L) EA++l++behind (B.map aM.L) E:=fun l E=>by
  rw[aev,YZ];exact EW EA (A.map aM.L) E (B.map aM.L) l (by simp[hA])
 have hmap:∀(q:aM),(A++q::B).map aM.L=(A++(⟨k.b,q.L,ve,vk,[]⟩:aM)::B).map aM.L:=fun q=>by simp
 rw[hmap k,Dt]at hL;have hbl:=hB.lt
 have hTk:∀{W:Y4},ax (k.b::k.F) w W->ax (b::(own ve++own vk++(A++k::B).flatMap av)) w W:=fun hT=>hT.more fun x hx=>agj _ (aec _ (List.mem_flatMap.2 ⟨k,by simp,hx⟩))
 rcases h5 with⟨hh,e',EB',rfl,e4⟩|⟨hh,hB2⟩
 · -- the number stands in the node itself
   rw[hh]at hf;have hLb:L1++e::L2=(ahead (A.map aM.L) EA++k.L)++e'::aF (B.map aM.L) EB':=hL;obtain⟨rfl,rfl,rfl⟩:=wN.pos hLb (by omega);obtain⟨kL0,klast,hkL,_,_⟩:=jq k.L (hkN.some (by omega));obtain⟨z',ra,rn,rc,hz'⟩:=NR klast (by rw[hkL];simp);obtain⟨ge,ce,cure,hve,hge,hcen,hcem,hces,hcet⟩:=aA hown (by simp);have Xv:ge<w.heap.size:=(geA.1 hge).1;refine EE b off EA.length (A++k::B).length gk ck k.b ge (EA++e::EB').length ce z z' ra rn rc w (fun w2=>∃W kve kvk kF,aaS w.heap.size w W/\di W w2 d 2 6 k.b 0 #[k.ve,k.vk] 124 kL0 k.ve k.vk k.F kve kvk kF) _ hbl Am Xv (by simp) (by simp;omega) (by omega) (by rw[<-hve];exact(hB.cell off).trans c0) q1 q0 hf ?_ ?_ ?_
   · intro W hW;refine(FH d 3 6 kL0 klast k.b 0 #[k.ve,k.vk] 124 k.ve k.vk k.F W (by omega) (by omega) (hkB.below hW hkB.lt) rfl rfl (by rw[<-hkL];exact hkN.below hW) (by rw[<-hkL];exact NR) wY).mono ?_;rintro x w2 ⟨rfl,kve,kvk,kF,po⟩;exact⟨by rw[hz'],W,kve,kvk,kF,hW,po⟩
   · rintro w2 ⟨W,kve,kvk,kF,hW,po⟩;obtain⟨N1,kB1,oth1,T1,cnt1⟩:=hND.kid hkids' hW po (fun x hx=>by rw[hkL];simp[hx]) (by simp;omega);obtain⟨ge2,ce2,Vp,U9,XO,VP,hcem2,Vg,hcet2⟩:=aA N1.bz (by simp);rw[hve]at U9;injection U9 with g1 g2 g3;injection g1 with g1;injection g1 with g1;subst g1;refine⟨N1.blk.lt,by rw[<-hve];exact(N1.blk.cell off).trans c0,Vp,XO,?_⟩;rw[Vg];simp at VP;omega
   rintro w2 ⟨W,kve,kvk,kF,hW,po⟩;obtain⟨N1,kB1,oth1,T1,cnt1⟩:=hND.kid hkids' hW po (fun x hx=>by rw[hkL];simp[hx]) (by simp;omega);generalize hV:(w2.setCell ⟨ge,EA.length*2,Y1⟩ (Yg Yh z')).setCell ⟨ge,EA.length*2+1,Y1⟩ (Yp ra rn rc)=V
   have hown2:V.ownsRow 0 265 2 ve (EA++klast::EB').length (ah (EA++klast::EB')):=by
    have h9:=N1.bz;rw[hve]at h9⊢;have:=Ck h9 (by simp) (j:=EA.length) (by simp) (Yg Yh z',Yp ra rn rc);rw[hV,<-hz']at this
    have e9:(EA++e::EB').set EA.length klast=EA++klast::EB':=by simp
    rw[e9]at this
    have e10:(EA++klast::EB').length=(EA++e::EB').length:=by simp
    rw[e10];exact this
   have SA:own ve=[ge]:=by rw[hve];rfl
   have TV:ax [ge] w2 V:=by
    rw[<-hV];exact((ax.refl [ge] w2).set ⟨ge,EA.length*2,Y1⟩ _ (.inl (by simp))).set ⟨ge,EA.length*2+1,Y1⟩ _ (.inl (by simp))
   have key:∀g,(if b=g then 1 else 0)+(own ve).count g+(own vk).count g+((A.flatMap av).count g+(av (⟨k.b,kL0,kve,kvk,kF⟩:aM)).count g+(B.flatMap av).count g)<=1:=fun g=>by
    have:=bu N1.apart g;simp only[aD,aV,mq]at this;omega
   have kge:=key ge;rw[SA]at kge;simp only[aD,List.count_nil,if_true]at kge
   have far:∀g,(if b=g then 1 else 0)+(own vk).count g+((A.flatMap av).count g+(av (⟨k.b,kL0,kve,kvk,kF⟩:aM)).count g+(B.flatMap av).count g)≠0->g∉[ge]:=fun g hg hx=>by
    simp at hx;subst hx;omega
   have N2:GJ V b off cs T ve vk (EA++klast::EB') (A++⟨k.b,kL0,kve,kvk,kF⟩::B):=by
    refine⟨TV.blk N1.blk (far b (by simp)),c0,c1,hown2,af N1.kids TV fun g hg=>far g ?_,?_,N1.apart,?_,?_⟩
    · have:=List.count_pos_iff.2 hg;omega
    · have:=N1.len;simp at this⊢;omega
    · intro x hx;rw[hmap,Dt]at hx;refine hent x ?_;rw[hL,hkL];simp only[behind,YW,aeQ,afA,or_false]at hx⊢
      grind
    have:=N1.small;simp at this⊢;omega
   have kB2:ae V k.b #[kve,kvk] 124:=TV.blk kB1 (far k.b (by simp only[cZ,aD,if_true];omega))
   have kN2:Nd Tr V d 2 6 kL0 kve kvk kF:=po.nd.touch TV fun g hg=>far g (by
    have:=List.count_pos_iff.2 hg
    simp only[cZ,aD];omega)
   have WR:∀q∈A++B,fG V d q:=fun q hq=>by
    obtain⟨b1,b2⟩:=oth1 q hq
    have hin:∀g∈av q,g∉[ge]:=fun g hg=>by
     refine far g ?_;rcases List.mem_append.1 hq with h|h
     · have:=List.count_pos_iff.2 (List.mem_flatMap.2 ⟨q,h,hg⟩);omega
     have:=List.count_pos_iff.2 (List.mem_flatMap.2 ⟨q,h,hg⟩);omega
    exact⟨TV.blk b1 (hin _ (by simp[av])),b2.touch TV fun g hg=>hin g (by simp[av,hg])⟩
   have hm:=zq V d b off cs T ve vk EA (klast::EB') A B ⟨k.b,kL0,kve,kvk,kF⟩ N2 hA (by simp;omega) kB2 kN2 WR;rw[hA]at hm;refine hm.mono ?_;rintro x w' ⟨rfl,ve',vk',F',mo⟩;refine⟨rfl,ve',vk',F',?_⟩;rw[hmap,Dt]at mo
   have e11:ahead (A.map aM.L) EA++kL0++behind (B.map aM.L) (klast::EB')=ahead (A.map aM.L) EA++k.L++aF (B.map aM.L) EB':=by rw[hkL];simp[behind]
   rw[e11]at mo
   have UM:(EA++klast::EB').length=(EA++e::EB').length:=by simp
   rw[UM]at mo;refine(mo.comp ?_ fun x=> ?_).wide (by omega) (by omega)
   · exact(hTk T1).trans TV fun x hx=> .inl (by simp at hx;subst hx;simp[SA])
   have hs:=hW.size;rcases cnt1 x with h|h
   · exact .inl h
   exact .inr ⟨by omega,h.2⟩
 -- the number stands beneath a kid
 rw[hh]at hf
 have VA:e∉ahead (A.map aM.L) EA:=fun hx=>by
  rcases xQ EA (A.map aM.L) (by simp[hA])with⟨e0,p,g1,g2⟩|g2
  · have h9:=e3 e0 g1;rw[g2]at hx;rcases List.mem_append.1 hx with hx|hx
    · have h10:qZ (p++[e0]):=by
       rw[<-g2];rw[hL]at wN;exact wN.sublist (by simp)
      have:=QG h10 e hx e0 (by simp);omega
    simp at hx;subst hx;omega
  rw[g2]at hx;simp at hx
 have Vr:e∉behind (B.map aM.L) EB:=fun hx=>by
  cases EB with
  |nil=>simp[behind]at hx
  |cons e0 E=>
   have h9:=hB2 e0 (by simp);rcases List.mem_cons.1 (show e∈e0::aF (B.map aM.L) E from hx)with rfl|hx
   · omega
   have h10:qZ (e0::aF (B.map aM.L) E):=by
    rw[hL]at wN;exact wN.sublist (by simp[behind])
   have:=aeT h10 hx;omega
 have hin:e∈k.L:=by
  have:e∈L1++e::L2:=by simp
  rw[hL]at this;simp only[YW]at this;rcases this with(h|h)|h
  · exact absurd h VA
  · exact h
  exact absurd h Vr
 obtain⟨l1,l2,hkL⟩:=List.append_of_mem hin
 have hLb:L1++e::L2=(ahead (A.map aM.L) EA++l1)++e::(l2++behind (B.map aM.L) EB):=by rw[hL,hkL];simp
 obtain⟨rfl,_,rfl⟩:=wN.pos hLb rfl;refine GM b off EA.length (A++k::B).length gk ck k.b z w (fun w2=>∃W kve kvk kF,aaS w.heap.size w W/\di W w2 d 2 6 k.b 0 #[k.ve,k.vk] 124 (l1++l2) k.ve k.vk k.F kve kvk kF) _ hbl Am (by simp;omega) (by omega) q1 q0 hf ?_ ?_
 · intro W hW;refine(ih z 3 6 l1 l2 e k.b 0 #[k.ve,k.vk] 124 k.ve k.vk k.F W hz (fun _=>by omega) (by omega) (hkB.below hW hkB.lt) rfl rfl (by rw[<-hkL];exact hkN.below hW) (by rw[<-hkL];exact NR) (by rw[<-hkL];exact hko) wY).mono ?_;rintro x w2 ⟨rfl,kve,kvk,kF,po⟩;exact⟨rfl,W,kve,kvk,kF,hW,po⟩
 rintro w2 ⟨W,kve,kvk,kF,hW,po⟩;obtain⟨N1,kB1,oth1,T1,cnt1⟩:=hND.kid hkids' hW po (fun x hx=>by rw[hkL];simp at hx⊢;rcases hx with h|h<;>simp[h]) (by simp;omega);have hm:=zq w2 d b off cs T ve vk EA EB A B ⟨k.b,l1++l2,kve,kvk,kF⟩ N1 hA (by omega) kB1 po.nd oth1;rw[hA]at hm;refine hm.mono ?_;rintro x w' ⟨rfl,ve',vk',F',mo⟩;refine⟨rfl,ve',vk',F',?_⟩;rw[hmap,Dt]at mo
 have e11:ahead (A.map aM.L) EA++(l1++l2)++behind (B.map aM.L) EB=ahead (A.map aM.L) EA++l1++(l2++behind (B.map aM.L) EB):=by simp
 rw[e11]at mo;refine(mo.comp (hTk T1) fun x=> ?_).wide (by omega) (by omega);have hs:=hW.size;rcases cnt1 x with h|h
 · exact .inl h
 exact .inr ⟨by omega,h.2⟩
theorem J3:∀d,Jk d
 |0=>PG
 |d+1=>KY d (J3 d)
end Bt
namespace Bt
theorem Nd.slices{L:List (Y3×Y3)}(h:Nd Tr w d lo hi L ve vk F):(∃a n c,ve=Yp a n c)/\∃a n c,vk=Yp a n c:=by
 cases d with
 |zero=>
  obtain⟨_,h1,⟨ka,kc,h2⟩,_⟩:=h;obtain⟨a,c,h3⟩:=ai h1;exact⟨⟨_,_,_,h3⟩,_,_,_,h2⟩
 |succ d=>
  obtain⟨es,ks,_,_,h1,h2,_⟩:=h;obtain⟨a,c,h3⟩:=ai h1;obtain⟨a2,c2,h4⟩:=ai h2;exact⟨⟨_,_,_,h3⟩,_,_,_,h4⟩
theorem FN(z:Int)(d:Nat)(L1 L2:List (Y3×Y3))(e:Y3×Y3)(p off:Nat)(cs:Array Y3)(T:Y5)(ve vk:Y3)(F:List Nat)(c:Int)(w:Y4)(hc:1<=c/\c<=1000000)(hB:ae w p cs T)(h0:cs[off]? =Y2 ve)(h1:cs[off+1]? =Y2 vk)(h2:cs[off+2]? =Y2 (Yg Yh c))(hN:Root w d (L1++e::L2) ve vk F)(hz:keyOf e=z)(hent:∀x∈L1++e::L2,wO x)(hO:qZ (L1++e::L2))(hnd:(p::F).Nodup):
   aaT Zc 86 #[Ym (Y2 ⟨p,off,Y1⟩),Yg Yh z] w fun x w'=>x=Yl (Yn #[])/\∃d' ve' vk' F',wW w w' p off cs T (L1++L2) F (c-1) d' ve' vk' F':=by
 refine DZ z p off c w (fun W cs'=>∃ve' vk' F',cs'=(cs.setIfInBounds off ve').setIfInBounds (off+1) vk'/\di w W d 0 6 p off cs T (L1++L2) ve vk F ve' vk' F') T _ hB.lt hc ((J3 d z _ 6 L1 L2 e p off cs T ve vk F w hz (fun h=>by simp[h]) (by omega) hB h0 h1 hN hent hO hnd).mono ?_) ?_
 · rintro x W ⟨rfl,ve',vk',F',po⟩;exact⟨rfl,_,ve',vk',F',rfl,po.wide (by omega) (by omega)⟩
 rintro W cs' ⟨ve',vk',F',rfl,po⟩;obtain⟨m,hm1,hm2,nd2,ao,cp,rfl⟩:=po.nd.exact;obtain⟨_,bo,bn,bc,rfl⟩:=nd2.slices;have hoff:off<cs.size:=(geA.1 h0).1;have JK:off+1<cs.size:=(geA.1 h1).1;have hpW:=po.blk.lt;have hsz:=po.gP.size
 have hpF:p∉F':=fun h=>by
  have a1:=List.count_pos_iff.2 h;have a2:=bu hnd p;have a3:=po.cnt p;have a4:=hB.lt;simp only[aD,if_true]at a2;omega
 have hbn:bn<=100/\(d=0->bn=0)/\(d≠0->bn=m+1):=by
  cases d with
  |zero=>
   obtain⟨_,_,⟨ka,kc,h9⟩,_⟩:=nd2;injection h9 with _ h9;exact⟨by omega,fun _=>by omega,fun h=>absurd rfl h⟩
  |succ d=>
   obtain⟨es,ks,h5,h6,_,h7,_⟩:=nd2;obtain⟨a,b,h9⟩:=ai h7;injection h9 with _ h9;exact⟨by omega,fun h=>by omega,fun _=>by omega⟩
 refine⟨po.blk,?_,m,ao,cp,bo,bn,bc,by omega,hbn.1,?_,?_,?_,?_⟩
 · rw[afs (by omega),afs (by omega)];exact h2
 · rw[afs (by omega),afG,if_pos hoff]
 · rw[afG,if_pos (by simpa using JK)]
 · intro hor;refine⟨d,Yp ao m cp,Yp bo bn bc,F',po.gP.set _ _ (.inl (by simp)),po.blk.set _ _,?_,po.cnt⟩
   have hlo:(if d=0 then 0 else 1)<=m:=by
    split
    · omega
    rename_i hd;have:=hbn.2.2 hd;omega
   exact(nd2.wide hlo hm2).keep fun k hk=>Zb _ _ _ _ (fun e=>hpF (by rw[<-(show k=p from e)];exact hk))
 intro hm0 hb0;subst hm0
 cases d with
 |zero=>exact absurd (hbn.2.1 rfl) hb0
 |succ d=>
  obtain⟨es,ks,h5,h6,h7,h8,h9,h10,h11⟩:=nd2;have he0:es=[]:=List.eq_nil_of_length_eq_zero (by omega);subst he0
  obtain⟨k,rfl⟩:∃k,ks=[k]:=by
   match ks,h6 with
   |[k],_=>exact⟨k,rfl⟩
  obtain⟨gk,ck,rV,hvk,hgk,_,_,_,_⟩:=aA h8 (by simp);injection hvk with e1 e2 e3;subst e1;obtain⟨kB,kN⟩:=h11 k (by simp);obtain⟨⟨a1,n1,c1,ha⟩,a2,n2,c2,hb⟩:=kN.slices
  have kB':ae W k.b #[Yp a1 n1 c1,Yp a2 n2 c2] 124:=by rw[<-ha,<-hb];exact kB
  have hFk:F'=own (Value.slice ao 0 cp)++[gk]++(k.b::k.F):=by rw[h10];simp[own,aaR]
  have hgp:gk≠p:=fun h=>hpF (by rw[hFk];simp[h])
  have hkp:k.b≠p:=fun h=>hpF (by rw[hFk];simp[h])
  have hkF:p∉k.F:=fun h=>hpF (by rw[hFk];simp[h])
  have hkc:W.cell? ⟨gk,0,Y1⟩=Y2 (Ym (Y2 ⟨k.b,0,Y1⟩)):=by
   have:=h8.cells (g:=gk) rfl 0 (Ym (Y2 ⟨k.b,0,Y1⟩)) rfl;simpa only[Zn,Ze]using this
  refine⟨gk,k.b,a1,n1,c1,a2,n2,c2,rfl,hgp,hkp,(geA.1 hgk).1,hkc,kB',d,Yp a1 n1 c1,Yp a2 n2 c2,k.F,?_,?_,?_,?_⟩
  · exact((po.gP.set _ _ (.inl (by simp))).set _ _ (.inl (by simp))).set _ _ (.inl (by simp))
  · have:=((po.blk.set (off+2) (Yg Yh (c-1))).set off (Yp a1 n1 c1)).set (off+1) (Yp a2 n2 c2);rw[DW]at this;exact this
  · have T3:ax [p] W (((W.setCell ⟨p,off+2,Y1⟩ (Yg Yh (c-1))).setCell ⟨p,off,Y1⟩ (Yp a1 n1 c1)).setCell ⟨p,off+1,Y1⟩ (Yp a2 n2 c2)):=(((ax.refl [p] W).set _ _ (.inl (by simp))).set _ _ (.inl (by simp))).set _ _ (.inl (by simp))
    have e9:L1++L2=k.L:=by rw[h9];simp[aF]
    rw[e9,<-ha,<-hb];rw[<-ha,<-hb]at T3;refine(kN.touch T3 fun g hg=>by simp;rintro rfl;exact hkF hg).wide ?_ (by omega)
    split<;>omega
  intro x;have a1:=po.cnt x
  have a2:k.F.count x<=F'.count x:=by
   rw[hFk];simp only[aV,aD];omega
  omega
end Bt
end Go.Proofs.YthhhfcdakfbpkaaGreatDoor
