/- Parts of the proof -/
import Derived.Test.YthhhfcdakfbpkaaGreatDoorO21
namespace Go.Proofs.YthhhfcdakfbpkaaGreatDoor
set_option linter.unusedSimpArgs false
set_option linter.unusedVariables false
set_option maxRecDepth 100000
set_option maxHeartbeats 16000000
open Go.RowKit
section
namespace Kp
open Tx Tb Tw Bt
def two(z:Mg.V×Mg.V):List Mg.V:=[z.1,z.2]
theorem jV(U:List (Mg.V×Mg.V)):(U.flatMap two).length=2*U.length:=by
 induction U with
 |nil=>rfl
 |cons a l ih=>rw[List.flatMap_cons,List.length_append,ih];simp[two];omega
theorem Il:∀(U:List (Mg.V×Mg.V)) (i:Nat) (h:i<U.length) (h1:2*i<(U.flatMap two).length) (h2:2*i+1<(U.flatMap two).length),(U.flatMap two)[2*i]=U[i].1/\(U.flatMap two)[2*i+1]=U[i].2
 |a::l,0,_,_,_=>by simp[two]
 |a::l,i+1,h,h1,h2=>by
  have hl:(a::l).flatMap two=a.1::a.2::l.flatMap two:=rfl
  have hi:i<l.length:=by simpa using h
  have e:=Il l i hi (by rw[jV];omega) (by rw[jV];omega);simp only[hl,show 2*(i+1)=2*i+1+1 by omega,List.getElem_cons_succ];exact e
theorem Br(U:List (Mg.V×Mg.V)):(U.map Mg.wK).flatMap Prod.fst=U.flatMap two:=by rw[List.flatMap_map];rfl
theorem xh(U:List (Mg.V×Mg.V)):(U.map Mg.Po).flatMap Prod.fst=U.flatMap two:=by rw[List.flatMap_map];rfl
theorem uN(U:List (Mg.V×Mg.V)):(U.map Mg.xM).flatMap Prod.fst=U.map Prod.fst:=by
 rw[List.flatMap_map]
 induction U with
 |nil=>rfl
 |cons a l ih=>rw[List.flatMap_cons,ih];rfl
theorem wY{a b:Mg.V}(h:Mg.dJ a b=false)(w:World):Calls Tryz.prog 11 #[.agg #[.int .i64 a.kind,.int .i64 a.int,.string ⟨a.text.toArray⟩],.agg #[.int .i64 b.kind,.int .i64 b.int,.string ⟨b.text.toArray⟩]] w fun x w'=>x=.returned (.bool false)/\Below w.heap.size w w':=by
 have:=G7 a b w;rw[h]at this;exact this
theorem aQ.two{W:World}{ao:Option Addr}{n c:Nat}{U:List (Mg.V×Mg.V)}(h:aQ W (.slice ao n c) (U.flatMap two)){i x:Nat}(hi:i<U.length):
   (x=2*i->∃g,ao=some ⟨g,0,none⟩/\g<W.heap.size/\W.cell? ⟨g,x*3,none⟩=some (.int .i64 U[i].1.kind)/\W.cell? ⟨g,x*3+1,none⟩=some (.int .i64 U[i].1.int)/\W.cell? ⟨g,x*3+2,none⟩=some (.string ⟨U[i].1.text.toArray⟩))/\
   (x=2*i+1->∃g,ao=some ⟨g,0,none⟩/\g<W.heap.size/\W.cell? ⟨g,x*3,none⟩=some (.int .i64 U[i].2.kind)/\W.cell? ⟨g,x*3+1,none⟩=some (.int .i64 U[i].2.int)/\W.cell? ⟨g,x*3+2,none⟩=some (.string ⟨U[i].2.text.toArray⟩)):=by
 have hl:=jV U;have h2:=Il U i hi (by omega) (by omega);refine⟨fun e=> ?_,fun e=> ?_⟩<;>subst e
 · obtain⟨_,g,h1⟩:=h.at (2*i) (by omega);rw[h2.1]at h1;exact⟨g,h1⟩
 obtain⟨_,g,h1⟩:=h.at (2*i+1) (by omega);rw[h2.2]at h1;exact⟨g,h1⟩
theorem aQ.one{W:World}{ao:Option Addr}{n c:Nat}{D:List (Mg.V×Mg.V)}(h:aQ W (.slice ao n c) (D.map Prod.fst)){i:Nat}(hi:i<D.length):
   ∃g,ao=some ⟨g,0,none⟩/\g<W.heap.size/\W.cell? ⟨g,i*3,none⟩=some (.int .i64 D[i].1.kind)/\W.cell? ⟨g,i*3+1,none⟩=some (.int .i64 D[i].1.int)/\W.cell? ⟨g,i*3+2,none⟩=some (.string ⟨D[i].1.text.toArray⟩):=by
 obtain⟨_,g,h1⟩:=h.at i (by simpa using hi);rw[List.getElem_map]at h1;exact⟨g,h1⟩
theorem BM(ao:Option Addr)(n c:Nat)(q:Int)(w:World)(hn:n<=maxLen)(hq1: -9223372036854775808<=q)(hq2:q<=9223372036854775807)(he:jr w)(hed:wH w)(hI:C9 w ao n):
   Calls Tryz.prog 5 #[.slice ao n c,.int .i64 q] w fun x w'=>x=.returned (.bool true)/\Below w.heap.size w w':=by
 have HEP:=hd he;have HED:=hd hed;have HBG:=hd (FE ao n c w hn he hed hI);clear he hed hI;go_enter Tryz.func5,Tryz.ntmps5;go_wp2_with fail;refine HBG.out.mono ?_;rintro x w1 ⟨hb1,b,p,ge,ce,M,nx,F,R,rfl,hM,hG⟩;have HB1:=hd hb1;have HS1:=hd hG.sto;have hbw:w.heap.size<=b:=hG.low b (by simp)
 have HR3:Hid (∀r∈M.map Prod.snd,Mg.GU r):=fun r hr=>by
  obtain⟨m,hm,rfl⟩:=List.mem_map.1 hr;exact hG.rows m hm
 have HRA:Hid (∀z∈(M.map Prod.snd).map Mg.ab,Mg.mo z.1):=fun z hz=>by
  obtain⟨r,hr,rfl⟩:=List.mem_map.1 hz;exact(Mg.qc (HR3.out r hr)).1
 have HE1:=hd (HEP.out.below HB1.out);clear hb1 hG HBG;go_wp2_with fail;refine(Lb [some Px.nA,some Px.nB] [(Px.nA,false)] none ⟨Px.QM.toArray⟩ Px.JZ (by simp[ByteArray.size,Px.QM,maxLen]) HE1.out HS1.out ⟨by simp,by simp,by simp⟩ (fun d hd=>by simp[Mg.iU,Tb.aC,Tb.itE,Tb.demW]at hd;rcases hd with rfl|rfl|rfl<;>(show([_]:Lx.Bs).length<=30;decide)) rfl _ (Mg.AB HR3.out)).mono ?_;rintro x w2 ⟨hT2,hS2,xs1,ua,un,uc,hs1,ht1,rfl,hun,hC1,hg1⟩;obtain⟨U,rfl,hUl,hUA,hUs,hUf⟩:=Mg.PU HRA.out hs1 ht1
 have hRl:((M.map Prod.snd).map Mg.ab).length=M.length:=by simp
 have hUn:U.length=M.length:=hUl.trans hRl
 have hC1':aQ w2 (.slice ua un uc) (U.flatMap two):=by
  rw[if_neg (by simp),Br]at hC1;exact hC1
 have RH:un=2*M.length:=by
  rw[if_neg (by simp),Br,jV,hUn]at hun;exact hun
 subst RH;have HU:Hid (U.length=M.length/\(∀z∈U,Mg.mo z.1)/\(∀(i j:Nat) (hi:i<U.length) (hj:j<U.length),i<j->Mg.dJ U[j].1 U[i].1=false)/\∀y,Mg.mo y->U.filter (fun z=>Mg.F7 z.1 y)=((M.map Prod.snd).map Mg.ab).filter (fun z=>Mg.F7 z.1 y)):=⟨hUn,hUA,hUs,hUf⟩;have Pm:=hd hs1;have Qj:=hd ht1;have hw2:(((Tb.aC Px.cO [some Px.nA,some Px.nB]).length:Nat):Int)=2:=rfl;have HB2:Hid (Below w.heap.size w (w2.alloc (.cells #[.int .i64 2,.slice ua (2*M.length) uc,.int .i64 0] 29))):=(jb HB1.out hT2 hbw).alloc (jb HB1.out hT2 hbw).size _
 have HN2:Hid (Below w2.heap.size w2 (w2.alloc (.cells #[.int .i64 2,.slice ua (2*M.length) uc,.int .i64 0] 29))):=by show Below _ _ _;go_grown
 have HS2:=hd (hS2.below HN2.out);have HE2:=hd (HEP.out.below HB2.out);have HX1:=hd (af.new w2 #[.int .i64 2,.slice ua (2*M.length) uc,.int .i64 0] 29);have HC1:=hd (hC1'.keep fun g hg=>HN2.out.block g (hC1'.lt g hg));have hb2:=hS2.blk.lt;have hbs1:=HS1.out.blk.lt
 have HG1:Hid (∀g∈own (.slice ua (2*M.length) uc),g≠b):=fun g hg=>by have:=hg1 g hg;omega
 clear hT2 hS2 hs1 ht1 hun hC1 hC1' hg1 hUl hUA hUs hUf hUn HS1 HE1;rw[hw2];clear hw2;go_wp2_with fail;generalize w2.alloc (.cells #[.int .i64 2,.slice ua (2*M.length) uc,.int .i64 0] 29)=V2 at*;refine(Lb [some Px.nA] [(Px.nA,true),(Px.nA,false)] none ⟨Px.KJ.toArray⟩ Px.Dx (by simp[ByteArray.size,Px.KJ,maxLen]) HE2.out HS2.out ⟨by simp,by simp,by simp⟩ (fun d hd=>by simp[Mg.iU,Tb.aC,Tb.itE,Tb.demW]at hd;rcases hd with rfl|rfl|rfl<;>(show([_]:Lx.Bs).length<=30;decide)) rfl _ (Mg.D9 HR3.out)).mono ?_;rintro x w3 ⟨hT3,hS3,xs2,da,dn,dc,hs2,ht2,rfl,hdn,hC2,hg2⟩;obtain⟨D,rfl,hDl,hDA,hDs⟩:=Mg.LG HRA.out hs2 ht2;have hDn:D.length=M.length:=hDl.trans hRl
 have hC2':aQ w3 (.slice da dn dc) (D.map Prod.fst):=by
  rw[if_neg (by simp),uN]at hC2;exact hC2
 have R3:dn=M.length:=by
  rw[if_neg (by simp),uN,List.length_map,hDn]at hdn;exact hdn
 subst R3;have HD:Hid (D.length=M.length/\(∀z∈D,Mg.mo z.1)/\∀(i j:Nat) (hi:i<D.length) (hj:j<D.length),i<j->Mg.dJ D[i].1 D[j].1=false):=⟨hDn,hDA,hDs⟩;have hw3:(((Tb.aC Px.cO [some Px.nA]).length:Nat):Int)=1:=rfl;have HB3:Hid (Below w.heap.size w (w3.alloc (.cells #[.int .i64 1,.slice da M.length dc,.int .i64 0] 29))):=(jb HB2.out hT3 hbw).alloc (jb HB2.out hT3 hbw).size _
 have HN3:Hid (Below w3.heap.size w3 (w3.alloc (.cells #[.int .i64 1,.slice da M.length dc,.int .i64 0] 29))):=by show Below _ _ _;go_grown
 have HS3:=hd (hS3.below HN3.out);have HE3:=hd (HEP.out.below HB3.out);have PY:=hd ((hT3.blk HX1.out (by simp;omega)).alloc (.cells #[.int .i64 1,.slice da M.length dc,.int .i64 0] 29));have Pn:=hd (af.new w3 #[.int .i64 1,.slice da M.length dc,.int .i64 0] 29)
 have HC13:Hid (aQ (w3.alloc (.cells #[.int .i64 1,.slice da M.length dc,.int .i64 0] 29)) (.slice ua (2*M.length) uc) (U.flatMap two)):=HC1.out.keep fun g hg=>(HN3.out.block g (nlA (HC1.out.lt g hg) hT3.size)).trans (hT3.block g (HC1.out.lt g hg) (by simp;exact HG1.out g hg))
 have HC23:=hd (hC2'.keep fun g hg=>HN3.out.block g (hC2'.lt g hg))
 have HG2:Hid (∀g∈own (.slice da M.length dc),g≠b):=fun g hg=>by have:=hg2 g hg;have:=HS2.out.blk.lt;omega
 have hb3:=hS3.blk.lt;clear hT3 hS3 hs2 ht2 hdn hC2 hC2' hg2 hDl hDA hDs hDn HS2 HE2 HX1 HC1 HB2;rw[hw3];clear hw3;go_wp2_with fail;generalize w3.alloc (.cells #[.int .i64 1,.slice da M.length dc,.int .i64 0] 29)=V3 at*;refine(Lb [some Px.nA,some Px.nB] [] none ⟨Px.Oz.toArray⟩ Px.Fz (by simp[ByteArray.size,Px.Oz,maxLen]) HE3.out HS3.out ⟨by simp,by simp,by simp⟩ (fun d hd=>by simp[Mg.iU,Tb.aC,Tb.itE,Tb.demW]at hd;rcases hd with rfl|rfl<;>(show([_]:Lx.Bs).length<=30;decide)) rfl _ (Mg.Kj HR3.out)).mono ?_;rintro x w4 ⟨hT4,hS4,xs3,la,ln,lc,hs3,ht3,rfl,hln,hC3,hg3⟩;obtain rfl:=Mg.Nn ht3
 have hC3':aQ w4 (.slice la ln lc) (((M.map Prod.snd).map Mg.ab).flatMap two):=by
  rw[if_neg (by simp),xh]at hC3;exact hC3
 have Q7:ln=2*M.length:=by
  rw[if_neg (by simp),xh,jV,hRl]at hln;exact hln
 subst Q7;have hw4:(((Tb.aC Px.cO [some Px.nA,some Px.nB]).length:Nat):Int)=2:=rfl;have HB4:Hid (Below w.heap.size w (w4.alloc (.cells #[.int .i64 2,.slice la (2*M.length) lc,.int .i64 0] 29))):=(jb HB3.out hT4 hbw).alloc (jb HB3.out hT4 hbw).size _
 have HN4:Hid (Below w4.heap.size w4 (w4.alloc (.cells #[.int .i64 2,.slice la (2*M.length) lc,.int .i64 0] 29))):=by show Below _ _ _;go_grown
 have HS4:=hd (hS4.below HN4.out);have HE4:=hd (HEP.out.below HB4.out);have HX14:=hd ((hT4.blk PY.out (by simp;omega)).alloc (.cells #[.int .i64 2,.slice la (2*M.length) lc,.int .i64 0] 29));have HX24:=hd ((hT4.blk Pn.out (by simp;omega)).alloc (.cells #[.int .i64 2,.slice la (2*M.length) lc,.int .i64 0] 29));have HX34:=hd (af.new w4 #[.int .i64 2,.slice la (2*M.length) lc,.int .i64 0] 29)
 have HC14:Hid (aQ (w4.alloc (.cells #[.int .i64 2,.slice la (2*M.length) lc,.int .i64 0] 29)) (.slice ua (2*M.length) uc) (U.flatMap two)):=HC13.out.keep fun g hg=>(HN4.out.block g (nlA (HC13.out.lt g hg) hT4.size)).trans (hT4.block g (HC13.out.lt g hg) (by simp;exact HG1.out g hg))
 have HC24:Hid (aQ (w4.alloc (.cells #[.int .i64 2,.slice la (2*M.length) lc,.int .i64 0] 29)) (.slice da M.length dc) (D.map Prod.fst)):=HC23.out.keep fun g hg=>(HN4.out.block g (nlA (HC23.out.lt g hg) hT4.size)).trans (hT4.block g (HC23.out.lt g hg) (by simp;exact HG2.out g hg))
 have HC34:=hd (hC3'.keep fun g hg=>HN4.out.block g (hC3'.lt g hg))
 have HG3:Hid (∀g∈own (.slice la (2*M.length) lc),g≠b):=fun g hg=>by have:=hg3 g hg;have:=HS3.out.blk.lt;omega
 have hb4:=hS4.blk.lt;clear hT4 hS4 hs3 ht3 hln hC3 hC3' hg3 HS3 HE3 PY Pn HC13 HC23 HB3;rw[hw4];clear hw4 hRl;have a1:=HX14.out.cell 1;have a0:=HX14.out.cell 0;have a2:=HX24.out.cell 1;have a3:=HX34.out.cell 1;have l1:=HX14.out.lt;have l2:=HX24.out.lt;have l3:=HX34.out.lt;simp at a0 a1 a2 a3;have e1:IntKind.i64.wrap (2*(M.length:Int))=2*(M.length:Int):=Mk.bH (by omega) (by omega);go_wp2_with fail;clear a0 a1 a2 a3 l1 l2 l3 e1;generalize w4.alloc (.cells #[.int .i64 2,.slice la (2*M.length) lc,.int .i64 0] 29)=V4 at*;obtain⟨A,hA⟩:∃A,(M.map Prod.snd).map Mg.ab=A:=⟨_,rfl⟩;have HAL:Hid (A.length=M.length/\∀z∈A,Mg.mo z.1):=⟨by rw[<-hA];simp,fun z hz=>HRA.out z (by rw[hA];exact hz)⟩;rw[hA]at HU HC34 HRA;have HA:=hd hA;clear hA;go_loopw [14,15] (fun av iv wr=>∃(i k:Nat),av=.int .i64 k/\iv=.int .i64 i/\i<=M.length/\k<=M.length/\Hid (Below V4.heap.size V4 wr)/\Hid (i=0->k=0)/\Hid (∀(y:Mg.V×Mg.V),0<i->U[i-1]? =some y->(A.take k).filter (fun z=>Mg.F7 z.1 y.1)=(U.take i).filter (fun z=>Mg.F7 z.1 y.1))) (fun _ iv _=>M.length-(intOf iv).toNat)
 case atStart=>exact⟨0,0,rfl,rfl,Nat.zero_le _,Nat.zero_le _,Below.refl _ _,fun _=>rfl,fun y h=>by omega⟩
 case round=>
  obtain⟨i,k,rfl,rfl,hi,hk,HBr,HZ,HIN⟩:=hrel;have MI:=hd (HX14.out.below HBr.out HX14.out.lt);have LQ:=hd (HX24.out.below HBr.out HX24.out.lt);have Lj:=hd (HX34.out.below HBr.out HX34.out.lt)
  have HC1r:Hid (aQ wr (.slice ua (2*M.length) uc) (U.flatMap two)):=HC14.out.keep fun g hg=>HBr.out.block g (HC14.out.lt g hg)
  have MO:Hid (aQ wr (.slice da M.length dc) (D.map Prod.fst)):=HC24.out.keep fun g hg=>HBr.out.block g (HC24.out.lt g hg)
  have Nv:Hid (aQ wr (.slice la (2*M.length) lc) (A.flatMap two)):=HC34.out.keep fun g hg=>HBr.out.block g (HC34.out.lt g hg)
  have a1:=MI.out.cell 1;have a2:=LQ.out.cell 1;have a3:=Lj.out.cell 1;have l1:=MI.out.lt;have l2:=LQ.out.lt;have l3:=Lj.out.lt;simp at a1 a2 a3;by_cases hlt:i<M.length
  · obtain⟨N2,hN2⟩:∃N2,2*M.length=N2:=⟨_,rfl⟩;have HM60:Hid (M.length<=60):=hM;have HN2:=hd hN2;rw[hN2]at a1 a3 HC1r Nv;obtain⟨x2,hx2⟩:∃x2,2*i=x2:=⟨_,rfl⟩;have HX2:=hd hx2
    have ix2:(x2:Int)<(N2:Int):=by omega
    have ww2:IntKind.i64.wrap (2*(i:Int))=(x2:Int):=by rw[show(2*(i:Int))=((2*i:Nat):Int) by omega,hx2];exact Mk.bH (by omega) (by omega)
    have nx2:x2<N2:=by omega
    have hUn:=HU.out.1;have hDn:=HD.out.1
    have hiU:i<U.length:=by omega
    have hiD:i<D.length:=by omega
    obtain⟨gu,hgu,lgu,u0,u1,u2⟩:=(HC1r.out.two hiU).1 hx2.symm;obtain⟨gd,hgd,lgd,e0,e1,e2⟩:=MO.out.one hiD
    have iM:(i:Int)<(M.length:Int):=by omega
    have HUR:Hid (i<U.length/\i<D.length):=⟨hiU,hiD⟩;subst hgu;subst hgd;clear hN2 hx2 hUn hDn
    go_upto_region 13 with fail
    go_cut[121]from 82 to 181 (fun t wx=>t=.bool false/\Hid (Below V4.heap.size V4 wx))
    case first=>
     by_cases hi0:0<i
     · have p0:(0:Int)<(i:Int):=by omega
       have g0:decide (0<i)=true:=decide_eq_true hi0;have g1:decide ((0:Int)<(i:Int))=true:=decide_eq_true p0;obtain⟨i1,hi1⟩:∃i1,i1+1=i:=⟨i-1,by omega⟩;obtain⟨x0,hx0⟩:∃x0,x0+2=x2:=⟨x2-2,by have:=HX2.out;omega⟩
       have J5:x0=2*i1:=by have:=HX2.out;omega
       obtain⟨gu',fM,_,v0,v1,v2⟩:=(HC1r.out.two (i:=i1) (by omega)).1 J5;obtain⟨gd',hgd',_,f0,f1,f2⟩:=MO.out.one (i:=i1) (by omega);injection fM with fM;injection fM with fM;subst fM;injection hgd' with hgd';injection hgd' with hgd';subst hgd';have b1:Hid (Mg.dJ U[i].1 U[i1].1=false):=HU.out.2.2.1 i1 i (by omega) hiU (by omega);have b2:Hid (Mg.dJ D[i1].1 D[i].1=false):=HD.out.2.2 i1 i (by omega) hiD (by omega)
       have wx0:IntKind.i64.wrap ((x2:Int)-2)=(x0:Int):=by rw[show(x2:Int)-2=(x0:Int) by omega];exact Mk.bH (by omega) (by omega)
       have wi1:IntKind.i64.wrap ((i:Int)-1)=(i1:Int):=by rw[show(i:Int)-1=(i1:Int) by omega];exact Mk.bH (by omega) (by omega)
       have nx0:x0<N2:=by omega
       have ix0:(x0:Int)<(N2:Int):=by omega
       have ni1:i1<M.length:=by omega
       have ii1:(i1:Int)<(M.length:Int):=by omega
       have HBL1:=hd (fun w=>wY b1.out w);have HBL2:=hd (fun w=>wY b2.out w);generalize U[i].1.kind=k1 at*;generalize U[i].1.int=z1 at*;generalize (⟨U[i].1.text.toArray⟩:ByteArray)=t1 at*;generalize U[i1].1.kind=k2 at*;generalize U[i1].1.int=z2 at*;generalize (⟨U[i1].1.text.toArray⟩:ByteArray)=t2 at*;generalize D[i1].1.kind=k3 at*;generalize D[i1].1.int=z3 at*;generalize (⟨D[i1].1.text.toArray⟩:ByteArray)=t3 at*;generalize D[i].1.kind=k4 at*;generalize D[i].1.int=z4 at*;generalize (⟨D[i].1.text.toArray⟩:ByteArray)=t4 at*;clear hx0 J5 hi1 hi0 b1 b2
       go_region_held3 (fun w'=>w'.cell? ⟨w2.heap.size,1,none⟩=some (.slice (some ⟨gu,0,none⟩) N2 uc)/\w'.cell? ⟨w3.heap.size,1,none⟩=some (.slice (some ⟨gd,0,none⟩) M.length dc)/\w'.cell? ⟨gu,x2*3,none⟩=some (.int .i64 k1)/\w'.cell? ⟨gu,x2*3+1,none⟩=some (.int .i64 z1)/\w'.cell? ⟨gu,x2*3+2,none⟩=some (.string t1)/\w'.cell? ⟨gu,x0*3,none⟩=some (.int .i64 k2)/\w'.cell? ⟨gu,x0*3+1,none⟩=some (.int .i64 z2)/\w'.cell? ⟨gu,x0*3+2,none⟩=some (.string t2)/\w'.cell? ⟨gd,i1*3,none⟩=some (.int .i64 k3)/\w'.cell? ⟨gd,i1*3+1,none⟩=some (.int .i64 z3)/\w'.cell? ⟨gd,i1*3+2,none⟩=some (.string t3)/\w'.cell? ⟨gd,i*3,none⟩=some (.int .i64 k4)/\w'.cell? ⟨gd,i*3+1,none⟩=some (.int .i64 z4)/\w'.cell? ⟨gd,i*3+2,none⟩=some (.string t4)) (go_keep)
         (first
          |(go_at_call 11
            with_reducible refine(HBL1.out _).mono ?_
            rintro x W1 ⟨rfl,hb1⟩;have s0:=(hb1.cell (p:=⟨w2.heap.size,1,none⟩) l1).trans a1;have s1:=(hb1.cell (p:=⟨w3.heap.size,1,none⟩) l2).trans a2;have s2:=(hb1.cell (p:=⟨gu,x2*3,none⟩) lgu).trans u0;have s3:=(hb1.cell (p:=⟨gu,x2*3+1,none⟩) lgu).trans u1;have s4:=(hb1.cell (p:=⟨gu,x2*3+2,none⟩) lgu).trans u2;have s5:=(hb1.cell (p:=⟨gu,x0*3,none⟩) lgu).trans v0;have s6:=(hb1.cell (p:=⟨gu,x0*3+1,none⟩) lgu).trans v1;have s7:=(hb1.cell (p:=⟨gu,x0*3+2,none⟩) lgu).trans v2;have s8:=(hb1.cell (p:=⟨gd,i1*3,none⟩) lgd).trans f0;have s9:=(hb1.cell (p:=⟨gd,i1*3+1,none⟩) lgd).trans f1;have s10:=(hb1.cell (p:=⟨gd,i1*3+2,none⟩) lgd).trans f2;have s11:=(hb1.cell (p:=⟨gd,i*3,none⟩) lgd).trans e0;have s12:=(hb1.cell (p:=⟨gd,i*3+1,none⟩) lgd).trans e1;have s13:=(hb1.cell (p:=⟨gd,i*3+2,none⟩) lgd).trans e2
            have sz1:=hb1.size)
          |(go_at_call 11
            with_reducible refine(HBL2.out _).mono ?_
            rintro x W2 ⟨rfl,hb2⟩;have r0:=(hb2.cell (p:=⟨w2.heap.size,1,none⟩) (nlA l1 sz1)).trans s0;have r1:=(hb2.cell (p:=⟨w3.heap.size,1,none⟩) (nlA l2 sz1)).trans s1;have r2:=(hb2.cell (p:=⟨gu,x2*3,none⟩) (nlA lgu sz1)).trans s2;have r3:=(hb2.cell (p:=⟨gu,x2*3+1,none⟩) (nlA lgu sz1)).trans s3;have r4:=(hb2.cell (p:=⟨gu,x2*3+2,none⟩) (nlA lgu sz1)).trans s4;have r5:=(hb2.cell (p:=⟨gu,x0*3,none⟩) (nlA lgu sz1)).trans s5;have r6:=(hb2.cell (p:=⟨gu,x0*3+1,none⟩) (nlA lgu sz1)).trans s6;have r7:=(hb2.cell (p:=⟨gu,x0*3+2,none⟩) (nlA lgu sz1)).trans s7;have r8:=(hb2.cell (p:=⟨gd,i1*3,none⟩) (nlA lgd sz1)).trans s8;have r9:=(hb2.cell (p:=⟨gd,i1*3+1,none⟩) (nlA lgd sz1)).trans s9;have r10:=(hb2.cell (p:=⟨gd,i1*3+2,none⟩) (nlA lgd sz1)).trans s10;have r11:=(hb2.cell (p:=⟨gd,i*3,none⟩) (nlA lgd sz1)).trans s11;have r12:=(hb2.cell (p:=⟨gd,i*3+1,none⟩) (nlA lgd sz1)).trans s12
            have r13:=(hb2.cell (p:=⟨gd,i*3+2,none⟩) (nlA lgd sz1)).trans s13))
       have HBW:Hid (Below V4.heap.size V4 W2):=(HBr.out.drew.trans (hb1.mono HBr.out.size)).trans (hb2.mono (Nat.le_trans HBr.out.size sz1));clear hb1 hb2;go_wp2_with fail;go_meet;exact⟨rfl,HBW.out⟩
     obtain rfl:i=0:=by omega
     clear hi0
     go_region
     go_wp2_with fail;go_meet;exact⟨rfl,HBr.out.drew⟩
    case rest=>
     obtain⟨rfl,HBx⟩:=hcut;clear u0 u1 u2 e0 e1 e2 lgu lgd a1 a2 a3 l1 l2 l3 MI LQ Lj HC1r MO Nv HBr
     rename World=>wx
     have NR:=hd (HX14.out.below HBx.out HX14.out.lt);have QW:=hd (HX34.out.below HBx.out HX34.out.lt)
     have HC1x:Hid (aQ wx (.slice (some ⟨gu,0,none⟩) N2 uc) (U.flatMap two)):=by rw[<-HN2.out];exact HC14.out.keep fun g hg=>HBx.out.block g (HC14.out.lt g hg)
     have a1:=NR.out.cell 1;have l1:=NR.out.lt;simp at a1;rw[HN2.out]at a1;obtain⟨gu',fM,lgu,u0,u1,u2⟩:=(HC1x.out.two HUR.out.1).1 HX2.out.symm;injection fM with fM;injection fM with fM;subst fM
     go_upto_region 15 with fail
     go_cut[139]from 82 to 181 (fun t wy=>∃f:Bool,t=.bool f/\Hid (Below V4.heap.size V4 wy)/\Hid ((f=true->Mg.Found A U i 0 (U[i]'HUR.out.1).1)/\(f=false->Mg.Found A U i k (U[i]'HUR.out.1).1)))
     case first=>
      by_cases hi0:0<i
      · have p0:(0:Int)<(i:Int):=by omega
        have g0:decide (0<i)=true:=decide_eq_true hi0;have g1:decide ((0:Int)<(i:Int))=true:=decide_eq_true p0;obtain⟨i1,hi1⟩:∃i1,i1+1=i:=⟨i-1,by omega⟩;obtain⟨x0,hx0⟩:∃x0,x0+2=x2:=⟨x2-2,by have:=HX2.out;omega⟩
        have J5:x0=2*i1:=by have:=HX2.out;omega
        have Nh:i1<U.length:=by have:=HUR.out.1;omega
        obtain⟨gu',fM,_,v0,v1,v2⟩:=(HC1x.out.two Nh).1 J5;injection fM with fM;injection fM with fM;subst fM
        have wx0:IntKind.i64.wrap ((x2:Int)-2)=(x0:Int):=by rw[show(x2:Int)-2=(x0:Int) by omega];exact Mk.bH (by omega) (by omega)
        have nx0:x0<N2:=by omega
        have ix0:(x0:Int)<(N2:Int):=by omega
        have HAi:=hd (HU.out.2.1 _ (List.getElem_mem HUR.out.1));have Ri:=hd (HU.out.2.1 _ (List.getElem_mem Nh))
        have HSAME:Hid (U[i].1=U[i1].1->Mg.Found A U i k U[i].1):=fun h=>by
         have:=HIN.out U[i1] hi0 (by rw[show i-1=i1 by omega];exact List.getElem?_eq_getElem Nh);rw[h];exact this
        have HNEW:Hid (U[i].1≠U[i1].1->Mg.Found A U i 0 U[i].1):=fun h=>by
         subst hi1;exact Mg.Found.new HU.out.2.1 HU.out.2.2.1 HUR.out.1 h
        have hq:Hid (U[i].1=U[i1].1)\/Hid (U[i].1≠U[i1].1):=Classical.em _;generalize hv:U[i].1=v at*;generalize hv1:U[i1].1=v1' at*;clear hx0 J5 hi1 hi0 hv hv1;rcases hq with hq|hq
        · have hqq:=hq.out;subst hqq;obtain⟨vk,vz,vt⟩:=v;simp only at u0 u1 u2 v0 v1 v2;generalize (⟨vt.toArray⟩:ByteArray)=T at*;have HS:=hd (HSAME.out rfl);clear HSAME HNEW
          go_region
          all_goals
           go_wp2_with fail;go_meet;exact⟨false,rfl,HBx.out.drew,(fun h=>by cases h),fun _=>HS.out⟩
        have HR:=hd (HNEW.out hq.out);clear HSAME HNEW;rcases HAi.out with h|⟨z,h⟩<;>rcases Ri.out with h'|⟨y,h'⟩<;>subst h<;>subst h'
        · exact absurd rfl hq.out
        all_goals simp only[Mg.aD,Mg.dS]at u0 u1 u2 v0 v1 v2
        rotate_left;rotate_left
        · have hzy:¬z=y:=fun e=>hq.out (by rw[e])
          have Qt:(z==y)=false:=by simpa using hzy
          go_region
          all_goals
           go_wp2_with fail;go_meet;exact⟨true,rfl,HBx.out.drew,fun _=>HR.out,fun h=>by cases h⟩
        all_goals
         go_region
         all_goals
          go_wp2_with fail;go_meet;exact⟨true,rfl,HBx.out.drew,fun _=>HR.out,fun h=>by cases h⟩
      obtain rfl:i=0:=by omega
      have HF0:Hid (Mg.Found A U 0 k (U[0]'HUR.out.1).1):=by show Mg.Found _ _ _ _ _;rw[HZ.out rfl];rfl
      clear hi0
      go_region
      go_wp2_with fail;go_meet;exact⟨false,rfl,HBx.out.drew,(fun h=>by cases h),fun _=>HF0.out⟩
     case rest=>
      obtain⟨f,rfl,HBy,HFF⟩:=hcut;clear u0 u1 u2 lgu a1 l1 NR QW HC1x HBx
      rename World=>wy
      go_upto_if 139 with fail
      go_cut[14]from 82 to 181 (fun v wz=>∃k0:Nat,v=.int .i64 k0/\k0<=M.length/\Hid (Below V4.heap.size V4 wz)/\Hid (Mg.Found A U i k0 (U[i]'HUR.out.1).1))
      case first=>
       cases f
       · have HQ:=hd (HFF.out.2 rfl);clear HFF;go_wp2_with fail;go_meet;exact⟨k,rfl,hk,HBy,HQ⟩
       have HQ:=hd (HFF.out.1 rfl);clear HFF;go_wp2_with fail;go_meet;exact⟨0,rfl,Nat.zero_le _,HBy,HQ⟩
      case rest=>
       obtain⟨k0,rfl,hk0,HBz,HFd⟩:=hcut;clear HFF HBy
       rename World=>wz
       go_wp2_with fail;go_loopw [14] (fun av wr=>∃m:Nat,av=.int .i64 m/\m<=M.length/\Hid (Below V4.heap.size V4 wr)/\Hid (Mg.Found A U i m (U[i]'HUR.out.1).1)) (fun av _=>M.length-(intOf av).toNat)
       case atStart=>exact⟨k0,rfl,hk0,HBz,HFd⟩
       case round=>
        obtain⟨m,rfl,hm,HBm,HFm⟩:=hrel;have hUA:=HU.out.2.2.2 _ (HU.out.2.1 _ (List.getElem_mem HUR.out.1));have hmA:=HFm.out.lt HUR.out.1 hUA;have hAn:=HAL.out.1
        have hmM:m<M.length:=by omega
        have im:(m:Int)<(M.length:Int):=by omega
        have gm:decide (m<M.length)=true:=decide_eq_true hmM;have Pw:=hd (HX14.out.below HBm.out HX14.out.lt);have Qe:=hd (HX34.out.below HBm.out HX34.out.lt)
        have HC1m:Hid (aQ wr (.slice (some ⟨gu,0,none⟩) N2 uc) (U.flatMap two)):=by rw[<-HN2.out];exact HC14.out.keep fun g hg=>HBm.out.block g (HC14.out.lt g hg)
        have HC3m:Hid (aQ wr (.slice la N2 lc) (A.flatMap two)):=by rw[<-HN2.out];exact HC34.out.keep fun g hg=>HBm.out.block g (HC34.out.lt g hg)
        have a1:=Pw.out.cell 1;have a3:=Qe.out.cell 1;have l1:=Pw.out.lt;have l3:=Qe.out.lt;simp at a1 a3;rw[HN2.out]at a1 a3;obtain⟨gu',fM,lgu,u0,u1,u2⟩:=(HC1m.out.two HUR.out.1).1 HX2.out.symm;injection fM with fM;injection fM with fM;subst fM;obtain⟨xm,hxm⟩:∃xm,xm=2*m:=⟨_,rfl⟩;obtain⟨gl,hgl,lgl,c0,c1,c2⟩:=(HC3m.out.two hmA).1 hxm;subst hgl
        have nxm:xm<N2:=by have:=HN2.out;omega
        have ixm:(xm:Int)<(N2:Int):=by omega
        have wxm:IntKind.i64.wrap (2*(m:Int))=(xm:Int):=by rw[show(2*(m:Int))=(xm:Int) by omega];exact Mk.bH (by omega) (by omega)
        have HXM:=hd hxm;have HAi:=hd (HU.out.2.1 _ (List.getElem_mem HUR.out.1));have HAm:=hd (HAL.out.2 _ (List.getElem_mem hmA));have HHIT:=hd (HFm.out.hit HUR.out.1 hUA hmA);have HSKIP:=hd (HFm.out.skip hmA);have HmA:=hd hmA;have HmM:=hd hmM;clear hxm hUA hAn;by_cases hq:(A[m]'hmA).1=(U[i]'HUR.out.1).1
        · have HIT:=hd (HHIT.out hq);have HQ:=hd hq;rw[hq]at c0 c1 c2;generalize (U[i]'HUR.out.1).1.kind=k1 at*;generalize (U[i]'HUR.out.1).1.int=z1 at*;generalize (⟨(U[i]'HUR.out.1).1.text.toArray⟩:ByteArray)=t1 at*;clear hq HHIT HSKIP;go_wp2_with fail
          go_region
          go_wp2_with fail;obtain⟨xm1,Qc⟩:∃xm1,xm1=2*m+1:=⟨_,rfl⟩;obtain⟨x21,PK⟩:∃x21,x21=2*i+1:=⟨_,rfl⟩;obtain⟨gl',CP,_,d0,d1,d2⟩:=(HC3m.out.two HmA.out).2 Qc;injection CP with CP;injection CP with CP;subst CP;obtain⟨gu',fM,_,f0,f1,f2⟩:=(HC1m.out.two HUR.out.1).2 PK;injection fM with fM;injection fM with fM;subst fM;rw[HIT.out.1]at d0 d1 d2
          have nm1:xm1<N2:=by have:=HN2.out;have:=HmM.out;omega
          have im1:(xm1:Int)<(N2:Int):=by omega
          have n21:x21<N2:=by have:=HN2.out;omega
          have i21:(x21:Int)<(N2:Int):=by omega
          have wm1:IntKind.i64.wrap ((xm:Int)+1)=(xm1:Int):=by rw[show((xm:Int)+1)=(xm1:Int) by have:=HXM.out;omega];exact Mk.bH (by omega) (by omega)
          have w21:IntKind.i64.wrap ((x2:Int)+1)=(x21:Int):=by rw[show((x2:Int)+1)=(x21:Int) by have:=HX2.out;omega];exact Mk.bH (by omega) (by omega)
          have gm2:decide (M.length<=m)=false:=decide_eq_false (by have:=HmM.out;omega)
          have im2:¬(M.length:Int)<=(m:Int):=by omega
          generalize (U[i]'HUR.out.1).2.kind=k2 at*;generalize (U[i]'HUR.out.1).2.int=z2 at*;generalize (⟨(U[i]'HUR.out.1).2.text.toArray⟩:ByteArray)=t2 at*;clear Qc PK
          go_region
          clear a1 a3 u0 u1 u2 c0 c1 c2 d0 d1 d2 f0 f1 f2 wm1 w21 gm2 im2 ixm wxm im gm im1 i21 ix2 ww2;go_wp2_with fail;go_roundw
          case rel=>
           have hmm:=HmM.out;refine⟨i+1,m+1,by simp,by simp,by omega,by omega,HBm.out.drew.drew,(fun h=> ?_),fun y _ hy=> ?_⟩
           · exact absurd h (Nat.succ_ne_zero i)
           have hy2:U[i]? =some y:=hy;rw[List.getElem?_eq_getElem HUR.out.1]at hy2;injection hy2 with hy2;subst hy2;exact HIT.out.2
          case measure=>simp[intOf];omega
        have HSK:=hd (HSKIP.out hq);generalize hv:(U[i]'HUR.out.1).1=v at*;generalize hv1:(A[m]'hmA).1=v1' at*;have HNE:=hd hq;clear hq HHIT HSKIP hv hv1;rcases HAi.out with h|⟨z,h⟩<;>rcases HAm.out with h'|⟨y,h'⟩<;>subst h<;>subst h'
        · exact absurd rfl HNE.out
        all_goals simp only[Mg.aD,Mg.dS]at u0 u1 u2 c0 c1 c2
        rotate_left;rotate_left
        · have hzy:¬y=z:=fun e=>HNE.out (by rw[e])
          have Qt:(y==z)=false:=by simpa using hzy
          go_wp2_with fail
          go_region
          go_wp2_with fail;go_roundw
          case rel=>exact⟨m+1,by go_num,by have:=HmM.out;omega,HBm.out.drew,HSK⟩
          case measure=>have:=HmM.out;simp[intOf];omega
        all_goals
         go_wp2_with fail
         go_region
         go_wp2_with fail;go_roundw
         case rel=>exact⟨m+1,by go_num,by have:=HmM.out;omega,HBm.out.drew,HSK⟩
         case measure=>have:=HmM.out;simp[intOf];omega
  have hM60:=hM;have HSr:=hd (HS4.out.below HBr.out);have HEr:=hd (HE4.out.below HBr.out);have HWr:Hid (Below w.heap.size w wr):=HB4.out.trans (HBr.out.mono HB4.out.size);have HDr:=hd (HED.out.below HWr.out);obtain⟨np,hnp⟩:∃np,M.length+2=np:=⟨_,rfl⟩
  have wnp:IntKind.i64.wrap ((M.length:Int)+2)=(np:Int):=by rw[show((M.length:Int)+2)=(np:Int) by omega];exact Mk.bH (by omega) (by omega)
  clear a1 a2 a3;go_wp2_with fail;refine(Mk.ib q np _ hq1 hq2 (by omega) (by omega)).mono ?_;rintro x w5 ⟨r,hr,rfl,rfl⟩;rename_i w5;go_wp2_with fail;have HI:=hd (Tryz.strconv_Itoa (r:Int) (by omega) (by omega) w5 HDr.out.tab);refine HI.out.mono ?_;rintro x w6 ⟨rfl,kk,os,hw⟩
  have HB6:Hid (Below w5.heap.size w5 w6):=by show Below _ _ _;rw[hw];exact Lib.below_grow _ w5 (nlr _) kk os
  clear hw HI wnp;rw[Bo (r:Int) (by omega) (by omega)]
  have HS:Hid ((⟨(Px.iW (r:Int)).toArray⟩:ByteArray).data.toList=Px.iW (r:Int)):=by show _=_;simp
  have hsz:(⟨(Px.iW (r:Int)).toArray⟩:ByteArray).size<=21:=by
   show(Px.iW (r:Int)).toArray.size<=21;rw[List.size_toArray];have:=Px.xO 20 (r:Int).natAbs;unfold Px.iW;rw[if_neg (by omega)];omega
  have hmx:100000<=maxLen:=by decide
  generalize (⟨(Px.iW (r:Int)).toArray⟩:ByteArray)=S at*;have HS6:=hd (HSr.out.below HB6.out);have HE6:=hd (HEr.out.below HB6.out);have HW6:Hid (Below w.heap.size w w6):=HWr.out.trans (HB6.out.mono HWr.out.size);have H46:Hid (Below V4.heap.size V4 w6):=HBr.out.trans (HB6.out.mono HBr.out.size);have Qk:=hd (HX14.out.below H46.out HX14.out.lt)
  have HC16:Hid (aQ w6 (.slice ua (2*M.length) uc) (U.flatMap two)):=HC14.out.keep fun g hg=>H46.out.block g (HC14.out.lt g hg)
  clear MI LQ Lj HC1r MO Nv HSr HEr HDr l1 l2 l3 HX24 HX34 HC24 HC34 HG2 HG3 HAL HZ HIN HA HRA HD;go_wp2_with fail
  have HASK:=hd (Lb [some Px.nA,some Px.nB] [(Px.nA,false)] (some r) ((⟨Px.IE.toArray⟩:ByteArray)++S) (by
      have e:((⟨Px.IE.toArray⟩:ByteArray)++S).data.toList=Px.IE++Px.iW (r:Int):=by simp[HS.out]
      rw[e];exact Px.Gg r (by omega)) (by rw[ByteArray.size_append];show 36+S.size<=maxLen;omega) HE6.out HS6.out ⟨by simp,by simp,by simp⟩ (fun d hd=>by simp[Mg.iU,Tb.aC,Tb.itE,Tb.demW]at hd;rcases hd with rfl|rfl|rfl<;>(show([_]:Lx.Bs).length<=30;decide)) rfl _ (Mg.AB HR3.out))
  refine HASK.out.mono ?_;rintro x w7 ⟨hT7,hS7,xs4,sa,sn,sc,hs4,ht4,rfl,hsn,hC4,hg4⟩;obtain rfl:xs4=U.map Mg.wK:=So.only (Mg.Ed [false]).swo hs4 Pm.out ht4 Qj.out;rw[if_pos (show(some r).isSome=true from rfl),Option.getD_some,Mg.JL]at hsn hC4;have hUn:=HU.out.1;have hfl:=jV U
  have O1:sn=min (2*r) (2*M.length):=by
   rw[List.length_take,show(U.flatMap fun z=>[z.1,z.2])=U.flatMap two from rfl]at hsn;omega
  have hw7:(((Tb.aC Px.cO [some Px.nA,some Px.nB]).length:Nat):Int)=2:=rfl;have HB7:Hid (Below w.heap.size w (w7.alloc (.cells #[.int .i64 2,.slice sa sn sc,.int .i64 0] 29))):=(jb HW6.out hT7 hbw).alloc (jb HW6.out hT7 hbw).size _
  have HN7:Hid (Below w7.heap.size w7 (w7.alloc (.cells #[.int .i64 2,.slice sa sn sc,.int .i64 0] 29))):=by show Below _ _ _;go_grown
  have HX17:=hd ((hT7.blk Qk.out (by simp;omega)).alloc (.cells #[.int .i64 2,.slice sa sn sc,.int .i64 0] 29));have HX57:=hd (af.new w7 #[.int .i64 2,.slice sa sn sc,.int .i64 0] 29)
  have HC17:Hid (aQ (w7.alloc (.cells #[.int .i64 2,.slice sa sn sc,.int .i64 0] 29)) (.slice ua (2*M.length) uc) (U.flatMap two)):=HC16.out.keep fun g hg=>(HN7.out.block g (nlA (HC16.out.lt g hg) hT7.size)).trans (hT7.block g (HC16.out.lt g hg) (by simp;exact HG1.out g hg))
  have HC57:=hd (hC4.keep fun g hg=>HN7.out.block g (hC4.lt g hg));have HSN:=hd O1;clear hT7 hS7 hs4 ht4 hsn hC4 hg4 HASK HS6 HE6 Qk HC16 Pm Qj HS hUn hfl O1;rw[hw7];clear hw7;obtain⟨N2,hN2⟩:∃N2,2*M.length=N2:=⟨_,rfl⟩;obtain⟨r2,hr2⟩:∃r2,2*r=r2:=⟨_,rfl⟩
  have wN2:IntKind.i64.wrap (2*(M.length:Int))=(N2:Int):=by rw[show(2*(M.length:Int))=(N2:Int) by omega];exact Mk.bH (by omega) (by omega)
  have wr2:IntKind.i64.wrap (2*(r:Int))=(r2:Int):=by rw[show(2*(r:Int))=(r2:Int) by omega];exact Mk.bH (by omega) (by omega)
  have hS2:sn=min r2 N2:=by have:=HSN.out;omega
  have ng:¬(r2:Int)<(sn:Int):=by omega
  have HQS:Hid (sn<=N2):=by show _<=_;omega
  have HR2:Hid (sn<=2*r):=by show _<=_;omega
  have HNN:Hid (2*M.length=N2):=hN2;have HSV:=hd hS2;clear hnp hr HSN hS2 hN2 hr2
  go_upto_region 24 with fail
  generalize w7.alloc (.cells #[.int .i64 2,.slice sa sn sc,.int .i64 0] 29)=V7 at*;have k5:=HX57.out.cell 1;have l5:=HX57.out.lt;simp at k5
  go_cut[219]from 194 (fun t wx=>t=.bool false/\V7=wx)
  case first=>
   have ng1:decide (r2<sn)=false:=decide_eq_false (by have:=HSV.out;omega);by_cases hsN:sn=N2
   · have q1:((sn:Int) !=(N2:Int))=false:=by simp[hsN]
     have q2:(sn !=N2)=false:=by simp[hsN]
     have HH:=hd hsN;clear hsN;go_wp2_with fail;go_meet;exact⟨rfl,by first|rfl|trivial⟩
   have hsR:sn=r2:=by have:=HSV.out;omega
   have q1:((sn:Int) !=(N2:Int))=true:=by simp;omega
   have q2:(sn !=N2)=true:=by simpa using hsN
   have q3:((sn:Int) !=(r2:Int))=false:=by simp[hsR]
   have q4:(sn !=r2)=false:=by simp[hsR]
   clear hsN hsR;go_wp2_with fail;go_meet;exact⟨rfl,by first|rfl|trivial⟩
  case rest=>
   obtain⟨rfl,rfl⟩:=hcut;clear wN2 wr2 ng k5 l5;go_wp2_with fail;go_loopw [19] (fun jv wr=>∃j:Nat,jv=.int .i64 j/\j<=sn/\Hid (Below V7.heap.size V7 wr)) (fun jv _=>sn-(intOf jv).toNat)
   case atStart=>exact⟨0,rfl,Nat.zero_le _,Below.refl _ _⟩
   case round=>
    obtain⟨j,rfl,hj,HBj⟩:=hrel;have Ps:=hd (HX17.out.below HBj.out HX17.out.lt);have P6:=hd (HX57.out.below HBj.out HX57.out.lt)
    have RB:Hid (aQ wr (.slice ua (2*M.length) uc) (U.flatMap two)):=HC17.out.keep fun g hg=>HBj.out.block g (HC17.out.lt g hg)
    have QV:=hd (HC57.out.keep fun g hg=>HBj.out.block g (HC57.out.lt g hg));have k1:=Ps.out.cell 1;have k5:=P6.out.cell 1;have l1:=Ps.out.lt;have l5:=P6.out.lt;simp at k1 k5;by_cases hjs:j<sn
    · have hfl:(U.flatMap two).length=2*M.length:=by rw[jV,HU.out.1]
      have hjt:j<((U.flatMap fun z=>[z.1,z.2]).take (2*r)).length:=by
       rw[List.length_take,show(U.flatMap fun z=>[z.1,z.2])=U.flatMap two from rfl,hfl];have:=HQS.out;have:=HR2.out;have:=HNN.out;omega
      have hjN:j<(U.flatMap two).length:=by rw[hfl];have:=HQS.out;have:=HNN.out;omega
      obtain⟨hz1,gs,hgs,lgs,c0,c1,c2⟩:=QV.out.at j hjt;obtain⟨hz2,gu,hgu,lgu,u0,u1,u2⟩:=RB.out.at j hjN;clear hz1 hz2;have he:((U.flatMap fun z=>[z.1,z.2]).take (2*r))[j]=(U.flatMap two)[j]:=List.getElem_take;rw[he]at c0 c1 c2;generalize (U.flatMap two)[j]=v at*;obtain⟨vk,vz,vt⟩:=v;simp only at u0 u1 u2 c0 c1 c2;generalize (⟨vt.toArray⟩:ByteArray)=T at*
      have nj:j<2*M.length:=by omega
      have ij:(j:Int)<2*(M.length:Int):=by omega
      have ij2:(j:Int)<(sn:Int):=by omega
      subst hgs;subst hgu;clear hfl hjt hjN he;go_wp2_with fail
      go_region
      go_wp2_with fail;go_roundw
      case rel=>exact⟨j+1,by go_num,by omega,HBj.out.drew⟩
      case measure=>simp[intOf];omega
    go_wp2_with fail;go_ret;exact⟨rfl,HB7.out.trans (HBj.out.mono HB7.out.size)⟩
end Kp
end
end Go.Proofs.YthhhfcdakfbpkaaGreatDoor
