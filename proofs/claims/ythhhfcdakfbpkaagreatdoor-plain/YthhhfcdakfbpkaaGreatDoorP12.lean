/- Parts of the proof -/
import Derived.Test.YthhhfcdakfbpkaaGreatDoorP11
import Derived.Test.YthhhfcdakfbpkaaGreatDoorP5
import Derived.Deep.RegionLaw
import Derived.Lib.SliceRun
import Derived.Shelf.RegionOpenPlain
namespace Go.Proofs.YthhhfcdakfbpkaaGreatDoor
set_option linter.unusedSimpArgs false
set_option linter.unusedVariables false
set_option maxRecDepth 100000
set_option maxHeartbeats 16000000
open Go.RowKit
variable {w w':World}
section
namespace Tb
open Bt
def mU(w:World)(v:Value)(l:List (List Px.E)):Prop:=∃vs,w.ownsRow 0 132 1 v l.length vs/\∀(k:Nat) (h:k<l.length),∃u,vs[k]? =some u/\w.ownsRow 0 98 1 u l[k].length (l[k].flatMap gI)
theorem mU.below{v:Value}{l:List (List Px.E)}(h:mU w v l)(hb:Below w.heap.size w w'):mU w' v l:=by
 obtain⟨vs,h1,h2⟩:=h;refine⟨vs,dA h1 hb,fun k hk=> ?_⟩;obtain⟨u,h3,h4⟩:=h2 k hk;exact⟨u,h3,dA h4 hb⟩
def QD(w:World)(r:Except Nat (List (Px.E×Nat)))(x:Ending)(w':World):Prop:=Below w.heap.size w w'/\match r with
 |.ok ds=>∃u,x=.returned u/\w'.ownsRow w.heap.size 191 2 u ds.length (ds.flatMap eu)
 |.error c=>x=ku 0 c
def mf(cs:Mg.ax)(l:List (List Px.E)):Except Nat (List (Px.E×Nat)):=if l.all (fun r=>r.length==cs.length)=true then .ok (Mg.aN cs l)else .error 9
theorem IK{cs:Mg.ax}{l:List (List Px.E)}{r:List Px.E}(h:r∈l)(hr:r.length≠cs.length):mf cs l=.error 9:=by
 unfold mf;rw[if_neg];intro ha;have:=List.all_eq_true.1 ha r h;simp at this;exact hr this
theorem oD(cs:Mg.ax)(hcs:Mg.dJ cs)(sv:Value)(l:List (List Px.E))(hl:l.length<=1000000)(hn:(Mg.aN cs l).length<=1000000)(hn2:∀r∈l,r.length<=1000000)(p:Nat)(v:Value)(w:World)(hp:p<w.heap.size)(hpc:w.cell? ⟨p,0,none⟩=some sv)(hC:Mn.aL w sv cs)(hR:mU w v l):
   Calls Tryz.prog 79 #[.pointer (some ⟨p,0,none⟩),v] w (QD w (mf cs l)):=by
 obtain⟨i0,hi,hz0,hz1,hz2⟩:=info_parts Tryz.info191;obtain⟨vs,hv1,hv2⟩:=hR;obtain⟨ao,cap,rfl,hVV⟩:=dm hv1;have HVS:=hd hVV;have HV2:=hd hv2;have HCA:=hd hC;obtain⟨so,sc,rfl,_⟩:=hC;have HCS:=hd hcs
 have HTK:Hid (∀k,(Mg.aN cs (l.take k)).length<=1000000):=fun k=>by
  refine Nat.le_trans ?_ hn
  conv=>rhs;rw[<-List.take_append_drop k l]
  unfold Mg.aN;rw[List.flatMap_append,List.length_append];omega
 have HN2:=hd hn2;clear hVV hv1 hv2 hcs hn hn2;go_enter Tryz.func79,Tryz.ntmps79;go_wp2_with fail;go_loopw [5,12] (fun v i wr=>∃(k n:Nat),i=.int .i64 k/\k<=l.length/\Hid (n=(Mg.aN cs (l.take k)).length)/\Hid (Below w.heap.size w wr)/\Hid ((l.take k).all (fun r=>r.length==cs.length)=true)/\Hid (wr.ownsRow w.heap.size 191 2 v n ((Mg.aN cs (l.take k)).flatMap eu))) (fun _ i _=>l.length-(intOf i).toNat)
 case atStart=>exact⟨0,0,rfl,Nat.zero_le _,by show _=_;simp[Mg.aN],Below.refl _ _,by show _=_;simp,World.ownsRow_nil _ _ _ _⟩
 case round=>
  obtain⟨k,n,rfl,hk,HN,HW,HAL,HO⟩:=hrel;obtain⟨va,vc,rfl⟩:=au HO.out;by_cases hlt:k<l.length
  · obtain⟨u,hu1,hu2⟩:=HV2.out k hlt;obtain⟨g,hao,hg,c0⟩:=HVS.out k u hu1;obtain⟨uo,uc,rfl,hUU⟩:=dm hu2;have d0:=(HW.out.cell (p:=⟨g,k,none⟩) hg).trans c0;have hg2:=nlA hg HW.out.size;have e0:=(HW.out.cell (p:=⟨p,0,none⟩) hp).trans hpc;have hp2:=nlA hp HW.out.size;have HUU:=hd hUU;have HME:=hd (List.getElem_mem hlt);have HCU:=hd (gH l k hlt).1;have hT1:=HTK.out (k+1)
    have hn1:n<=1000000:=by have:=HTK.out k;have:=HN.out;omega
    have hrl:=HN2.out l[k] (List.getElem_mem hlt);generalize l[k]=r at*;clear c0 hu1 hu2 hUU;subst hao;by_cases hrc:r.length=cs.length
    · have q1:(((r.length:Int))==((cs.length:Int)))=true:=by simp[hrc]
      have HLE:Hid (n+r.length=(Mg.aN cs (l.take (k+1))).length/\Mg.aN cs (l.take (k+1))=Mg.aN cs (l.take k)++Mg.fw cs r):=by
       show _/\_;rw[HCU.out,HN.out];unfold Mg.aN;rw[List.flatMap_append];simp[Mg.ni hrc]
      have hlim:n+r.length<=1000000:=by have:=HLE.out.1;omega
      have QH:Hid ((l.take (k+1)).all (fun r=>r.length==cs.length)=true):=uf HCU.out HAL.out (by simp[hrc]);have HRC:=hd hrc;clear hrc;go_wp2_with fail;refine(iE _ _).mono ?_;rintro x wr ⟨rfl,rfl⟩;go_wp2_with fail;go_loopw [5,27] (fun v i wr'=>∃(j:Nat),i=.int .i64 j/\j<=r.length/\Hid (Below w.heap.size w wr')/\Hid (wr'.ownsRow w.heap.size 191 2 v (n+j) ((Mg.aN cs (l.take k)++(Mg.fw cs r).take j).flatMap eu))) (fun _ i _=>r.length-(intOf i).toNat)
      case atStart=>exact⟨0,rfl,Nat.zero_le _,HW,by show World.ownsRow _ _ _ _ _ _ _;simpa using HO.out⟩
      case round=>
       obtain⟨j,rfl,hj,HV,HP⟩:=hrel;obtain⟨ua,uc',rfl⟩:=au HP.out;by_cases hjl:j<r.length
       · have hjc:j<cs.length:=by rw[<-HRC.out];exact hjl
         obtain⟨gu,huo,hgu,x0⟩:=HUU.out j _ (yO r j hjl);have y0:=(HV.out.cell (p:=⟨gu,j,none⟩) hgu).trans x0;have hgu2:=nlA hgu HV.out.size;obtain⟨et,ex,hev⟩:=fZ r[j];have HJ:=hd (Mg.Fj HRC.out j hjl hjc);have HTA:=hd (CQ cs HCS.out _ p j hjc wr (nlA hp HV.out.size) ((HV.out.cell (p:=⟨p,0,none⟩) hp).trans hpc) (HCA.out.below HV.out));generalize r[j]=e at*;generalize cs[j].2%4=ct at*;rw[hev]at y0;have HEV:=hd hev;clear x0 hev;subst huo;have HO2:=hd (HP.out.alloc (.cells #[.iface et ex,.int .i64 (ct:Int)] 191));go_wp2_with fail;refine HTA.out.mono ?_;rintro x wr ⟨rfl,rfl⟩
         go_wp2_with(first
          |(at_builtin;refine bu rfl _ _ 172 rfl w.heap.size 191 i0 (.agg #[.nilIface,.int .i64 0]) 2 24 Tryz.underlying172 hi hz0 hz1 hz2 rfl (by decide) _ _ _ rfl HO2.out ⟨wr.heap.size,0,none⟩ 1 1 [.iface et ex,.int .i64 (ct:Int)] rfl rfl ?c1 ?c2 ?c3 ?c4 ?c5 ?_)
          |fail)
         case c1=>exact zF wr _ _ _
         case c2=>intro u hu;simp at hu;rcases hu with rfl|rfl<;>rfl
         case c3=>simp only[maxLen];omega
         case c4=>omega
         case c5=>have:=HV.out.size;simp;omega
         intro v' w3 hown hgrow _;have HB3:Hid (Below w.heap.size w w3):=dB (HV.out.alloc HV.out.size _) hgrow (fun k hk=>(HO2.out.lt k hk).1) (by have:=HV.out.size;simp;omega)
         have HO3:Hid (w3.ownsRow w.heap.size 191 2 v' (n+(j+1)) ((Mg.aN cs (l.take k)++(Mg.fw cs r).take (j+1)).flatMap eu)):=by
          show World.ownsRow _ _ _ _ _ _ _;rw[HJ.out];simp only[List.flatMap_append,List.flatMap_cons,List.flatMap_nil,List.append_nil];rw[show eu (e,ct)=[.iface et ex,.int .i64 (ct:Int)]from by simp[eu,HEV.out]];rw[<-Nat.add_assoc,<-laa]
          first|exact hown|simpa using hown
         obtain⟨va',vc',rfl⟩:=au hown;clear hown hgrow HO2;go_wp2_with fail;go_roundw
         case rel=>exact⟨j+1,rfl,by omega,HB3,HO3⟩
         case measure=>simp[intOf];omega
       obtain rfl:j=r.length:=by omega
       have HO4:Hid (wr.ownsRow w.heap.size 191 2 (.slice ua (n+r.length) uc') (n+r.length) ((Mg.aN cs (l.take (k+1))).flatMap eu)):=by
        show World.ownsRow _ _ _ _ _ _ _;rw[HLE.out.2];have:=HP.out
        rwa [List.take_of_length_le (l:=Mg.fw cs r) (by rw[Mg.ni HRC.out];exact nlr _)]at this
       clear HP;go_wp2_with fail;go_roundw
       case rel=>exact⟨k+1,n+r.length,rfl,by omega,HLE.out.1,HV,QH,HO4⟩
       case measure=>simp[intOf];omega
    have q1:(((r.length:Int))==((cs.length:Int)))=false:=by simp;omega
    have HB:=hd (IK HME.out hrc);clear hrc;go_wp2_with fail;refine(Es _).mono ?_;rintro x wr ⟨rfl,rfl⟩;exact⟨rfl,HW.out,by rw[HB.out];rfl⟩
  obtain rfl:k=l.length:=by omega
  have HOK:Hid (mf cs l=.ok (Mg.aN cs l)):=by show _=_;have:=HAL.out;rw[List.take_length]at this;unfold mf;rw[if_pos this]
  have HO4:Hid (wr.ownsRow w.heap.size 191 2 (.slice va n vc) (Mg.aN cs l).length ((Mg.aN cs l).flatMap eu)):=by
   show World.ownsRow _ _ _ _ _ _ _;have h1:=HO.out;have h2:=HN.out;rw[List.take_length]at h1 h2;rw[<-h2];exact h1
  clear HO;go_wp2_with fail;go_ret;exact⟨HW.out,by rw[HOK.out];exact⟨_,rfl,HO4.out⟩⟩
end Tb
end
namespace Bt
def eB(M:List (Int×Value)):List (Value×Value):=M.map fun e=>(.int .i64 e.1,e.2)
theorem H8(M:List (Int×Value))(i:Nat)(h:i<M.length):(flatE (eB M))[i*2]? =some (.int .i64 M[i].1):=by
 rw[gT _ i (by simpa[eB]using h)];simp[eB]
theorem Ic(M:List (Int×Value))(i:Nat)(h:i<M.length):(flatE (eB M))[i*2+1]? =some M[i].2:=by
 rw[gX _ i (by simpa[eB]using h)];simp[eB]
def Cr(M:List (Int×Value)):Prop:=M.Pairwise fun a b=>a.1<b.1
def cnt(M:List (Int×Value))(z:Int):Nat:=M.countP fun e=>decide (e.1<z)
def has(M:List (Int×Value))(z:Int):Bool:=M.any fun e=>e.1==z
theorem qh(M:List (Int×Value))(z:Int):cnt M z<=M.length:=List.countP_le_length
theorem Cr.parts{M:List (Int×Value)}(h:Cr M)(z:Int):(∀(t:Nat) (k:t<M.length),t<cnt M z->M[t].1<z)/\(∀(t:Nat) (k:t<M.length),cnt M z<=t->z<=M[t].1):=by
 have H:=List.pairwise_iff_getElem.1 h
 induction M with
 |nil=>exact⟨fun t k=>by simp at k,fun t k=>by simp at k⟩
 |cons a r ih=>
  have hr:Cr r:=h.of_cons;have ihr:=ih hr (List.pairwise_iff_getElem.1 hr);by_cases ha:a.1<z
  · have hc:cnt (a::r) z=cnt r z+1:=by unfold cnt;rw[List.countP_cons_of_pos (by simpa using ha)]
    rw[hc]
    constructor
    · intro t k ht
      cases t with
      |zero=>exact ha
      |succ t=>exact ihr.1 t (by simpa using k) (by omega)
    intro t k ht
    cases t with
    |zero=>omega
    |succ t=>exact ihr.2 t (by simpa using k) (by omega)
  have h0:∀x∈r,¬x.1<z:=fun x hx=>by
   have:=List.rel_of_pairwise_cons h hx;omega
  have hc:cnt (a::r) z=0:=by
   unfold cnt;rw[List.countP_eq_zero];intro x hx;rcases List.mem_cons.1 hx with rfl|hx
   · simpa using ha
   simpa using h0 x hx
  rw[hc];refine⟨fun t k ht=>by omega,fun t k _=> ?_⟩;have:=List.getElem_mem k;rcases List.mem_cons.1 this with h1|h1
  · rw[h1];omega
  have:=h0 _ h1;omega
theorem Ml{M:List (Int×Value)}(h:Cr M)(z:Int):has M z=(decide (cnt M z<M.length)&&(if k:cnt M z<M.length then M[cnt M z].1==z else false)):=by
 obtain⟨h1,h2⟩:=h.parts z;by_cases hc:cnt M z<M.length
 · rw[dif_pos hc,decide_eq_true hc,Bool.true_and]
   cases hh:M[cnt M z].1==z with
   |true=>exact List.any_eq_true.2 ⟨_,List.getElem_mem hc,hh⟩
   |false=>
    refine Bool.eq_false_iff.2 fun hx=> ?_
    obtain⟨x,hm,hxz⟩:=List.any_eq_true.1 hx;obtain⟨t,ht,rfl⟩:=List.getElem_of_mem hm;simp at hxz hh;have a1:=h1 t ht;have a2:=h2 _ hc (nlr _);have H:=List.pairwise_iff_getElem.1 h;rcases Nat.lt_trichotomy t (cnt M z)with h3|h3|h3
    · have:=a1 h3;omega
    · subst h3;exact hh hxz
    have:=H _ _ hc ht h3;omega
 rw[dif_neg hc,decide_eq_false hc,Bool.false_and]
 refine Bool.eq_false_iff.2 fun hx=> ?_
 obtain⟨x,hm,hxz⟩:=List.any_eq_true.1 hx;obtain⟨t,ht,rfl⟩:=List.getElem_of_mem hm;simp at hxz;have:=h1 t ht (by omega);omega
theorem xH(a z:Int)(v:Value)(ra:Option Addr)(rn rc:Nat)(w:World)(hv:v=.slice ra rn rc):Calls Tryz.prog 260 #[.agg #[.int .i64 a,v],.int .i64 z] w fun x w'=>x=.returned (.int .i64 (Mg.jb a z))/\Below w.heap.size w w':=by
 subst hv
 have HB:Hid (Below w.heap.size w (w.alloc (.cells #[.int .i64 a,.slice ra rn rc] 265))):=by show Below _ _ _;go_grown
 go_enter Tryz.func260,Tryz.ntmps260;go_wp2_with fail;refine(Mn.BV _ _ _).mono ?_;rintro x w1 ⟨rfl,rfl⟩;go_wp2_with fail;go_ret;exact⟨rfl,HB.out⟩
def Rows(M:List (Int×Value)):Prop:=∀e∈M,∃ra rn rc,e.2=.slice ra rn rc
theorem Ey(a b:Int):Mg.jb a b<0↔a<b:=by unfold Mg.jb;split<;>(try split)<;>omega
theorem K8(a b:Int):(Mg.jb a b==0)=(a==b):=by
 unfold Mg.jb;rcases Int.lt_trichotomy a b with h|h|h
 · rw[if_pos h];simp;omega
 · subst h;simp
 rw[if_neg (by omega),if_pos h];simp;omega
theorem DV(M:List (Int×Value))(z:Int)(ve:Value)(w:World)(hs:Cr M)(hr:Rows M)(hn:M.length<=1000000)(ho:w.ownsRow 0 265 2 ve M.length (flatE (eB M))):
   Calls Tryz.prog 259 #[ve,.int .i64 z,.func (.func 260) #[] #[]] w fun x w'=>x=.returned (.tuple #[.int .i64 (cnt M z:Nat),.bool (has M z)])/\Below w.heap.size w w':=by
 have HS:=hd hs;have HR:=hd hr;have HP:=hd (hs.parts z);have HH:=hd (Ml hs z);have HCL:=hd (qh M z);obtain⟨ao,cp,rfl⟩:=au ho
 have HC:Hid (∀(t:Nat) (k:t<M.length),∃g,ao=some ⟨g,0,none⟩/\g<w.heap.size/\w.cell? ⟨g,t*2,none⟩=some (.int .i64 M[t].1)/\w.cell? ⟨g,t*2+1,none⟩=some M[t].2):=by
  show∀_,_;intro t k;obtain⟨g,c,hv,_,hg,_,_,hcl⟩:=yV ho (by omega);injection hv with hv;exact⟨g,hv,hg,hcl _ _ (H8 M t k),hcl _ _ (Ic M t k)⟩
 clear ho hs hr;generalize hcnt:cnt M z=cz at*;generalize hhas:has M z=hz at*;go_enter Tryz.func259,Tryz.ntmps259;go_wp2_with fail;go_loopw [9,10] (fun i j wr=>∃a b:Nat,i=.int .i64 a/\j=.int .i64 b/\a<=cz/\cz<=b/\b<=M.length/\Hid (Below w.heap.size w wr)) (fun i j _=>(intOf j).toNat-(intOf i).toNat)
 case atStart=>exact⟨0,M.length,rfl,rfl,by omega,HCL.out,nlr _,Below.refl _ _⟩
 case round=>
  obtain⟨a,b,rfl,rfl,ha,hb,hbn,HW⟩:=hrel;by_cases hab:a<b
  · have hm:(a+b)/2<M.length:=by omega
    obtain⟨g,hve,hg,c0,c1⟩:=HC.out _ hm;have d0:=(HW.out.cell (p:=⟨g,(a+b)/2*2,none⟩) hg).trans c0;have d1:=(HW.out.cell (p:=⟨g,(a+b)/2*2+1,none⟩) hg).trans c1;obtain⟨ra,rn,rc,hrow⟩:=HR.out _ (List.getElem_mem hm);rw[hrow]at d1;have HP1:=hd (HP.out.1 _ hm);have HP2:=hd (HP.out.2 _ hm);have hg2:=nlA hg HW.out.size;subst hve;generalize M[(a+b)/2].1=y at*;clear c0 c1 hrow;go_wp2_with fail;refine(xH y z _ ra rn rc _ rfl).mono ?_;rintro x w1 ⟨rfl,hb1⟩;have HW1:Hid (Below w.heap.size w w1):=HW.out.trans (hb1.mono HW.out.size);clear hb1;by_cases hy:y<z
    · have hlt:Mg.jb y z<0:=(Ey _ _).2 hy
      have hc2:(a+b)/2<cz:=by
       rcases Nat.lt_or_ge ((a+b)/2) cz with h|h
       · exact h
       have:=HP2.out h;omega
      generalize Mg.jb y z=o at*;go_wp2_with fail;go_roundw
      case rel=>exact⟨(a+b)/2+1,b,by go_num,rfl,by omega,hb,hbn,HW1⟩
      case measure=>simp[intOf];omega
    have hlt:¬Mg.jb y z<0:=fun h=>hy ((Ey _ _).1 h)
    have hc2:cz<=(a+b)/2:=by
     rcases Nat.lt_or_ge ((a+b)/2) cz with h|h
     · have:=HP1.out h;omega
     exact h
    generalize Mg.jb y z=o at*;go_wp2_with fail;go_roundw
    case rel=>exact⟨a,(a+b)/2,rfl,by go_num,ha,hc2,by omega,HW1⟩
    case measure=>simp[intOf];omega
  obtain rfl:b=a:=by omega
  obtain rfl:b=cz:=by omega
  by_cases hm:b<M.length
  · obtain⟨g,hve,hg,c0,c1⟩:=HC.out _ hm;have d0:=(HW.out.cell (p:=⟨g,b*2,none⟩) hg).trans c0;have d1:=(HW.out.cell (p:=⟨g,b*2+1,none⟩) hg).trans c1;obtain⟨ra,rn,rc,hrow⟩:=HR.out _ (List.getElem_mem hm);rw[hrow]at d1;have hg2:=nlA hg HW.out.size
    have HHZ:Hid (hz=(M[b].1==z)):=by show _=_;rw[HH.out,dif_pos hm,decide_eq_true hm,Bool.true_and]
    subst hve;generalize M[b].1=y at*;clear c0 c1 hrow;go_wp2_with fail;refine(xH y z _ ra rn rc _ rfl).mono ?_;rintro x w1 ⟨rfl,hb1⟩;have HW1:Hid (Below w.heap.size w w1):=HW.out.trans (hb1.mono HW.out.size);clear hb1;have hq:=K8 y z;generalize Mg.jb y z=o at*;go_wp2_with fail
    go_ret2
    exact⟨by rw[HHZ.out,<-hq];rfl,HW1.out⟩
  have HHZ:Hid (hz=false):=by show _=_;rw[HH.out,dif_neg hm];simp
  go_wp2_with fail
  go_ret2
  exact⟨by rw[HHZ.out];rfl,HW.out⟩
end Bt
namespace Bt
theorem Bi(M:List (Int×Value))(z:Int)(ve:Value)(b off:Nat)(w:World)(hb:b<w.heap.size)(c0:w.cell? ⟨b,off,none⟩=some ve)(hs:Cr M)(hr:Rows M)(hn:M.length<=1000000)(ho:w.ownsRow 0 265 2 ve M.length (flatE (eB M))):
   Calls Tryz.prog 203 #[.pointer (some ⟨b,off,none⟩),.int .i64 z] w fun x w'=>x=.returned (.tuple #[.int .i64 (cnt M z:Nat),.bool (has M z)])/\Below w.heap.size w w':=by
 have HS:=hd (DV M z ve w hs hr hn ho);obtain⟨ao,cp,rfl⟩:=au ho;clear ho hs hr;go_enter Tryz.func203,Tryz.ntmps203;go_wp2_with fail;refine HS.out.mono ?_;rintro x w1 ⟨rfl,h1⟩;have HB:=hd h1;clear h1;go_wp2_with fail
 go_ret2
 exact⟨rfl,HB.out⟩
theorem mM(ve:Value)(n:Nat)(xs:List Value)(z:Int)(ra:Option Addr)(rn rc:Nat)(g:Nat)(w:World)(hn:n<=1000000)(ho:w.ownsRow 0 265 2 ve n xs)(hg:g<w.heap.size)(e0:w.cell? ⟨g,0,none⟩=some (.int .i64 z))(e1:w.cell? ⟨g,1,none⟩=some (.slice ra rn rc)):
   Calls Tryz.prog 204 #[ve,.int .i64 n,.slice (some ⟨g,0,none⟩) 1 1] w fun x w'=>∃v,x=.returned v/\w'.ownsRow 0 265 2 v (n+1) (xs++[.int .i64 z,.slice ra rn rc])/\w.grownBy w' ve.ownBlock/\∀k∈own v,k∈own ve\/w.heap.size<=k:=by
 obtain⟨i0,hi,hz0,hz1,hz2⟩:=info_parts Ti.Tryz.info265
 have HC:Hid (∀j u,([.int .i64 z,.slice ra rn rc]:List Value)[j]? =some u->w.cell? ((⟨g,0,none⟩:Addr).add j)=some u):=fun j u hu=>by
  rw[Addr.add_lit,Nat.zero_add]
  match j,hu with
  |0,hu=>simp at hu;rw[<-hu];exact e0
  |1,hu=>simp at hu;rw[<-hu];exact e1
 have HO:=hd ho
 have hsl:(ve=.slice none 0 0/\n=0)\/∃gv cap,ve=.slice (some ⟨gv,0,none⟩) n cap/\n<=cap:=by
  rcases ho.2 with h|⟨gv,cap,cur,h1,_,_,h2,_⟩
  · exact .inl h
  exact .inr ⟨gv,cap,h1,h2⟩
 clear ho e0 e1;rcases hsl with⟨rfl,rfl⟩|⟨gv,cap,rfl,hcap⟩;rotate_left;rcases Nat.lt_or_eq_of_le hcap with hlt|rfl
 all_goals
  go_enter Tryz.func204,Tryz.ntmps204
  go_wp2_with(first
   |(at_builtin;refine bu rfl _ _ 121 rfl 0 265 i0 (.agg #[.int .i64 0,.slice none 0 0]) 2 32 Tryz.underlying121 hi hz0 hz1 hz2 rfl (by decide) _ _ _ rfl HO.out ⟨g,0,none⟩ 1 1 [.int .i64 z,.slice ra rn rc] rfl rfl ?c1 ?c2 ?c3 ?c4 ?c5 ?_)
   |fail)
  case c1=>exact HC.out
  case c2=>intro u hu;simp at hu;rcases hu with rfl|rfl<;>rfl
  case c3=>simp only[maxLen];omega
  case c4=>omega
  case c5=>exact Nat.zero_le _
  intro v' w3 hown hgrow hsub;obtain⟨ao',cp',rfl⟩:=au hown;have HW:=hd hown;have HG:=hd hgrow;have HU:=hd hsub;clear hown hgrow hsub;go_wp2_with fail;go_ret;exact⟨_,rfl,HW.out,HG.out,HU.out⟩
end Bt
namespace Bt
theorem Tryz.info266:(Tryz.prog.info? 266).map (fun i=>(i.zero,i.size,i.bytes))=some (some (.pointer none),1,8):=by kernel_rfl
theorem mr(ve:Value)(n:Nat)(xs:List Value)(kb:Nat)(g:Nat)(w:World)(hn:n<=1000000)(ho:w.ownsRow 0 266 1 ve n xs)(hg:g<w.heap.size)(e0:w.cell? ⟨g,0,none⟩=some (.pointer (some ⟨kb,0,none⟩))):
   Calls Tryz.prog 208 #[ve,.int .i64 n,.slice (some ⟨g,0,none⟩) 1 1] w fun x w'=>∃v,x=.returned v/\w'.ownsRow 0 266 1 v (n+1) (xs++[.pointer (some ⟨kb,0,none⟩)])/\w.grownBy w' ve.ownBlock/\∀k∈own v,k∈own ve\/w.heap.size<=k:=by
 obtain⟨i0,hi,hz0,hz1,hz2⟩:=info_parts Tryz.info266
 have HC:Hid (∀j u,([.pointer (some ⟨kb,0,none⟩)]:List Value)[j]? =some u->w.cell? ((⟨g,0,none⟩:Addr).add j)=some u):=fun j u hu=>by
  rw[Addr.add_lit,Nat.zero_add]
  match j,hu with
  |0,hu=>simp at hu;rw[<-hu];exact e0
 have HO:=hd ho
 have hsl:(ve=.slice none 0 0/\n=0)\/∃gv cap,ve=.slice (some ⟨gv,0,none⟩) n cap/\n<=cap:=by
  rcases ho.2 with h|⟨gv,cap,cur,h1,_,_,h2,_⟩
  · exact .inl h
  exact .inr ⟨gv,cap,h1,h2⟩
 clear ho e0;rcases hsl with⟨rfl,rfl⟩|⟨gv,cap,rfl,hcap⟩;rotate_left;rcases Nat.lt_or_eq_of_le hcap with hlt|rfl
 all_goals
  go_enter Tryz.func208,Tryz.ntmps208
  go_wp2_with(first
   |(at_builtin;refine bu rfl _ _ 122 rfl 0 266 i0 (.pointer none) 1 8 Tryz.underlying122 hi hz0 hz1 hz2 rfl (by decide) _ _ _ rfl HO.out ⟨g,0,none⟩ 1 1 [.pointer (some ⟨kb,0,none⟩)] rfl rfl ?c1 ?c2 ?c3 ?c4 ?c5 ?_)
   |fail)
  case c1=>exact HC.out
  case c2=>intro u hu;simp at hu;subst hu;rfl
  case c3=>simp only[maxLen];omega
  case c4=>omega
  case c5=>exact Nat.zero_le _
  intro v' w3 hown hgrow hsub;obtain⟨ao',cp',rfl⟩:=au hown;have HW:=hd hown;have HG:=hd hgrow;have HU:=hd hsub;clear hown hgrow hsub;go_wp2_with fail;go_ret;exact⟨_,rfl,HW.out,HG.out,HU.out⟩
end Bt
namespace Bt
theorem l9{P:Program}(w:World)(t e ty:TypeId)(z:Value)(ht:P.underlying t=some (.slice e))(hv:∀w,(zeroValue e).run P w=.ok z w)(g o n c:Nat)(cur:Array Value)(T:TypeId)(hg:w.heap[g]? =some (.cells cur T (0,0)))(hn:0<n)
   (zs:List Value) (hz:(Builtin.zeroCells z.cells n).toList=zs) (h1:∀v∈zs,v.oneCell'=true) (hl:o+zs.length<=cur.size):
   (Builtin.clear_ #[t] ty #[.slice (some ⟨g,o,none⟩) n c]).run P w=.ok (.tuple #[]) (w.setRow g (cur.toList.take o++zs++cur.toList.drop (o+zs.length)).toArray):=by
 have hst:=run_storeCells_at P g o T zs 0 cur w hg (by simpa using hl) h1;simp only[Nat.add_zero]at hst;obtain⟨m,rfl⟩:∃m,n=m+1:=⟨n-1,by omega⟩;simp[Builtin.clear_,run_underlying ht,hv,hz,hst]
end Bt
namespace Bt
theorem qo(gv n cap i:Nat)(cur:Array Value)(w:World)(hn:n<=1000000)(hg:w.heap[gv]? =some (.cells cur 265 (0,0)))(hcs:cur.size=cap*2)(hnc:n<=cap)(hi:i<n):
   Calls Tryz.prog 264 #[.slice (some ⟨gv,0,none⟩) n cap,.int .i64 i,.int .i64 n] w fun x w'=>x=.returned (.slice (some ⟨gv,0,none⟩) i cap)/\aC [gv] w w'/\∃cur',w'.heap[gv]? =some (.cells cur' 265 (0,0))/\cur'.size=cap*2/\cur'.toList.take (i*2)=cur.toList.take (i*2):=by
 obtain⟨i0,hi0,hz0,hz1,hz2⟩:=info_parts Ti.Tryz.info265;have HG:=hd hg;have HCS:=hd hcs;have hlt:=(geA.1 hg).1
 have j1:(i:Int)<(n:Int):=by omega
 have j2:(n:Int)<=(cap:Int):=by omega
 have j3:(i:Int)<=(cap:Int):=by omega
 have hne:((i:Int)==(n:Int))=false:=by simp;omega
 clear hg hcs
 have HZV:Hid (∀w,(zeroValue 265).run Tryz.prog w=.ok (.agg #[.int .i64 0,.slice none 0 0]) w):=fun w=>by simp[zeroValue,typeInfo,hi0,hz0]
 have HZ1:Hid (∀v∈(Builtin.zeroCells (Value.agg #[.int .i64 0,.slice none 0 0]).cells (n-i)).toList,v.oneCell'=true):=by
  show∀v∈_,_;intro v hv;have hz:=List.getElem_of_mem hv;obtain⟨k,hk,rfl⟩:=hz;simp only[Builtin.zeroCells,Array.getElem_toList,Array.getElem_map,Array.getElem_range];show((#[.int .i64 0,.slice none 0 0]:Array Value)[k%2]!).oneCell'=true
  have:k%2=0\/k%2=1:=by omega
  rcases this with h|h<;>rw[h]<;>rfl
 have HZ2:Hid (i*2+(Builtin.zeroCells (Value.agg #[.int .i64 0,.slice none 0 0]).cells (n-i)).toList.length<=cur.size):=by
  show _<=_;rw[Array.length_toList,size_zeroCells,HCS.out];show i*2+(n-i)*2<=cap*2;omega
 obtain⟨W',hcl,hT⟩:∃W',(Builtin.clear_ #[121] 0 #[.slice (some ⟨gv,i*2,none⟩) (n-i) (cap-i)]).run Tryz.prog (w.drew.setCells gv (i*2) [])=.ok (.tuple #[]) W'/\aC [gv] w W'/\∃cur':Array Value,W'.heap[gv]? =some (.cells cur' 265 (0,0))/\cur'.size=cap*2/\cur'.toList.take (i*2)=cur.toList.take (i*2):=by
  refine⟨_,l9 (P:=Tryz.prog) (w.drew.setCells gv (i*2) []) 121 265 0 _ Tryz.underlying121 HZV.out gv (i*2) (n-i) (cap-i) cur 265 HG.out (by omega) _ rfl HZ1.out HZ2.out,⟨rfl,rfl,rfl,?_,fun k hk hF=> ?_⟩,_,setRow_heap _ _ cur _ _ _ HG.out,?_,?_⟩
  · show _<=(w.heap.modify _ _).size;rw[Array.size_modify];exact nlr _
  · rw[setRow_other _ _ _ _ (fun e=>hF (by simp[e]))]
    rfl
  · have h2:=HZ2.out;have h3:=HCS.out;simp only[List.size_toArray,List.length_append,List.length_take,List.length_drop,Array.length_toList]at h2⊢;omega
  have h2:=HZ2.out;simp only[Array.length_toList]at h2;rw[laa,List.take_append_of_le_length (by rw[List.length_take,Array.length_toList];omega),List.take_take,Nat.min_self]
 have HCL:=hd hcl;have HT:=hd hT;clear hcl hT;rcases Nat.lt_or_eq_of_le hnc with hlt'|rfl
 · go_enter Tryz.func264,Tryz.ntmps264;go_wp2_with fail
   go_region_law (refine step_append_room rfl (.tmp 22) (.tmp 25) 121 rfl 265 i0 2 Tryz.underlying121 hi0 hz1 gv 0 i cap (by simp[Act.eval,Act.put]) ⟨gv,n*2,none⟩ 0 (cap-n) [] (by simp[Act.eval,Act.put];try omega) rfl (by simp) (by simp) (by omega) (by simp) ?_)
   all_goals
    go_wp2_with fail;rw[HCL.out];go_wp2_with fail;go_ret;exact⟨rfl,HT.out⟩
 go_enter Tryz.func264,Tryz.ntmps264;go_wp2_with fail
 go_region_law (refine step_append_room rfl (.tmp 22) (.tmp 25) 121 rfl 265 i0 2 Tryz.underlying121 hi0 hz1 gv 0 i n (by simp[Act.eval,Act.put]) ⟨gv,0,none⟩ 0 0 [] (by simp[Act.eval,Act.put];try omega) rfl (by simp) (by simp) (by omega) (by simp) ?_)
 all_goals
  go_wp2_with fail;rw[HCL.out];go_wp2_with fail;go_ret;exact⟨rfl,HT.out⟩
end Bt
namespace Bt
theorem pK(ad:Addr)(m c:Nat)(xs:List Value)(w:World)(hm:m<=1000000)(hl:xs.length=m*2)(hc:∀j u,xs[j]? =some u->w.cell? (ad.add j)=some u)(h1:∀u∈xs,u.oneCell'=true):
   Calls Tryz.prog 263 #[.slice (some ad) m c] w fun x w'=>∃v,x=.returned v/\w'.ownsRow w.heap.size 265 2 v m xs/\Below w.heap.size w w':=by
 obtain⟨i0,hi,hz0,hz1,hz2⟩:=info_parts Ti.Tryz.info265
 have HB0:Hid (Below w.heap.size w (w.alloc (.cells #[] 265))):=by show Below _ _ _;go_grown
 have HO:Hid ((w.alloc (.cells #[] 265)).ownsRow w.heap.size 265 2 (.slice (some ⟨w.heap.size,0,none⟩) 0 0) 0 []):=World.ownsRow_made w #[] 0 (nlr _) (by simp[maxLen]) (by simp)
 have HC:Hid (∀j u,xs[j]? =some u->(w.alloc (.cells #[] 265)).cell? (ad.add j)=some u):=fun j u hu=>by
  have h:=hc j u hu;exact(HB0.out.cell (World.block_lt_of_cell? w _ h)).trans h
 have HL:=hd hl;have H1:=hd h1;have hnil:(binOp .eql 121 (.slice (some ad) m c) (.slice none 0 0)).run Tryz.prog w=.ok (.bool false) w:=Lib.run_eql_slice_nil w 121 265 (some ad) m c 0 0 Tryz.underlying121;clear hl hc h1;go_enter Tryz.func263,Tryz.ntmps263
 go_wp2_with(first
  |(at_builtin;refine bu rfl _ _ 121 rfl w.heap.size 265 i0 (.agg #[.int .i64 0,.slice none 0 0]) 2 32 Tryz.underlying121 hi hz0 hz1 hz2 rfl (by decide) _ _ _ rfl HO.out ad m c xs rfl HL.out HC.out H1.out ?c3 ?c4 ?c5 ?_)
  |fail)
 case c3=>simp only[maxLen];omega
 case c4=>omega
 case c5=>exact HB0.out.size
 intro v' w3 hown hgrow hsub;obtain⟨ao',cp',rfl⟩:=au hown
 have HW:Hid (w3.ownsRow w.heap.size 265 2 (.slice ao' m cp') m xs):=by show World.ownsRow _ _ _ _ _ _ _;simpa using hown
 have HG:Hid (Below w.heap.size w w3):=⟨hgrow.os,hgrow.tape,hgrow.output,Nat.le_trans HB0.out.size hgrow.size,fun k hk=>(hgrow.block k (nlA hk HB0.out.size) (by simp[Value.ownBlock];omega)).trans (HB0.out.block k hk)⟩;clear hown hgrow hsub;go_wp2_with fail;go_ret;exact⟨_,rfl,HW.out,HG.out⟩
end Bt
namespace Bt
theorem uV(b off gv n cap i:Nat)(cs cur:Array Value)(T:TypeId)(w:World)(hn:n<=1000000)(hB:af w b cs T)(h0:cs[off]? =some (.slice (some ⟨gv,0,none⟩) n cap))(hg:w.heap[gv]? =some (.cells cur 265 (0,0)))(hcs:cur.size=cap*2)(hnc:n<=cap)(hi:i<n)(hgb:gv≠b)
   (h1:∀u∈(cur.toList.take (n*2)).drop (i*2),u.oneCell'=true):
   Calls Tryz.prog 205 #[.pointer (some ⟨b,off,none⟩),.int .i64 i] w fun x w'=>∃v,x=.returned v/\aC [b,gv] w w'/\w'.ownsRow w.heap.size 265 2 v (n-i) ((cur.toList.take (n*2)).drop (i*2))/\af w' b (cs.setIfInBounds off (.slice (some ⟨gv,0,none⟩) i cap)) T/\
     ∃cur',w'.heap[gv]? =some (.cells cur' 265 (0,0))/\cur'.size=cap*2/\cur'.toList.take (i*2)=cur.toList.take (i*2):=by
 have HB:=hd hB;have c0:=(hB.cell off).trans h0;have hbl:=hB.lt;have hgl:=(geA.1 hg).1;have HG:=hd hg;have HCS:=hd hcs;have H0:=hd h0
 have j1:(i:Int)<(n:Int):=by omega
 have j2:(i:Int)<=(n:Int):=by omega
 have j3:(n:Int)<=(cap:Int):=by omega
 have hci:¬cap=i:=by omega
 have HCL:=hd (pK ⟨gv,i*2,none⟩ (n-i) (cap-i) ((cur.toList.take (n*2)).drop (i*2)) w (by omega) (by rw[List.length_drop,List.length_take,Array.length_toList];omega) (fun j u hu=>by
  rw[List.getElem?_drop,List.getElem?_take]at hu
  split at hu
  · rw[Addr.add_lit,(show af w gv cur 265 from hg).cell];simpa using hu
  cases hu) h1)
 clear hB h0 hg hcs h1;go_enter Tryz.func205,Tryz.ntmps205;go_wp2_with fail;refine HCL.out.mono ?_;rintro x w1 ⟨v,rfl,hown,hb1⟩;obtain⟨ao',cp',rfl⟩:=au hown;have HOW:=hd hown;have HB1:=hd hb1;have K1:=HB.out.below hb1 hbl;have c1:=(K1.cell off).trans H0.out;have N9:=K1.lt
 have HG1:Hid (w1.heap[gv]? =some (.cells cur 265 (0,0))):=by show _=_;rw[hb1.block gv hgl];exact HG.out
 have HDL:=hd (qo gv n cap i cur (World.drew w1) hn HG1.out HCS.out hnc hi);have HK1:=hd K1;clear hown hb1 K1 c0 HCL;go_wp2_with fail
 go_region_with (
   go_at_call 264
   refine HDL.out.mono ?_;rintro x w2 ⟨rfl,ht2,hc2⟩;have K2:=ht2.blk HK1.out.drew (by simp;omega);have d1:=(K2.cell off).trans H0.out;have f1:=K2.free off;have Qu:=K2.lt;have HT2:=hd ht2;have HC2:=hd hc2;have HK2:=hd K2
   clear ht2 hc2 K2)
 all_goals
  go_wp2_with fail;go_ret;refine⟨_,rfl,?_,?_,HK2.out.set off _,?_⟩
  · exact((aC.of (F:=[b,gv]) HB1.out).trans HT2.out.eF (fun k hk=> .inl (by simp at hk;simp[hk]))).set _ _ (.inl (by simp))
  · refine bM HOW.out fun k hk=> ?_
    have h2:=HOW.out.lt k (by simpa[own]using hk);rw[Below.heap_setCell _ _ _ _ (by show k≠b;omega)];exact HT2.out.eF.block k h2.2 (by simp;omega)
  obtain⟨cur',h2,h3⟩:=HC2.out;exact⟨cur',by rw[Below.heap_setCell _ _ _ _ (by show gv≠b;exact hgb)];exact h2,h3⟩
end Bt
namespace Bt
theorem qJ(b off gv n cap i:Nat)(z:Int)(ra:Option Addr)(rn rc:Nat)(cs cur:Array Value)(T:TypeId)(w:World)(hn:n<=1000000)(hB:af w b cs T)(h0:cs[off]? =some (.slice (some ⟨gv,0,none⟩) n cap))(hg:w.heap[gv]? =some (.cells cur 265 (0,0)))(hcs:cur.size=cap*2)(hnc:n<=cap)(hi:i+1=n)(hgb:gv≠b)
   (k0:cur[i*2]? =some (.int .i64 z)) (k1:cur[i*2+1]? =some (.slice ra rn rc)):
   Calls Tryz.prog 207 #[.pointer (some ⟨b,off,none⟩),.int .i64 i] w fun x w'=>x=.returned (.agg #[.int .i64 z,.slice ra rn rc])/\aC [b,gv] w w'/\af w' b (cs.setIfInBounds off (.slice (some ⟨gv,0,none⟩) i cap)) T/\
     ∃cur',w'.heap[gv]? =some (.cells cur' 265 (0,0))/\cur'.size=cap*2/\cur'.toList.take (i*2)=cur.toList.take (i*2):=by
 have HB0:Hid (Below w.heap.size w ((w.alloc (.cells #[.int .i64 0,.slice none 0 0] 265)).alloc (.cells #[.int .i64 z,.slice ra rn rc] 265))):=by show Below _ _ _;go_grown
 have HR0:=hd ((af.new w #[.int .i64 0,.slice none 0 0] 265).alloc (.cells #[.int .i64 z,.slice ra rn rc] 265));have HE0:=hd (af.new (w.alloc (.cells #[.int .i64 0,.slice none 0 0] 265)) #[.int .i64 z,.slice ra rn rc] 265);rw[World.size_alloc]at HE0;have c0:=(hB.cell off).trans h0;have hbl:=hB.lt;have hgl:=(geA.1 hg).1;have g0:=((show af w gv cur 265 from hg).cell (i*2)).trans k0;have g1:=((show af w gv cur 265 from hg).cell (i*2+1)).trans k1;have HB:=hd (hB.below HB0.out hbl);have HBW:=hd hB;have H0:=hd h0;have d0:=(HB.out.cell off).trans h0;have N9:=HB.out.lt;have HDL:=hd (qo gv n cap i cur ((w.alloc (.cells #[.int .i64 0,.slice none 0 0] 265)).alloc (.cells #[.int .i64 z,.slice ra rn rc] 265)) hn (by rw[HB0.out.block gv hgl];exact hg) hcs hnc (by omega))
 have e1:(i:Int)+1=(n:Int):=by omega
 have j1:(i:Int)<(n:Int):=by omega
 have hin:i<n:=by omega
 clear hB h0 hg hcs k0 k1 hi;go_enter Tryz.func207,Tryz.ntmps207;go_wp2_with fail;refine HDL.out.mono ?_;rintro x w2 ⟨rfl,ht2,hc2⟩;have K2:=ht2.blk HB.out (by simp;omega);have R2:=ht2.blk HR0.out (by simp;omega);have E2:=ht2.blk HE0.out (by simp;omega);have p0:=(K2.cell off).trans H0.out;have f0:=K2.free off;have hl2:=K2.lt;have q0:=E2.cell 0;have q1:=E2.cell 1;have r0:=R2.cell 0;have r1:=R2.cell 1;simp at q0 q1 r0 r1;have fr0:=R2.free 0;have fr1:=R2.free 1;have lr:=R2.lt;have le:=E2.lt
 have n1:b≠w.heap.size:=by omega
 have n2:b≠w.heap.size+1:=by omega
 have HT2:=hd ht2;have HC2:=hd hc2;have HK2:=hd K2;have HR2:=hd R2;have S:=((((K2.set off (.slice (some ⟨gv,0,none⟩) i cap)).far ⟨w.heap.size,0,none⟩ (.int .i64 z) (by show w.heap.size≠b;omega)).far ⟨w.heap.size,1,none⟩ (.slice ra rn rc) (by show w.heap.size≠b;omega)));have S2:=(((R2.far ⟨b,off,none⟩ (.slice (some ⟨gv,0,none⟩) i cap) (by show b≠w.heap.size;omega)).set 0 (.int .i64 z)).set 1 (.slice ra rn rc));have s0:=S2.cell 0;have s1:=S2.cell 1;simp at s0 s1;have HS:=hd S;clear ht2 hc2 K2 R2 E2 S S2 c0 g0 g1 d0;go_wp2_with fail;refine bodyPost_ret (v:=.agg #[.int .i64 z,.slice ra rn rc]) (by simp[results,Tryz.results207,go_sem,s0,s1]) rfl ?_;refine⟨rfl,?_,HS.out,?_⟩
 · exact((((aC.of (F:=[b,gv]) HB0.out).trans HT2.out (fun k hk=> .inl (by simp at hk;simp[hk]))).set ⟨b,off,none⟩ _ (.inl (by simp))).set ⟨w.heap.size,0,none⟩ _ (.inr (nlr _))).set ⟨w.heap.size,1,none⟩ _ (.inr (nlr _))
 obtain⟨cur',h2,h3⟩:=HC2.out;refine⟨cur',?_,h3⟩;rw[Below.heap_setCell _ _ _ _ (by show gv≠w.heap.size;omega),Below.heap_setCell _ _ _ _ (by show gv≠w.heap.size;omega),Below.heap_setCell _ _ _ _ (by show gv≠b;exact hgb)];exact h2
end Bt
namespace Bt
theorem aC.alloc{F:List Nat}(h:aC F w w')(o:Obj):aC F w (w'.alloc o):=h.trans (G:=[]) (aC.of ((Below.refl w'.heap.size w').alloc (nlr _) o)) (by simp)
theorem aG{b:Nat}{e:TypeId}{s:Nat}{v:Value}{n:Nat}{xs:List Value}{F:List Nat}(h:w.ownsRow b e s v n xs)(ht:aC F w w')(hF:∀g∈own v,g∉F):w'.ownsRow b e s v n xs:=
 bM h fun g hg=>ht.block g (aZ h g hg) (hF g hg)
theorem DT(b off n gk ck kb gv cap:Nat)(ka:Option Addr)(kc:Nat)(cs cur:Array Value)(T:TypeId)(ve:Value)(xs ys:List Value)(z:Int)(ra:Option Addr)(rn rc:Nat)(w:World)(hn:n<=1000)(hB:af w b cs T)(h0:cs[off]? =some ve)(h1:cs[off+1]? =some (.slice (some ⟨gk,0,none⟩) (n+1) ck))
   (hve:w.ownsRow 0 265 2 ve n xs) (hvk:w.ownsRow 0 266 1 (.slice (some ⟨gk,0,none⟩) (n+1) ck) (n+1) ys) (hlast:ys[n]? =some (.pointer (some ⟨kb,0,none⟩)))
   (hk:af w kb #[.slice (some ⟨gv,0,none⟩) 7 cap,.slice ka 0 kc] 124) (hg:w.heap[gv]? =some (.cells cur 265 (0,0))) (hcs:cur.size=cap*2) (hnc:7<=cap) (hcm:cap<=maxLen)
   (k0:cur[6]? =some (.int .i64 z)) (k1:cur[7]? =some (.slice ra rn rc)) (h8:∀u∈(cur.toList.take (7*2)).drop (4*2),u.oneCell'=true)
   (hd0:b≠kb/\b≠gv/\b≠gk/\kb≠gv/\kb≠gk/\gv≠gk/\b∉own ve/\kb∉own ve/\gv∉own ve/\gk∉own ve):
   Calls Tryz.prog 150 #[.pointer (some ⟨b,off,none⟩),.int .i64 n] w fun x w'=>x=.returned (.tuple #[])/\∃ve' vk' v gh N1 N2,aC ([b,gk,kb,gv]++own ve) w w'/\af w' b ((cs.setIfInBounds off ve').setIfInBounds (off+1) vk') T/\
     w'.ownsRow 0 265 2 ve' (n+1) (xs++[.int .i64 z,.slice ra rn rc])/\w'.ownsRow 0 266 1 vk' (n+2) (ys++[.pointer (some ⟨gh,0,none⟩)])/\
     af w' kb #[.slice (some ⟨gv,0,none⟩) 3 cap,.slice ka 0 kc] 124/\(∃cur',w'.heap[gv]? =some (.cells cur' 265 (0,0))/\cur'.size=cap*2/\cur'.toList.take (3*2)=cur.toList.take (3*2))/\af w' gh #[v,.slice none 0 0] 124/\w'.ownsRow w.heap.size 265 2 v 3 ((cur.toList.take (7*2)).drop (4*2))/\(∀g∈own v,w.heap.size<=g/\g<gh)/\
     gh<N1/\N1<=N2/\(∀g∈own ve',g∈own ve\/(N1<=g/\g<N2))/\(∀g∈own vk',g=gk\/(N2<=g/\g<w'.heap.size)):=by
 have HB:=hd hB;have H0:=hd h0;have H1:=hd h1;have hbl:=hB.lt;have c0:=(hB.cell off).trans h0;have c1:=(hB.cell (off+1)).trans h1;have hgk:=aZ hvk gk (by simp[own,Value.ownBlock]);have hkb:=hk.lt
 have q0:w.cell? ⟨gk,n,none⟩=some (.pointer (some ⟨kb,0,none⟩)):=by
  have:=hvk.cells (g:=gk) rfl n _ hlast;simpa only[Addr.add_lit,Nat.zero_add]using this
 have HVE:=hd hve;have HVK:=hd hvk;have HK:=hd hk;have HG:=hd hg;have HCS:=hd hcs;have K0:=hd k0;have K1:=hd k1;have HD:=hd hd0;have hgl:=(geA.1 hg).1;have zn:=hd (uV kb 0 gv 7 cap 4 _ cur _ w (by omega) hk rfl hg hcs hnc (by omega) hd0.2.2.2.1.symm h8)
 have j1:(n:Int)<(n:Int)+1:=by omega
 have j2:n<n+1:=by omega
 clear hB h0 h1 hve hvk hlast hk hg hcs k0 k1 h8 hd0;go_enter Tryz.func150,Tryz.ntmps150;go_wp2_with fail;refine zn.out.mono ?_;rintro x w1 ⟨v,rfl,ht1,hown1,hk1,hc1⟩;obtain⟨ao,cp,rfl⟩:=au hown1;have HT1:=hd ht1;have HO1:=hd hown1;have HK1:=hd hk1;have HC1:=hd hc1;have hs1:=ht1.size;clear ht1 hown1 hk1 hc1 zn c0 c1 q0;have HTA:=hd (HT1.out.alloc (.cells #[.slice ao 3 cp,.slice none 0 0] 124));have HGH:=hd (af.new w1 #[.slice ao 3 cp,.slice none 0 0] 124);have HKA:=hd (HK1.out.alloc (.cells #[.slice ao 3 cp,.slice none 0 0] 124));have HOA:=hd (HO1.out.alloc (.cells #[.slice ao 3 cp,.slice none 0 0] 124));have p1:=HKA.out.cell 1;simp at p1;have hla:=HKA.out.lt;go_wp2_with fail;refine(mW kb 0 _ _ _ hla p1).mono ?_;rintro x w2 ⟨rfl,rfl⟩
 have AX:Hid (∃dZ,(w1.alloc (.cells #[.slice ao 3 cp,.slice none 0 0] 124)).heap[gv]? =some (.cells dZ 265 (0,0))/\dZ.size=cap*2/\dZ.toList.take (4*2)=cur.toList.take (4*2)):=by
  obtain⟨dZ,a1,a2,a3⟩:=HC1.out;exact⟨dZ,((Below.refl w1.heap.size w1).alloc (nlr _) _).block gv ((geA.1 a1).1)▸a1,a2,a3⟩
 have hsA:(w1.alloc (.cells #[.slice ao 3 cp,.slice none 0 0] 124)).heap.size=w1.heap.size+1:=World.size_alloc _ _;generalize w1.alloc (.cells #[.slice ao 3 cp,.slice none 0 0] 124)=wA at*;have HBA:=hd (HTA.out.blk HB.out (by have:=HD.out;simp;omega));have HVA:=hd (aG HVE.out HTA.out (fun g hg=>by have:=HD.out;simp;exact⟨fun e=>this.2.2.2.2.2.2.2.1 (e▸hg),fun e=>this.2.2.2.2.2.2.2.2.1 (e▸hg)⟩));have NG:=hd (aG HVK.out HTA.out (fun g hg=>by have:=HD.out;simp[own,Value.ownBlock]at hg;simp;omega));have c0:=(HBA.out.cell off).trans H0.out;have hbA:=HBA.out.lt;obtain⟨dZ,Ag,hcs1,zA⟩:=AX.out
 have e6:dZ[3*2]? =some (.int .i64 z):=by
  have:=congrArg (fun l=>l[6]?) zA;simp only[List.getElem?_take,Array.getElem?_toList]at this;simpa[K0.out]using this
 have e7:dZ[3*2+1]? =some (.slice ra rn rc):=by
  have:=congrArg (fun l=>l[7]?) zA;simp only[List.getElem?_take,Array.getElem?_toList]at this;simpa[K1.out]using this
 have HKA2:Hid (af wA kb #[.slice (some ⟨gv,0,none⟩) 4 cap,.slice ka 0 kc] 124):=by show af _ _ _ _;simpa using HKA.out
 have HTO:=hd (qJ kb 0 gv 4 cap 3 z ra rn rc _ dZ _ (World.drew wA) (by omega) HKA2.out.drew rfl Ag hcs1 (by omega) rfl HD.out.2.2.2.1.symm e6 e7);have MJ:=hd zA;clear Ag hcs1 zA e6 e7 AX HC1;go_wp2_with fail
 go_region_with (first
  |(go_at_call 207
    refine HTO.out.mono ?_;rintro x w3 ⟨rfl,ht3,hk3,hc3⟩;have HT3:Hid (aC [kb,gv] wA w3):=ht3.eF;have HB3:=hd (ht3.blk HBA.out.drew (by have:=HD.out;simp;omega))
    have HK3:Hid (af w3 kb #[.slice (some ⟨gv,0,none⟩) 3 cap,.slice ka 0 kc] 124):=by show af _ _ _ _;simpa using hk3
    have HC3:=hd hc3;have d0:=(HB3.out.cell off).trans H0.out;have hb3:=HB3.out.lt;have HV3:=hd (aG HVA.out HT3.out (fun g hg=>by have:=HD.out;simp;exact⟨fun e=>this.2.2.2.2.2.2.2.1 (e▸hg),fun e=>this.2.2.2.2.2.2.2.2.1 (e▸hg)⟩));have HE3:=hd (af.new w3 #[.int .i64 z,.slice ra rn rc] 265);have HIN:=hd (mM ve n xs z ra rn rc w3.heap.size (w3.alloc (.cells #[.int .i64 z,.slice ra rn rc] 265)) (by omega) (HV3.out.alloc _) HE3.out.lt ((HE3.out.cell 0).trans rfl) ((HE3.out.cell 1).trans rfl));have HB4:=hd (HB3.out.alloc (.cells #[.int .i64 z,.slice ra rn rc] 265));have d1:=(HB4.out.cell off).trans H0.out;have hb4:=HB4.out.lt
    clear ht3 hk3 hc3)
  |(go_at_call 204
    refine HIN.out.mono ?_;rintro x w4 ⟨v4,rfl,iI,sS,AV⟩;have HT4:Hid (aC (own ve) (w3.alloc (.cells #[.int .i64 z,.slice ra rn rc] 265)) w4):=aC.grown sS (fun k hk=>by simp[own,hk]);have HB5:=hd (HT4.out.blk HB4.out HD.out.2.2.2.2.2.2.1);have HO4:=hd iI;have HS4:=hd AV;have d2:=(HB5.out.cell off).trans H0.out;have f2:=HB5.out.free off;have hb5:=HB5.out.lt;obtain⟨a4,c4,rfl⟩:=au iI
    clear iI sS AV))
 all_goals
  have hN4:=HT4.out.size;have hs3:=HT3.out.size;rw[World.size_alloc]at hN4;have HB6:=hd (HB5.out.set off (.slice a4 (n+1) c4));have HT5:Hid (aC [b,gk] w4 (w4.setCell ⟨b,off,none⟩ (.slice a4 (n+1) c4))):=(aC.refl [b,gk] w4).set _ _ (.inl (by simp))
  have HVK5:Hid ((w4.setCell ⟨b,off,none⟩ (.slice a4 (n+1) c4)).ownsRow 0 266 1 (.slice (some ⟨gk,0,none⟩) (n+1) ck) (n+1) ys):=by
   have hD:=HD.out;have x1:=aG NG.out (HT3.out.alloc (.cells #[.int .i64 z,.slice ra rn rc] 265)) (fun g hg=>by simp[own,Value.ownBlock]at hg;simp;omega);have x2:=aG x1 HT4.out (fun g hg=>by simp[own,Value.ownBlock]at hg;rw[hg];exact hD.2.2.2.2.2.2.2.2.2);exact aG x2 ((aC.refl [b] w4).set ⟨b,off,none⟩ (.slice a4 (n+1) c4) (.inl (by simp))) (fun g hg=>by simp[own,Value.ownBlock]at hg;simp;omega)
  have hb6:=HB6.out.lt
  have g1:(w4.setCell ⟨b,off,none⟩ (.slice a4 (n+1) c4)).cell? ⟨b,off+1,none⟩=some (.slice (some ⟨gk,0,none⟩) (n+1) ck):=by
   rw[HB6.out.cell,Array.getElem?_setIfInBounds_ne (by omega)];exact H1.out
  have hs5:(w4.setCell ⟨b,off,none⟩ (.slice a4 (n+1) c4)).heap.size=w4.heap.size:=by simp
  generalize w4.setCell ⟨b,off,none⟩ (.slice a4 (n+1) c4)=W5 at*;have HS5:=hd hs5;clear hs5;have HE5:=hd (af.new W5 #[.pointer (some ⟨w1.heap.size,0,none⟩)] 266)
  have HIK:Hid (Calls Tryz.prog 208 #[.slice (some ⟨gk,0,none⟩) (n+1) ck,.int .i64 ((n:Int)+1),.slice (some ⟨W5.heap.size,0,none⟩) 1 1] (W5.alloc (.cells #[.pointer (some ⟨w1.heap.size,0,none⟩)] 266)) fun x w'=>∃v,x=.returned v/\w'.ownsRow 0 266 1 v (n+1+1) (ys++[.pointer (some ⟨w1.heap.size,0,none⟩)])/\(W5.alloc (.cells #[.pointer (some ⟨w1.heap.size,0,none⟩)] 266)).grownBy w' (Value.slice (some ⟨gk,0,none⟩) (n+1) ck).ownBlock/\∀k∈own v,k∈own (.slice (some ⟨gk,0,none⟩) (n+1) ck)\/(W5.alloc (.cells #[.pointer (some ⟨w1.heap.size,0,none⟩)] 266)).heap.size<=k):=by
   have h:=mr (.slice (some ⟨gk,0,none⟩) (n+1) ck) (n+1) ys w1.heap.size W5.heap.size (W5.alloc (.cells #[.pointer (some ⟨w1.heap.size,0,none⟩)] 266)) (by omega) (HVK5.out.alloc _) HE5.out.lt ((HE5.out.cell 0).trans rfl);rw[show((n+1:Nat):Int)=(n:Int)+1 from by simp]at h;exact h
  go_wp2_with fail;refine HIK.out.mono ?_;rintro x w6 ⟨v6,rfl,hown6,sW,Ah⟩;have HT6:Hid (aC [gk] (W5.alloc (.cells #[.pointer (some ⟨w1.heap.size,0,none⟩)] 266)) w6):=aC.grown sW (fun k hk=>by simp[Value.ownBlock]at hk;simp[hk]);have HB7:=hd (HT6.out.blk (HB6.out.alloc (.cells #[.pointer (some ⟨w1.heap.size,0,none⟩)] 266)) (by have:=HD.out;simp;omega));have HO6:=hd hown6;have HS6:=hd Ah;have f7:=HB7.out.free (off+1)
  have m7:w6.cell? ⟨b,off+1,none⟩=some (.slice (some ⟨gk,0,none⟩) (n+1) ck):=by
   rw[HB7.out.cell,Array.getElem?_setIfInBounds_ne (by omega)];exact H1.out
  have hb7:=HB7.out.lt;obtain⟨a6,c6,rfl⟩:=au hown6;clear hown6 sW Ah HIK HIN HTO;go_wp2_with fail
  go_end0
  have hD:=HD.out;have hs6:=HT6.out.size;have hs5:=HS5.out;rw[World.size_alloc]at hs6;have T56:aC [b,gk] w4 w6:=(HT5.out.alloc (.cells #[.pointer (some ⟨w1.heap.size,0,none⟩)] 266)).trans HT6.out (fun x hx=> .inl (by simp at hx;simp[hx]));have T47:aC [b,gk] w4 (w6.setCell ⟨b,off+1,none⟩ (.slice a6 (n+1+1) c6)):=T56.set _ _ (.inl (by simp));have T37:aC ([b,gk]++own ve) w3 (w6.setCell ⟨b,off+1,none⟩ (.slice a6 (n+1+1) c6)):=(((aC.refl ([b,gk]++own ve) w3).alloc (.cells #[.int .i64 z,.slice ra rn rc] 265)).trans HT4.out (fun x hx=> .inl (by simp[hx]))).trans T47 (fun x hx=> .inl (by simp at hx;rcases hx with rfl|rfl<;>simp));have TA7:aC ([b,gk,kb,gv]++own ve) wA (w6.setCell ⟨b,off+1,none⟩ (.slice a6 (n+1+1) c6)):=(HT3.out.more (G:=[b,gk,kb,gv]++own ve) (fun x hx=>by simp at hx;rcases hx with rfl|rfl<;>simp)).trans T37 (fun x hx=> .inl (by simp at hx;rcases hx with rfl|rfl|hx<;>simp[*]));have T07:aC ([b,gk,kb,gv]++own ve) w (w6.setCell ⟨b,off+1,none⟩ (.slice a6 (n+1+1) c6)):=(HTA.out.more (G:=[b,gk,kb,gv]++own ve) (fun x hx=>by simp at hx;rcases hx with rfl|rfl<;>simp)).trans TA7 (fun x hx=> .inl hx)
  have l4:∀g∈own (.slice a4 (n+1) c4),g∈own ve\/(w3.heap.size+1<=g/\g<w4.heap.size):=fun g hg=>by
   rcases HS4.out g hg with h|h
   · exact .inl h
   exact .inr ⟨by rw[World.size_alloc]at h;exact h,aZ HO4.out g hg⟩
  have hlv:∀g∈own ve,g<w.heap.size:=aZ HVE.out;refine⟨rfl,.slice a4 (n+1) c4,.slice a6 (n+1+1) c6,.slice ao 3 cp,w1.heap.size,w3.heap.size+1,w4.heap.size,T07,HB7.out.set (off+1) _,?_,?_,?_,?_,?_,?_,?_,by omega,by omega,l4,?_⟩
  · refine aG HO4.out T47 (fun g hg=> ?_);rcases l4 g hg with h|h
    · simp;exact⟨fun e=>hD.2.2.2.2.2.2.1 (e▸h),fun e=>hD.2.2.2.2.2.2.2.2.2 (e▸h)⟩
    simp;omega
  · refine aG HO6.out ((aC.refl [b] w6).set ⟨b,off+1,none⟩ (.slice a6 (n+1+1) c6) (.inl (by simp))) (fun g hg=> ?_);rcases HS6.out g hg with h|h
    · simp[own,Value.ownBlock]at h;simp;omega
    rw[World.size_alloc]at h;simp;omega
  · exact T37.blk HK3.out (by simp;exact⟨fun e=>hD.1 e.symm,hD.2.2.2.2.1,hD.2.2.2.2.2.2.2.1⟩)
  · obtain⟨cur',q1,q2,q3⟩:=HC3.out;refine⟨cur',?_,q2,?_⟩
    · rw[T37.block gv (geA.1 q1).1 (by simp;exact⟨fun e=>hD.2.1 e.symm,hD.2.2.2.2.2.1,hD.2.2.2.2.2.2.2.2.1⟩)];exact q1
    rw[q3];have:=congrArg (List.take (3*2)) MJ.out;simpa[List.take_take]using this
  · refine TA7.blk HGH.out (by simp;refine⟨by omega,by omega,by omega,by omega,fun h=> ?_⟩;have:=hlv _ h;omega)
  · refine aG HOA.out TA7 (fun g hg=> ?_);have h1:=HO1.out.lt g (by simpa[own]using hg);simp;refine⟨by omega,by omega,by omega,by omega,fun h=> ?_⟩;have:=hlv _ h;omega
  · intro g hg;have h1:=HO1.out.lt g (by simpa[own]using hg);exact⟨h1.1,h1.2⟩
  intro g hg;rcases HS6.out g hg with h|h
  · simp[own,Value.ownBlock]at h;exact .inl h
  right
  rw[World.size_alloc]at h;have:=aZ HO6.out g hg;simp;omega
end Bt
namespace Bt
theorem sF(gv n cap i:Nat)(cur:Array Value)(w:World)(hn:n<=1000000)(hg:w.heap[gv]? =some (.cells cur 266 (0,0)))(hcs:cur.size=cap)(hnc:n<=cap)(hi:i<n):
   Calls Tryz.prog 266 #[.slice (some ⟨gv,0,none⟩) n cap,.int .i64 i,.int .i64 n] w fun x w'=>x=.returned (.slice (some ⟨gv,0,none⟩) i cap)/\aC [gv] w w'/\∃cur',w'.heap[gv]? =some (.cells cur' 266 (0,0))/\cur'.size=cap/\cur'.toList.take (i)=cur.toList.take (i):=by
 obtain⟨i0,hi0,hz0,hz1,hz2⟩:=info_parts Tryz.info266;have HG:=hd hg;have HCS:=hd hcs;have hlt:=(geA.1 hg).1
 have j1:(i:Int)<(n:Int):=by omega
 have j2:(n:Int)<=(cap:Int):=by omega
 have j3:(i:Int)<=(cap:Int):=by omega
 have hne:((i:Int)==(n:Int))=false:=by simp;omega
 clear hg hcs
 have HZV:Hid (∀w,(zeroValue 266).run Tryz.prog w=.ok (.pointer none) w):=fun w=>by simp[zeroValue,typeInfo,hi0,hz0]
 have HZ1:Hid (∀v∈(Builtin.zeroCells (Value.pointer none).cells (n-i)).toList,v.oneCell'=true):=by
  show∀v∈_,_;intro v hv;have hz:=List.getElem_of_mem hv;obtain⟨k,hk,rfl⟩:=hz;simp only[Builtin.zeroCells,Array.getElem_toList,Array.getElem_map,Array.getElem_range];show((#[.pointer none]:Array Value)[k%1]!).oneCell'=true;rw[Nat.mod_one];rfl
 have HZ2:Hid (i+(Builtin.zeroCells (Value.pointer none).cells (n-i)).toList.length<=cur.size):=by
  show _<=_;rw[Array.length_toList,size_zeroCells,HCS.out];show i+(n-i)*1<=cap;omega
 obtain⟨W',hcl,hT⟩:∃W',(Builtin.clear_ #[122] 0 #[.slice (some ⟨gv,i,none⟩) (n-i) (cap-i)]).run Tryz.prog (w.drew.setCells gv (i) [])=.ok (.tuple #[]) W'/\aC [gv] w W'/\∃cur':Array Value,W'.heap[gv]? =some (.cells cur' 266 (0,0))/\cur'.size=cap/\cur'.toList.take (i)=cur.toList.take (i):=by
  refine⟨_,l9 (P:=Tryz.prog) (w.drew.setCells gv (i) []) 122 266 0 _ Tryz.underlying122 HZV.out gv (i) (n-i) (cap-i) cur 266 HG.out (by omega) _ rfl HZ1.out HZ2.out,⟨rfl,rfl,rfl,?_,fun k hk hF=> ?_⟩,_,setRow_heap _ _ cur _ _ _ HG.out,?_,?_⟩
  · show _<=(w.heap.modify _ _).size;rw[Array.size_modify];exact nlr _
  · rw[setRow_other _ _ _ _ (fun e=>hF (by simp[e]))]
    rfl
  · have h2:=HZ2.out;have h3:=HCS.out;simp only[List.size_toArray,List.length_append,List.length_take,List.length_drop,Array.length_toList]at h2⊢;omega
  have h2:=HZ2.out;simp only[Array.length_toList]at h2;rw[laa,List.take_append_of_le_length (by rw[List.length_take,Array.length_toList];omega),List.take_take,Nat.min_self]
 have HCL:=hd hcl;have HT:=hd hT;clear hcl hT;rcases Nat.lt_or_eq_of_le hnc with hlt'|rfl
 · go_enter Tryz.func266,Tryz.ntmps266;go_wp2_with fail
   go_region_law (refine step_append_room rfl (.tmp 22) (.tmp 25) 122 rfl 266 i0 1 Tryz.underlying122 hi0 hz1 gv 0 i cap (by simp[Act.eval,Act.put]) ⟨gv,n,none⟩ 0 (cap-n) [] (by simp[Act.eval,Act.put];try omega) rfl (by simp) (by simp) (by omega) (by simp) ?_)
   all_goals
    go_wp2_with fail;rw[HCL.out];go_wp2_with fail;go_ret;exact⟨rfl,HT.out⟩
 go_enter Tryz.func266,Tryz.ntmps266;go_wp2_with fail
 go_region_law (refine step_append_room rfl (.tmp 22) (.tmp 25) 122 rfl 266 i0 1 Tryz.underlying122 hi0 hz1 gv 0 i n (by simp[Act.eval,Act.put]) ⟨gv,0,none⟩ 0 0 [] (by simp[Act.eval,Act.put];try omega) rfl (by simp) (by simp) (by omega) (by simp) ?_)
 all_goals
  go_wp2_with fail;rw[HCL.out];go_wp2_with fail;go_ret;exact⟨rfl,HT.out⟩
end Bt
namespace Bt
theorem vL(ad:Addr)(m c:Nat)(xs:List Value)(w:World)(hm:m<=1000000)(hl:xs.length=m*1)(hc:∀j u,xs[j]? =some u->w.cell? (ad.add j)=some u)(h1:∀u∈xs,u.oneCell'=true):
   Calls Tryz.prog 265 #[.slice (some ad) m c] w fun x w'=>∃v,x=.returned v/\w'.ownsRow w.heap.size 266 1 v m xs/\Below w.heap.size w w':=by
 obtain⟨i0,hi,hz0,hz1,hz2⟩:=info_parts Tryz.info266
 have HB0:Hid (Below w.heap.size w (w.alloc (.cells #[] 266))):=by show Below _ _ _;go_grown
 have HO:Hid ((w.alloc (.cells #[] 266)).ownsRow w.heap.size 266 1 (.slice (some ⟨w.heap.size,0,none⟩) 0 0) 0 []):=World.ownsRow_made w #[] 0 (nlr _) (by simp[maxLen]) (by simp)
 have HC:Hid (∀j u,xs[j]? =some u->(w.alloc (.cells #[] 266)).cell? (ad.add j)=some u):=fun j u hu=>by
  have h:=hc j u hu;exact(HB0.out.cell (World.block_lt_of_cell? w _ h)).trans h
 have HL:=hd hl;have H1:=hd h1;have hnil:(binOp .eql 122 (.slice (some ad) m c) (.slice none 0 0)).run Tryz.prog w=.ok (.bool false) w:=Lib.run_eql_slice_nil w 122 266 (some ad) m c 0 0 Tryz.underlying122;clear hl hc h1;go_enter Tryz.func265,Tryz.ntmps265
 go_wp2_with(first
  |(at_builtin;refine bu rfl _ _ 122 rfl w.heap.size 266 i0 (.pointer none) 1 8 Tryz.underlying122 hi hz0 hz1 hz2 rfl (by decide) _ _ _ rfl HO.out ad m c xs rfl HL.out HC.out H1.out ?c3 ?c4 ?c5 ?_)
  |fail)
 case c3=>simp only[maxLen];omega
 case c4=>omega
 case c5=>exact HB0.out.size
 intro v' w3 hown hgrow hsub;obtain⟨ao',cp',rfl⟩:=au hown
 have HW:Hid (w3.ownsRow w.heap.size 266 1 (.slice ao' m cp') m xs):=by show World.ownsRow _ _ _ _ _ _ _;simpa using hown
 have HG:Hid (Below w.heap.size w w3):=⟨hgrow.os,hgrow.tape,hgrow.output,Nat.le_trans HB0.out.size hgrow.size,fun k hk=>(hgrow.block k (nlA hk HB0.out.size) (by simp[Value.ownBlock];omega)).trans (HB0.out.block k hk)⟩;clear hown hgrow hsub;go_wp2_with fail;go_ret;exact⟨_,rfl,HW.out,HG.out⟩
end Bt
end Go.Proofs.YthhhfcdakfbpkaaGreatDoor
