/- Parts of the proof -/
import Derived.Test.YthhhfcdakfbpkaaGreatDoorU6
import Derived.Test.YthhhfcdakfbpkaaGreatDoorU3
import Derived.Deep.RegionLaw
import Derived.Lib.SliceRun
import Derived.Shelf.RegionOpenPlain
open Go.Value renaming int -> Yg, agg -> Yj, pointer -> Ym, tuple -> Yn, slice -> Yp, ownBlock -> aaR
open Go.IntKind renaming i64 -> Yh
open Go.Obj renaming cells -> Yk
open Go.Ending renaming returned -> Yl
open List renaming count_cons -> aeK, count_nil -> aeL, count_append -> aeM, flatMap_append -> aeN, flatMap_cons -> YU, flatMap_nil -> aaJ, append_nil -> aaK, mem_cons -> aeQ, countP_cons_of_pos -> aeS, rel_of_pairwise_cons -> aeT, getElem_mem -> acw, getElem_of_mem -> aeg, size_toArray -> afe, length_append -> aaN, length_take -> adO, length_drop -> Yv, take_append_of_le_length -> aff, take_take -> afg, getElem?_drop -> YO, getElem?_take -> afo, take -> aft, map_append -> aev, getElem?_append_right -> aey, mem_of_getElem? -> afx, nodup_cons -> afy, nodup_append -> afz, mem_append -> YW, not_mem_nil -> afA, mem_of_mem_drop -> ZP, map_take -> afB, map_drop -> afC, sublist_append_right -> afF, map_cons -> YZ, map_nil -> Y0
open Go.Proofs.Tryz renaming prog -> Zc, func154 -> aeO, ntmps154 -> aeP, underlying121 -> aeX, underlying122 -> aeY, func264 -> afi, ntmps264 -> afj, func150 -> afp, ntmps150 -> afq, func266 -> afu, ntmps266 -> afv, func149 -> afD, ntmps149 -> afE
open Nat renaming zero_le -> aeR, lt_or_ge -> aeW, zero_add -> Ze, lt_or_eq_of_le -> acg, min_self -> afh, le_trans -> YB
open Bool renaming true_and -> aeU
open Go.Proofs.YthhhfcdakfbpkaaGreatDoor.Mg renaming lX -> aeV
open Go.RowKit.Below renaming refl -> Zh, heap_setCell -> Zb
open Go.Addr renaming add_lit -> Zn
open Array renaming getElem_toList -> aeZ, getElem_map -> afa, getElem_range -> afb, length_toList -> afc, size_modify -> afd, getElem?_toList -> afr, getElem?_setIfInBounds_ne -> afs, getElem?_setIfInBounds_self -> afG
open Go.Act renaming eval -> afk, put -> afl
open Go.World renaming ownsRow_made -> afm, block_lt_of_cell? -> afn, ownsRow -> aaO, drew -> abA, size_alloc -> ZC
open Go.Proofs.YthhhfcdakfbpkaaGreatDoor.Ts renaming au -> afw
open Option renaming none -> Y1, some -> Y2
open Go renaming Value -> Y3, World -> Y4, TypeId -> Y5, Calls -> aaT, maxLen -> aaV, info_parts -> aaX, Addr -> abR
open Go.RowKit renaming Below -> aaS
namespace Go.Proofs.YthhhfcdakfbpkaaGreatDoor
set_option linter.unusedSimpArgs false
set_option linter.unusedVariables false
set_option maxRecDepth 100000
set_option maxHeartbeats 16000000
open Go.RowKit
variable {F l:List Nat}{B N b s x:Nat}{v:Y3}{w:Y4}{cur:Array Y3}{xs:List Y3}{z:Int}
namespace Bt
theorem Si(v:Y3):own v=[]\/∃g,own v=[g]:=by
 unfold own
 cases v.ownBlock with
 |none=>exact .inl rfl
 |some g=>exact .inr ⟨g,rfl⟩
theorem mQ(v:Y3)(x:Nat):(own v).count x<=1:=by
 rcases Si v with h|⟨g,h⟩<;>rw[h]
 · simp
 rw[aeK,aeL];split<;>omega
theorem Hz{A:Nat}(h:∀g∈l,A<=g/\g<B):l.count x=0\/(A<=x/\x<B):=by
 by_cases hx:x∈l
 · exact .inr (h x hx)
 exact .inl (List.count_eq_zero.2 hx)
theorem cnt_lt(h:∀g∈l,g<B):l.count x=0\/x<B:=by
 by_cases hx:x∈l
 · exact .inr (h x hx)
 exact .inl (List.count_eq_zero.2 hx)
theorem RS{v':Y3}{M:Nat}(h:∀k∈own v',k∈own v\/N<=k)(hl:∀k∈own v',k<M):(own v').count x<=(own v).count x\/(N<=x/\x<M/\(own v').count x<=1):=by
 by_cases hx:x∈own v'
 · rcases h x hx with h1|h1
   · left
     have:=mQ v' x;have:=List.count_pos_iff.2 h1;omega
   exact .inr ⟨h1,hl x hx,mQ v' x⟩
 left;rw[List.count_eq_zero.2 hx];omega
theorem fJ(h:∀x,l.count x<=1):l.Nodup:=List.nodup_iff_count.2 h
theorem bu(h:l.Nodup)(x:Nat):l.count x<=1:=List.nodup_iff_count.1 h x
theorem aD(a x:Nat)(l:List Nat):(a::l).count x=l.count x+(if a=x then 1 else 0):=by
 rw[aeK];simp[beq_iff_eq]
theorem aV(x:Nat)(l m:List Nat):(l++m).count x=l.count x+m.count x:=aeM
def av(k:aM):List Nat:=k.b::k.F
theorem Pf(ks:List aM)(n:Nat)(x:Nat):(ks.flatMap av).count x=((ks.take n).flatMap av).count x+((ks.drop n).flatMap av).count x:=by
 rw[<-aeM,<-aeN,List.take_append_drop]
theorem tK(ks ms:List aM)(x:Nat):((ks++ms).flatMap av).count x=(ks.flatMap av).count x+(ms.flatMap av).count x:=by
 rw[aeN,aeM]
theorem GG(k:aM)(x:Nat):([k].flatMap av).count x=(if k.b=x then 1 else 0)+k.F.count x:=by
 simp only[YU,aaJ,aaK,av];rw[aD];omega
theorem Q7{ks:List aM}(h:∀k∈ks,k.b<B/\∀g∈k.F,g<B):(ks.flatMap av).count x=0\/x<B:=cnt_lt fun g hg=>by
 obtain⟨k,hk,hm⟩:=List.mem_flatMap.1 hg;rcases List.mem_cons.1 hm with rfl|hm
 · exact(h k hk).1
 exact(h k hk).2 g hm
def pre{α:Type}:List (List α)->List α->Nat->List α
 |l::ls,e::es,i+1=>l++e::pre ls es i
 |_,_,_=>[]
theorem uA{α:Type}(ls:List (List α))(es:List α):pre ls es 0=[]:=by cases ls<;>cases es<;>rfl
theorem Gs{α:Type}:∀(ls:List (List α)) (es:List α) (i:Nat) (h:i<es.length) (h2:i<ls.length),pre ls es (i+1)=pre ls es i++ls[i]++[es[i]]
 |[],_,i,_,h2=>by simp at h2
 |_::_,[],i,h,_=>by simp at h
 |l::ls,e::es,0,_,_=>by simp[pre,uA]
 |l::ls,e::es,i+1,h,h2=>by
  have:=Gs ls es i (by simpa using h) (by simpa using h2);simp[pre,this]
theorem Df{α:Type}:∀(ls:List (List α)) (es:List α) (h:ls.length=es.length+1),aF ls es=pre ls es es.length++ls[es.length]
 |[],_,h=>by simp at h
 |l::ls,[],h=>by simp[aF,uA]
 |l::ls,e::es,h=>by
  have:=Df ls es (by simpa using h);simp[aF,pre,this]
theorem Ct{α:Type}:∀(ls:List (List α)) (es:List α) (i:Nat) (h:i<es.length) (h2:ls.length=es.length+1),∃S,aF ls es=pre ls es i++ls[i]++es[i]::S
 |[],_,i,_,h2=>by simp at h2
 |_::_,[],i,h,_=>by simp at h
 |l::ls,e::es,0,_,_=>⟨aF ls es,by simp[aF,uA]⟩
 |l::ls,e::es,i+1,h,h2=>by
  obtain⟨S,hS⟩:=Ct ls es i (by simpa using h) (by simpa using h2);exact⟨S,by simp[aF,pre,hS]⟩
theorem fM{α:Type}:∀(ls:List (List α)) (es:List α),ls.length=es.length+1->∀e∈es,e∈aF ls es
 |[],_,h,_,_=>by simp at h
 |l::ls,[],h,e,he=>by simp at he
 |l::ls,a::es,h,e,he=>by
  have:=fM ls es (by simpa using h);rcases List.mem_cons.1 he with rfl|he
  · simp[aF]
  simp[aF,this e he]
theorem yj{α:Type}:∀(es:List α) (ls:List (List α)) (l m:List α) (e:α),ls.length=es.length->aF (ls++[l,m]) (es++[e])=aF (ls++[l++e::m]) es
 |[],[],l,m,e,_=>by simp[aF]
 |[],_::_,_,_,_,h=>by simp at h
 |a::es,[],_,_,_,h=>by simp at h
 |a::es,l0::ls,l,m,e,h=>by
  have:=yj es ls l m e (by simpa using h);simp[aF,this]
theorem FV{α:Type}(es:List α)(ls:List (List α))(h1:es.length=7)(h2:ls.length=8):∃e,es[3]? =Y2 e/\aF ls es=aF (ls.take 4) (es.take 3)++e::aF (ls.drop 4) (es.drop 4):=by
 match es,h1 with
 |[a,b,c,d,e,f,g],_=>
  match ls,h2 with
  |[l0,l1,l2,l3,l4,l5,l6,l7],_=>exact⟨d,rfl,by simp[aF]⟩
end Bt
namespace Bt
def Tr:Ty:=⟨265,266,124⟩
theorem eF(b off:Nat)(ka:Option abR)(kc:Nat)(w:Y4)(hb:b<w.heap.size)(c1:w.cell? ⟨b,off+1,Y1⟩=Y2 (Yp ka 0 kc)):
   aaT Zc 154 #[Ym (Y2 ⟨b,off,Y1⟩)] w fun x w'=>x=Yl (.bool true)/\w'=w:=by
 go_enter aeO,aeP;go_wp2_with fail;go_ret;exact⟨rfl,rfl⟩
theorem gz(b off n:Nat)(ka:Option abR)(kc:Nat)(w:Y4)(hn:((n:Int)==0)=false)(hb:b<w.heap.size)(c1:w.cell? ⟨b,off+1,Y1⟩=Y2 (Yp ka n kc)):
   aaT Zc 154 #[Ym (Y2 ⟨b,off,Y1⟩)] w fun x w'=>x=Yl (.bool false)/\w'=w:=by
 go_enter aeO,aeP;go_wp2_with fail;go_ret;exact⟨rfl,rfl⟩
def wO(e:Y3×Y3):Prop:=∃z ra rn rc,e=(Yg Yh z,Yp ra rn rc)
theorem jW:∀{L:List (Y3×Y3)},(∀e∈L,wO e)->∀u∈ah L,u.oneCell'=true
 |[],_,u,hu=>by simp[ah]at hu
 |e::r,h,u,hu=>by
  obtain⟨z,ra,rn,rc,rfl⟩:=h e (by simp);simp only[ah,aeQ]at hu;rcases hu with rfl|rfl|hu
  · rfl
  · rfl
  exact jW (fun e he=>h e (by simp[he])) u hu
theorem gY{T:Y5}{gv i cap:Nat}(hg:w.heap[gv]? =Y2 (.cells cur T (0,0)))(hx:xs.length=i*s)(hi:i<=cap)(hm:cap<=aaV)(hs:cur.size=cap*s)(ht:cur.toList.take (i*s)=xs):
   w.ownsRow 0 T s (Yp (Y2 ⟨gv,0,Y1⟩) i cap) i xs:=⟨hx,.inr ⟨gv,cap,cur,rfl,aeR _,hg,hi,hm,hs,ht⟩⟩
theorem aA{T:Y5}{n:Nat}(h:w.ownsRow 0 T s v n xs)(hn:n≠0):∃gv cap cur,v=Yp (Y2 ⟨gv,0,Y1⟩) n cap/\w.heap[gv]? =Y2 (.cells cur T (0,0))/\n<=cap/\cap<=aaV/\cur.size=cap*s/\cur.toList.take (n*s)=xs:=by
 have hl:=h.1;rcases h.2 with⟨_,h0⟩|⟨g,cap,cur,rfl,hb,hg,h1,h2,h3,h4⟩
 · exact absurd h0 hn
 exact⟨g,cap,cur,rfl,hg,h1,h2,h3,h4⟩
end Bt
namespace Bt
def bz(M:List (Int×Y3)):List (Y3×Y3):=M.map fun e=>(Yg Yh e.1,e.2)
theorem P8(M:List (Int×Y3))(i:Nat)(h:i<M.length):(ah (bz M))[i*2]? =Y2 (Yg Yh M[i].1):=by
 rw[fo _ i (by simpa[bz]using h)];simp[bz]
theorem NS(M:List (Int×Y3))(i:Nat)(h:i<M.length):(ah (bz M))[i*2+1]? =Y2 M[i].2:=by
 rw[eZ _ i (by simpa[bz]using h)];simp[bz]
def FY(M:List (Int×Y3)):Prop:=M.Pairwise fun a b=>a.1<b.1
def cnt(M:List (Int×Y3))(z:Int):Nat:=M.countP fun e=>decide (e.1<z)
def has(M:List (Int×Y3))(z:Int):Bool:=M.any fun e=>e.1==z
theorem jI(M:List (Int×Y3))(z:Int):cnt M z<=M.length:=List.countP_le_length
theorem FY.parts{M:List (Int×Y3)}(h:FY M)(z:Int):(∀(t:Nat) (k:t<M.length),t<cnt M z->M[t].1<z)/\(∀(t:Nat) (k:t<M.length),cnt M z<=t->z<=M[t].1):=by
 have H:=List.pairwise_iff_getElem.1 h
 induction M with
 |nil=>exact⟨fun t k=>by simp at k,fun t k=>by simp at k⟩
 |cons a r ih=>
  have hr:FY r:=h.of_cons;have ihr:=ih hr (List.pairwise_iff_getElem.1 hr);by_cases ha:a.1<z
  · have hc:cnt (a::r) z=cnt r z+1:=by unfold cnt;rw[aeS (by simpa using ha)]
    rw[hc]
    constructor
    · intro t k ht
      cases t with
      |zero=>exact ha
      |succ t=>exact ihr.1 t (by simpa using k) (by omega)
    intro t k ht
    cases t with
    |zero=>omega
    |succ t=>exact ihr.2 t (by simpa using k) (by omega)
  have h0:∀x∈r,¬x.1<z:=fun x hx=>by
   have:=aeT h hx;omega
  have hc:cnt (a::r) z=0:=by
   unfold cnt;rw[List.countP_eq_zero];intro x hx;rcases List.mem_cons.1 hx with rfl|hx
   · simpa using ha
   simpa using h0 x hx
  rw[hc];refine⟨fun t k ht=>by omega,fun t k _=> ?_⟩;have:=acw k;rcases List.mem_cons.1 this with h1|h1
  · rw[h1];omega
  have:=h0 _ h1;omega
theorem TY{M:List (Int×Y3)}(h:FY M)(z:Int):has M z=(decide (cnt M z<M.length)&&(if k:cnt M z<M.length then M[cnt M z].1==z else false)):=by
 obtain⟨h1,h2⟩:=h.parts z;by_cases hc:cnt M z<M.length
 · rw[dif_pos hc,decide_eq_true hc,aeU]
   cases hh:M[cnt M z].1==z with
   |true=>exact List.any_eq_true.2 ⟨_,acw hc,hh⟩
   |false=>
    refine Bool.eq_false_iff.2 fun hx=> ?_
    obtain⟨x,hm,hxz⟩:=List.any_eq_true.1 hx;obtain⟨t,ht,rfl⟩:=aeg hm;simp at hxz hh;have a1:=h1 t ht;have a2:=h2 _ hc (nlr _);have H:=List.pairwise_iff_getElem.1 h;rcases Nat.lt_trichotomy t (cnt M z)with h3|h3|h3
    · have:=a1 h3;omega
    · subst h3;exact hh hxz
    have:=H _ _ hc ht h3;omega
 rw[dif_neg hc,decide_eq_false hc,Bool.false_and]
 refine Bool.eq_false_iff.2 fun hx=> ?_
 obtain⟨x,hm,hxz⟩:=List.any_eq_true.1 hx;obtain⟨t,ht,rfl⟩:=aeg hm;simp at hxz;have:=h1 t ht (by omega);omega
theorem BC(a z:Int)(v:Y3)(ra:Option abR)(rn rc:Nat)(w:Y4)(hv:v=Yp ra rn rc):aaT Zc 260 #[Yj #[Yg Yh a,v],Yg Yh z] w fun x w'=>x=Yl (Yg Yh (aeV a z))/\aaS w.heap.size w w':=by
 subst hv
 have HB:Yf (aaS w.heap.size w (w.alloc (Yk #[Yg Yh a,Yp ra rn rc] 265))):=by show aaS _ _ _;go_grown
 go_enter Tryz.func260,Tryz.ntmps260;go_wp2_with fail;refine(Mn.FJ _ _ _).mono ?_;rintro x w1 ⟨rfl,rfl⟩;go_wp2_with fail;go_ret;exact⟨rfl,HB.o⟩
def Rows(M:List (Int×Y3)):Prop:=∀e∈M,∃ra rn rc,e.2=Yp ra rn rc
theorem JZ(a b:Int):aeV a b<0↔a<b:=by unfold aeV;split<;>(try split)<;>omega
theorem QI(a b:Int):(aeV a b==0)=(a==b):=by
 unfold aeV;rcases Int.lt_trichotomy a b with h|h|h
 · rw[if_pos h];simp;omega
 · subst h;simp
 rw[if_neg (by omega),if_pos h];simp;omega
theorem H7(M:List (Int×Y3))(z:Int)(ve:Y3)(w:Y4)(hs:FY M)(hr:Rows M)(hn:M.length<=1000000)(ho:w.ownsRow 0 265 2 ve M.length (ah (bz M))):
   aaT Zc 259 #[ve,Yg Yh z,.func (.func 260) #[] #[]] w fun x w'=>x=Yl (Yn #[Yg Yh (cnt M z:Nat),.bool (has M z)])/\aaS w.heap.size w w':=by
 have HS:=hd hs;have HR:=hd hr;have HP:=hd (hs.parts z);have HH:=hd (TY hs z);have HCL:=hd (jI M z);obtain⟨ao,cp,rfl⟩:=ai ho
 have HC:Yf (∀(t:Nat) (k:t<M.length),∃g,ao=Y2 ⟨g,0,Y1⟩/\g<w.heap.size/\w.cell? ⟨g,t*2,Y1⟩=Y2 (Yg Yh M[t].1)/\w.cell? ⟨g,t*2+1,Y1⟩=Y2 M[t].2):=by
  show∀_,_;intro t k;obtain⟨g,c,hv,_,hg,_,_,hcl⟩:=CR ho (by omega);injection hv with hv;exact⟨g,hv,hg,hcl _ _ (P8 M t k),hcl _ _ (NS M t k)⟩
 generalize hcnt:cnt M z=cz at*;generalize hhas:has M z=hz at*;go_enter Tryz.func259,Tryz.ntmps259;go_wp2_with fail;go_loopw [9,10] (fun i j wr=>∃a b:Nat,i=Yg Yh a/\j=Yg Yh b/\a<=cz/\cz<=b/\b<=M.length/\Yf (aaS w.heap.size w wr)) (fun i j _=>(intOf j).toNat-(intOf i).toNat)
 case atStart=>exact⟨0,M.length,rfl,rfl,by omega,HCL.o,nlr _,Zh _ _⟩
 case round=>
  obtain⟨a,b,rfl,rfl,ha,hb,hbn,HW⟩:=hrel;by_cases hab:a<b
  · have hm:(a+b)/2<M.length:=by omega
    obtain⟨g,hve,hg,c0,c1⟩:=HC.o _ hm;have d0:=(HW.o.cell (p:=⟨g,(a+b)/2*2,Y1⟩) hg).trans c0;have d1:=(HW.o.cell (p:=⟨g,(a+b)/2*2+1,Y1⟩) hg).trans c1;obtain⟨ra,rn,rc,hrow⟩:=HR.o _ (acw hm);rw[hrow]at d1;have HP1:=hd (HP.o.1 _ hm);have HP2:=hd (HP.o.2 _ hm);have hg2:=nlA hg HW.o.size;subst hve;generalize M[(a+b)/2].1=y at*;go_wp2_with fail;refine(BC y z _ ra rn rc _ rfl).mono ?_;rintro x w1 ⟨rfl,hb1⟩;have HW1:=hd (HW.o.trans (hb1.mono HW.o.size));by_cases hy:y<z
    · have hlt:aeV y z<0:=(JZ _ _).2 hy
      have hc2:(a+b)/2<cz:=by
       rcases aeW ((a+b)/2) cz with h|h
       · exact h
       have:=HP2.o h;omega
      generalize aeV y z=o at*;go_wp2_with fail;go_roundw
      case rel=>exact⟨(a+b)/2+1,b,by go_num,rfl,by omega,hb,hbn,HW1⟩
      case measure=>simp[intOf];omega
    have hlt:¬aeV y z<0:=fun h=>hy ((JZ _ _).1 h)
    have hc2:cz<=(a+b)/2:=by
     rcases aeW ((a+b)/2) cz with h|h
     · have:=HP1.o h;omega
     exact h
    generalize aeV y z=o at*;go_wp2_with fail;go_roundw
    case rel=>exact⟨a,(a+b)/2,rfl,by go_num,ha,hc2,by omega,HW1⟩
    case measure=>simp[intOf];omega
  obtain rfl:b=a:=by omega
  obtain rfl:b=cz:=by omega
  by_cases hm:b<M.length
  · obtain⟨g,hve,hg,c0,c1⟩:=HC.o _ hm;have d0:=(HW.o.cell (p:=⟨g,b*2,Y1⟩) hg).trans c0;have d1:=(HW.o.cell (p:=⟨g,b*2+1,Y1⟩) hg).trans c1;obtain⟨ra,rn,rc,hrow⟩:=HR.o _ (acw hm);rw[hrow]at d1;have hg2:=nlA hg HW.o.size
    have HHZ:Yf (hz=(M[b].1==z)):=by show _=_;rw[HH.o,dif_pos hm,decide_eq_true hm,aeU]
    subst hve;generalize M[b].1=y at*;go_wp2_with fail;refine(BC y z _ ra rn rc _ rfl).mono ?_;rintro x w1 ⟨rfl,hb1⟩;have HW1:=hd (HW.o.trans (hb1.mono HW.o.size));have hq:=QI y z;generalize aeV y z=o at*;go_wp2_with fail
    go_ret2
    exact⟨by rw[HHZ.o,<-hq];rfl,HW1.o⟩
  have HHZ:Yf (hz=false):=by show _=_;rw[HH.o,dif_neg hm];simp
  go_wp2_with fail
  go_ret2
  exact⟨by rw[HHZ.o];rfl,HW.o⟩
end Bt
namespace Bt
theorem xX(M:List (Int×Y3))(z:Int)(ve:Y3)(b off:Nat)(w:Y4)(hb:b<w.heap.size)(c0:w.cell? ⟨b,off,Y1⟩=Y2 ve)(hs:FY M)(hr:Rows M)(hn:M.length<=1000000)(ho:w.ownsRow 0 265 2 ve M.length (ah (bz M))):
   aaT Zc 203 #[Ym (Y2 ⟨b,off,Y1⟩),Yg Yh z] w fun x w'=>x=Yl (Yn #[Yg Yh (cnt M z:Nat),.bool (has M z)])/\aaS w.heap.size w w':=by
 have HS:=hd (H7 M z ve w hs hr hn ho);obtain⟨ao,cp,rfl⟩:=ai ho;clear ho hs hr;go_enter Tryz.func203,Tryz.ntmps203;go_wp2_with fail;refine HS.o.mono ?_;rintro x w1 ⟨rfl,h1⟩;have HB:=hd h1;clear h1;go_wp2_with fail
 go_ret2
 exact⟨rfl,HB.o⟩
theorem rD(ve:Y3)(n:Nat)(xs:List Y3)(z:Int)(ra:Option abR)(rn rc:Nat)(g:Nat)(w:Y4)(hn:n<=1000000)(ho:w.ownsRow 0 265 2 ve n xs)(hg:g<w.heap.size)(e0:w.cell? ⟨g,0,Y1⟩=Y2 (Yg Yh z))(e1:w.cell? ⟨g,1,Y1⟩=Y2 (Yp ra rn rc)):
   aaT Zc 204 #[ve,Yg Yh n,Yp (Y2 ⟨g,0,Y1⟩) 1 1] w fun x w'=>∃v,x=Yl v/\w'.ownsRow 0 265 2 v (n+1) (xs++[Yg Yh z,Yp ra rn rc])/\w.grownBy w' ve.ownBlock/\∀k∈own v,k∈own ve\/w.heap.size<=k:=by
 obtain⟨i0,hi,hz0,hz1,hz2⟩:=aaX Ti.Tryz.info265
 have HC:Yf (∀j u,([Yg Yh z,Yp ra rn rc]:List Y3)[j]? =Y2 u->w.cell? ((⟨g,0,Y1⟩:abR).add j)=Y2 u):=fun j u hu=>by
  rw[Zn,Ze]
  match j,hu with
  |0,hu=>simp at hu;rw[<-hu];exact e0
  |1,hu=>simp at hu;rw[<-hu];exact e1
 have HO:=hd ho
 have hsl:(ve=Yp Y1 0 0/\n=0)\/∃gv cap,ve=Yp (Y2 ⟨gv,0,Y1⟩) n cap/\n<=cap:=by
  rcases ho.2 with h|⟨gv,cap,cur,h1,_,_,h2,_⟩
  · exact .inl h
  exact .inr ⟨gv,cap,h1,h2⟩
 clear ho e0 e1;rcases hsl with⟨rfl,rfl⟩|⟨gv,cap,rfl,hcap⟩;rotate_left;rcases acg hcap with hlt|rfl
 all_goals
  go_enter Tryz.func204,Tryz.ntmps204
  go_wp2_with(first
   |(at_builtin;refine bR rfl _ _ 121 rfl 0 265 i0 (Yj #[Yg Yh 0,Yp Y1 0 0]) 2 32 aeX hi hz0 hz1 hz2 rfl (by decide) _ _ _ rfl HO.o ⟨g,0,Y1⟩ 1 1 [Yg Yh z,Yp ra rn rc] rfl rfl ?c1 ?c2 ?c3 ?c4 ?c5 ?_)
   |fail)
  case c1=>exact HC.o
  case c2=>intro u hu;simp at hu;rcases hu with rfl|rfl<;>rfl
  case c3=>simp only[aaV];omega
  case c4=>omega
  case c5=>exact aeR _
  intro v' w3 hown hgrow hsub;obtain⟨ao',cp',rfl⟩:=ai hown;have HW:=hd hown;have HG:=hd hgrow;have HU:=hd hsub;clear hown hgrow hsub;go_wp2_with fail;go_ret;exact⟨_,rfl,HW.o,HG.o,HU.o⟩
end Bt
namespace Bt
theorem Tryz.info266:(Tryz.prog.info? 266).map (fun i=>(i.zero,i.size,i.bytes))=Y2 (Y2 (.pointer Y1),1,8):=by kernel_rfl
theorem qw(ve:Y3)(n:Nat)(xs:List Y3)(kb:Nat)(g:Nat)(w:Y4)(hn:n<=1000000)(ho:w.ownsRow 0 266 1 ve n xs)(hg:g<w.heap.size)(e0:w.cell? ⟨g,0,Y1⟩=Y2 (Ym (Y2 ⟨kb,0,Y1⟩))):
   aaT Zc 208 #[ve,Yg Yh n,Yp (Y2 ⟨g,0,Y1⟩) 1 1] w fun x w'=>∃v,x=Yl v/\w'.ownsRow 0 266 1 v (n+1) (xs++[Ym (Y2 ⟨kb,0,Y1⟩)])/\w.grownBy w' ve.ownBlock/\∀k∈own v,k∈own ve\/w.heap.size<=k:=by
 obtain⟨i0,hi,hz0,hz1,hz2⟩:=aaX Tryz.info266
 have HC:Yf (∀j u,([Ym (Y2 ⟨kb,0,Y1⟩)]:List Y3)[j]? =Y2 u->w.cell? ((⟨g,0,Y1⟩:abR).add j)=Y2 u):=fun j u hu=>by
  rw[Zn,Ze]
  match j,hu with
  |0,hu=>simp at hu;rw[<-hu];exact e0
 have HO:=hd ho
 have hsl:(ve=Yp Y1 0 0/\n=0)\/∃gv cap,ve=Yp (Y2 ⟨gv,0,Y1⟩) n cap/\n<=cap:=by
  rcases ho.2 with h|⟨gv,cap,cur,h1,_,_,h2,_⟩
  · exact .inl h
  exact .inr ⟨gv,cap,h1,h2⟩
 clear ho e0;rcases hsl with⟨rfl,rfl⟩|⟨gv,cap,rfl,hcap⟩;rotate_left;rcases acg hcap with hlt|rfl
 all_goals
  go_enter Tryz.func208,Tryz.ntmps208
  go_wp2_with(first
   |(at_builtin;refine bR rfl _ _ 122 rfl 0 266 i0 (.pointer Y1) 1 8 aeY hi hz0 hz1 hz2 rfl (by decide) _ _ _ rfl HO.o ⟨g,0,Y1⟩ 1 1 [Ym (Y2 ⟨kb,0,Y1⟩)] rfl rfl ?c1 ?c2 ?c3 ?c4 ?c5 ?_)
   |fail)
  case c1=>exact HC.o
  case c2=>intro u hu;simp at hu;subst hu;rfl
  case c3=>simp only[aaV];omega
  case c4=>omega
  case c5=>exact aeR _
  intro v' w3 hown hgrow hsub;obtain⟨ao',cp',rfl⟩:=ai hown;have HW:=hd hown;have HG:=hd hgrow;have HU:=hd hsub;clear hown hgrow hsub;go_wp2_with fail;go_ret;exact⟨_,rfl,HW.o,HG.o,HU.o⟩
end Bt
namespace Bt
theorem jm{P:Program}(w:Y4)(t e ty:Y5)(z:Y3)(ht:P.underlying t=Y2 (.slice e))(hv:∀w,(zeroValue e).run P w=.ok z w)(g o n c:Nat)(cur:Array Y3)(T:Y5)(hg:w.heap[g]? =Y2 (.cells cur T (0,0)))(hn:0<n)
   (zs:List Y3) (hz:(Builtin.zeroCells z.cells n).toList=zs) (h1:∀v∈zs,v.oneCell'=true) (hl:o+zs.length<=cur.size):
   (Builtin.clear_ #[t] ty #[Yp (Y2 ⟨g,o,Y1⟩) n c]).run P w=.ok (Yn #[]) (w.setRow g (cur.toList.take o++zs++cur.toList.drop (o+zs.length)).toArray):=by
 have hst:=run_storeCells_at P g o T zs 0 cur w hg (by simpa using hl) h1;simp only[Nat.add_zero]at hst;obtain⟨m,rfl⟩:∃m,n=m+1:=⟨n-1,by omega⟩;simp[Builtin.clear_,run_underlying ht,hv,hz,hst]
end Bt
namespace Bt
theorem om(gv n cap i:Nat)(cur:Array Y3)(w:Y4)(hn:n<=1000000)(hg:w.heap[gv]? =Y2 (.cells cur 265 (0,0)))(hcs:cur.size=cap*2)(hnc:n<=cap)(hi:i<n):
   aaT Zc 264 #[Yp (Y2 ⟨gv,0,Y1⟩) n cap,Yg Yh i,Yg Yh n] w fun x w'=>x=Yl (Yp (Y2 ⟨gv,0,Y1⟩) i cap)/\ax [gv] w w'/\∃cur',w'.heap[gv]? =Y2 (.cells cur' 265 (0,0))/\cur'.size=cap*2/\cur'.toList.take (i*2)=cur.toList.take (i*2):=by
 obtain⟨i0,hi0,hz0,hz1,hz2⟩:=aaX Ti.Tryz.info265;have HG:=hd hg;have HCS:=hd hcs;have hlt:=(geA.1 hg).1
 have j1:(i:Int)<(n:Int):=by omega
 have j2:(n:Int)<=(cap:Int):=by omega
 have j3:(i:Int)<=(cap:Int):=by omega
 have hne:((i:Int)==(n:Int))=false:=by simp;omega
 clear hg hcs
 have HZV:Yf (∀w,(zeroValue 265).run Zc w=.ok (Yj #[Yg Yh 0,Yp Y1 0 0]) w):=fun w=>by simp[zeroValue,typeInfo,hi0,hz0]
 have HZ1:Yf (∀v∈(Builtin.zeroCells (Yj #[Yg Yh 0,Yp Y1 0 0]).cells (n-i)).toList,v.oneCell'=true):=by
  show∀v∈_,_;intro v hv;have hz:=aeg hv;obtain⟨k,hk,rfl⟩:=hz;simp only[Builtin.zeroCells,aeZ,afa,afb];show((#[Yg Yh 0,Yp Y1 0 0]:Array Y3)[k%2]!).oneCell'=true
  have:k%2=0\/k%2=1:=by omega
  rcases this with h|h<;>rw[h]<;>rfl
 have HZ2:Yf (i*2+(Builtin.zeroCells (Yj #[Yg Yh 0,Yp Y1 0 0]).cells (n-i)).toList.length<=cur.size):=by
  show _<=_;rw[afc,size_zeroCells,HCS.o];show i*2+(n-i)*2<=cap*2;omega
 obtain⟨W',hcl,hT⟩:∃W',(Builtin.clear_ #[121] 0 #[Yp (Y2 ⟨gv,i*2,Y1⟩) (n-i) (cap-i)]).run Zc (w.drew.setCells gv (i*2) [])=.ok (Yn #[]) W'/\ax [gv] w W'/\∃cur':Array Y3,W'.heap[gv]? =Y2 (.cells cur' 265 (0,0))/\cur'.size=cap*2/\cur'.toList.take (i*2)=cur.toList.take (i*2):=by
  refine⟨_,jm (P:=Zc) (w.drew.setCells gv (i*2) []) 121 265 0 _ aeX HZV.o gv (i*2) (n-i) (cap-i) cur 265 HG.o (by omega) _ rfl HZ1.o HZ2.o,⟨rfl,rfl,rfl,?_,fun k hk hF=> ?_⟩,_,setRow_heap _ _ cur _ _ _ HG.o,?_,?_⟩
  · show _<=(w.heap.modify _ _).size;rw[afd];exact nlr _
  · rw[setRow_other _ _ _ _ (fun e=>hF (by simp[e]))]
    rfl
  · have h2:=HZ2.o;have h3:=HCS.o;simp only[afe,aaN,adO,Yv,afc]at h2⊢;omega
  have h2:=HZ2.o;simp only[afc]at h2;rw[laa,aff (by rw[adO,afc];omega),afg,afh]
 have HCL:=hd hcl;have HT:=hd hT;clear hcl hT;rcases acg hnc with hlt'|rfl
 · go_enter afi,afj;go_wp2_with fail
   go_region_law (refine step_append_room rfl (.tmp 22) (.tmp 25) 121 rfl 265 i0 2 aeX hi0 hz1 gv 0 i cap (by simp[afk,afl]) ⟨gv,n*2,Y1⟩ 0 (cap-n) [] (by simp[afk,afl];try omega) rfl (by simp) (by simp) (by omega) (by simp) ?_)
   all_goals
    go_wp2_with fail;rw[HCL.o];go_wp2_with fail;go_ret;exact⟨rfl,HT.o⟩
 go_enter afi,afj;go_wp2_with fail
 go_region_law (refine step_append_room rfl (.tmp 22) (.tmp 25) 121 rfl 265 i0 2 aeX hi0 hz1 gv 0 i n (by simp[afk,afl]) ⟨gv,0,Y1⟩ 0 0 [] (by simp[afk,afl];try omega) rfl (by simp) (by simp) (by omega) (by simp) ?_)
 all_goals
  go_wp2_with fail;rw[HCL.o];go_wp2_with fail;go_ret;exact⟨rfl,HT.o⟩
end Bt
namespace Bt
theorem uM(ad:abR)(m c:Nat)(xs:List Y3)(w:Y4)(hm:m<=1000000)(hl:xs.length=m*2)(hc:∀j u,xs[j]? =Y2 u->w.cell? (ad.add j)=Y2 u)(h1:∀u∈xs,u.oneCell'=true):
   aaT Zc 263 #[Yp (Y2 ad) m c] w fun x w'=>∃v,x=Yl v/\w'.ownsRow w.heap.size 265 2 v m xs/\aaS w.heap.size w w':=by
 obtain⟨i0,hi,hz0,hz1,hz2⟩:=aaX Ti.Tryz.info265
 have HB0:Yf (aaS w.heap.size w (w.alloc (Yk #[] 265))):=by show aaS _ _ _;go_grown
 have HO:Yf ((w.alloc (Yk #[] 265)).ownsRow w.heap.size 265 2 (Yp (Y2 ⟨w.heap.size,0,Y1⟩) 0 0) 0 []):=afm w #[] 0 (nlr _) (by simp[aaV]) (by simp)
 have HC:Yf (∀j u,xs[j]? =Y2 u->(w.alloc (Yk #[] 265)).cell? (ad.add j)=Y2 u):=fun j u hu=>by
  have h:=hc j u hu;exact(HB0.o.cell (afn w _ h)).trans h
 have HL:=hd hl;have H1:=hd h1;have hnil:(binOp .eql 121 (Yp (Y2 ad) m c) (Yp Y1 0 0)).run Zc w=.ok (.bool false) w:=Lib.run_eql_slice_nil w 121 265 (Y2 ad) m c 0 0 aeX;clear hl hc h1;go_enter Tryz.func263,Tryz.ntmps263
 go_wp2_with(first
  |(at_builtin;refine bR rfl _ _ 121 rfl w.heap.size 265 i0 (Yj #[Yg Yh 0,Yp Y1 0 0]) 2 32 aeX hi hz0 hz1 hz2 rfl (by decide) _ _ _ rfl HO.o ad m c xs rfl HL.o HC.o H1.o ?c3 ?c4 ?c5 ?_)
  |fail)
 case c3=>simp only[aaV];omega
 case c4=>omega
 case c5=>exact HB0.o.size
 intro v' w3 hown hgrow hsub;obtain⟨ao',cp',rfl⟩:=ai hown
 have HW:Yf (w3.ownsRow w.heap.size 265 2 (Yp ao' m cp') m xs):=by show aaO _ _ _ _ _ _ _;simpa using hown
 have HG:Yf (aaS w.heap.size w w3):=⟨hgrow.os,hgrow.tape,hgrow.output,YB HB0.o.size hgrow.size,fun k hk=>(hgrow.block k (nlA hk HB0.o.size) (by simp[aaR];omega)).trans (HB0.o.block k hk)⟩;clear hown hgrow hsub;go_wp2_with fail;go_ret;exact⟨_,rfl,HW.o,HG.o⟩
end Bt
namespace Bt
theorem zH(b off gv n cap i:Nat)(cs cur:Array Y3)(T:Y5)(w:Y4)(hn:n<=1000000)(hB:ae w b cs T)(h0:cs[off]? =Y2 (Yp (Y2 ⟨gv,0,Y1⟩) n cap))(hg:w.heap[gv]? =Y2 (.cells cur 265 (0,0)))(hcs:cur.size=cap*2)(hnc:n<=cap)(hi:i<n)(hgb:gv≠b)
   (h1:∀u∈(cur.toList.take (n*2)).drop (i*2),u.oneCell'=true):
   aaT Zc 205 #[Ym (Y2 ⟨b,off,Y1⟩),Yg Yh i] w fun x w'=>∃v,x=Yl v/\ax [b,gv] w w'/\w'.ownsRow w.heap.size 265 2 v (n-i) ((cur.toList.take (n*2)).drop (i*2))/\ae w' b (cs.setIfInBounds off (Yp (Y2 ⟨gv,0,Y1⟩) i cap)) T/\
     ∃cur',w'.heap[gv]? =Y2 (.cells cur' 265 (0,0))/\cur'.size=cap*2/\cur'.toList.take (i*2)=cur.toList.take (i*2):=by
 have HB:=hd hB;have c0:=(hB.cell off).trans h0;have hbl:=hB.lt;have hgl:=(geA.1 hg).1;have HG:=hd hg;have HCS:=hd hcs;have H0:=hd h0
 have j1:(i:Int)<(n:Int):=by omega
 have j2:(i:Int)<=(n:Int):=by omega
 have j3:(n:Int)<=(cap:Int):=by omega
 have hci:¬cap=i:=by omega
 have HCL:=hd (uM ⟨gv,i*2,Y1⟩ (n-i) (cap-i) ((cur.toList.take (n*2)).drop (i*2)) w (by omega) (by rw[Yv,adO,afc];omega) (fun j u hu=>by
  rw[YO,afo]at hu
  split at hu
  · rw[Zn,(show ae w gv cur 265 from hg).cell];simpa using hu
  cases hu) h1)
 clear hB h0 hg hcs h1;go_enter Tryz.func205,Tryz.ntmps205;go_wp2_with fail;refine HCL.o.mono ?_;rintro x w1 ⟨v,rfl,hown,hb1⟩;obtain⟨ao',cp',rfl⟩:=ai hown;have HOW:=hd hown;have HB1:=hd hb1;have K1:=HB.o.below hb1 hbl;have c1:=(K1.cell off).trans H0.o;have TC:=K1.lt
 have HG1:Yf (w1.heap[gv]? =Y2 (.cells cur 265 (0,0))):=by show _=_;rw[hb1.block gv hgl];exact HG.o
 have HDL:=hd (om gv n cap i cur (abA w1) hn HG1.o HCS.o hnc hi);have HK1:=hd K1;clear hown hb1 K1 c0 HCL;go_wp2_with fail
 go_region_with (
   go_at_call 264
   refine HDL.o.mono ?_;rintro x w2 ⟨rfl,ht2,hc2⟩;have K2:=ht2.blk HK1.o.drew (by simp;omega);have d1:=(K2.cell off).trans H0.o;have f1:=K2.free off;have Wn:=K2.lt;have HT2:=hd ht2;have HC2:=hd hc2;have HK2:=hd K2
   clear ht2 hc2 K2)
 all_goals
  go_wp2_with fail;go_ret;refine⟨_,rfl,?_,?_,HK2.o.set off _,?_⟩
  · exact((ax.of (F:=[b,gv]) HB1.o).trans HT2.o.bW (fun k hk=> .inl (by simp at hk;simp[hk]))).set _ _ (.inl (by simp))
  · refine aK HOW.o fun k hk=> ?_
    have h2:=HOW.o.lt k (by simpa[own]using hk);rw[Zb _ _ _ _ (by show k≠b;omega)];exact HT2.o.bW.block k h2.2 (by simp;omega)
  obtain⟨cur',h2,h3⟩:=HC2.o;exact⟨cur',by rw[Zb _ _ _ _ (by show gv≠b;exact hgb)];exact h2,h3⟩
end Bt
namespace Bt
theorem vF(b off gv n cap i:Nat)(z:Int)(ra:Option abR)(rn rc:Nat)(cs cur:Array Y3)(T:Y5)(w:Y4)(hn:n<=1000000)(hB:ae w b cs T)(h0:cs[off]? =Y2 (Yp (Y2 ⟨gv,0,Y1⟩) n cap))(hg:w.heap[gv]? =Y2 (.cells cur 265 (0,0)))(hcs:cur.size=cap*2)(hnc:n<=cap)(hi:i+1=n)(hgb:gv≠b)
   (k0:cur[i*2]? =Y2 (Yg Yh z)) (k1:cur[i*2+1]? =Y2 (Yp ra rn rc)):
   aaT Zc 207 #[Ym (Y2 ⟨b,off,Y1⟩),Yg Yh i] w fun x w'=>x=Yl (Yj #[Yg Yh z,Yp ra rn rc])/\ax [b,gv] w w'/\ae w' b (cs.setIfInBounds off (Yp (Y2 ⟨gv,0,Y1⟩) i cap)) T/\
     ∃cur',w'.heap[gv]? =Y2 (.cells cur' 265 (0,0))/\cur'.size=cap*2/\cur'.toList.take (i*2)=cur.toList.take (i*2):=by
 have HB0:Yf (aaS w.heap.size w ((w.alloc (Yk #[Yg Yh 0,Yp Y1 0 0] 265)).alloc (Yk #[Yg Yh z,Yp ra rn rc] 265))):=by show aaS _ _ _;go_grown
 have HR0:=hd ((ae.new w #[Yg Yh 0,Yp Y1 0 0] 265).alloc (Yk #[Yg Yh z,Yp ra rn rc] 265));have HE0:=hd (ae.new (w.alloc (Yk #[Yg Yh 0,Yp Y1 0 0] 265)) #[Yg Yh z,Yp ra rn rc] 265);rw[ZC]at HE0;have c0:=(hB.cell off).trans h0;have hbl:=hB.lt;have hgl:=(geA.1 hg).1;have g0:=((show ae w gv cur 265 from hg).cell (i*2)).trans k0;have g1:=((show ae w gv cur 265 from hg).cell (i*2+1)).trans k1;have HB:=hd (hB.below HB0.o hbl);have HBW:=hd hB;have H0:=hd h0;have d0:=(HB.o.cell off).trans h0;have TC:=HB.o.lt;have HDL:=hd (om gv n cap i cur ((w.alloc (Yk #[Yg Yh 0,Yp Y1 0 0] 265)).alloc (Yk #[Yg Yh z,Yp ra rn rc] 265)) hn (by rw[HB0.o.block gv hgl];exact hg) hcs hnc (by omega))
 have e1:(i:Int)+1=(n:Int):=by omega
 have j1:(i:Int)<(n:Int):=by omega
 have hin:i<n:=by omega
 clear hB h0 hg hcs k0 k1 hi;go_enter Tryz.func207,Tryz.ntmps207;go_wp2_with fail;refine HDL.o.mono ?_;rintro x w2 ⟨rfl,ht2,hc2⟩;have K2:=ht2.blk HB.o (by simp;omega);have R2:=ht2.blk HR0.o (by simp;omega);have E2:=ht2.blk HE0.o (by simp;omega);have p0:=(K2.cell off).trans H0.o;have f0:=K2.free off;have hl2:=K2.lt;have q0:=E2.cell 0;have q1:=E2.cell 1;have r0:=R2.cell 0;have r1:=R2.cell 1;simp at q0 q1 r0 r1;have fr0:=R2.free 0;have fr1:=R2.free 1;have lr:=R2.lt;have le:=E2.lt
 have n1:b≠w.heap.size:=by omega
 have n2:b≠w.heap.size+1:=by omega
 have HT2:=hd ht2;have HC2:=hd hc2;have HK2:=hd K2;have HR2:=hd R2;have S:=((((K2.set off (Yp (Y2 ⟨gv,0,Y1⟩) i cap)).far ⟨w.heap.size,0,Y1⟩ (Yg Yh z) (by show w.heap.size≠b;omega)).far ⟨w.heap.size,1,Y1⟩ (Yp ra rn rc) (by show w.heap.size≠b;omega)));have S2:=(((R2.far ⟨b,off,Y1⟩ (Yp (Y2 ⟨gv,0,Y1⟩) i cap) (by show b≠w.heap.size;omega)).set 0 (Yg Yh z)).set 1 (Yp ra rn rc));have s0:=S2.cell 0;have s1:=S2.cell 1;simp at s0 s1;have HS:=hd S;clear ht2 hc2 K2 R2 E2 S S2 c0 g0 g1 d0;go_wp2_with fail;refine bodyPost_ret (v:=Yj #[Yg Yh z,Yp ra rn rc]) (by simp[results,Tryz.results207,go_sem,s0,s1]) rfl ?_;refine⟨rfl,?_,HS.o,?_⟩
 · exact((((ax.of (F:=[b,gv]) HB0.o).trans HT2.o (fun k hk=> .inl (by simp at hk;simp[hk]))).set ⟨b,off,Y1⟩ _ (.inl (by simp))).set ⟨w.heap.size,0,Y1⟩ _ (.inr (nlr _))).set ⟨w.heap.size,1,Y1⟩ _ (.inr (nlr _))
 obtain⟨cur',h2,h3⟩:=HC2.o;refine⟨cur',?_,h3⟩;rw[Zb _ _ _ _ (by show gv≠w.heap.size;omega),Zb _ _ _ _ (by show gv≠w.heap.size;omega),Zb _ _ _ _ (by show gv≠b;exact hgb)];exact h2
end Bt
namespace Bt
theorem ax.alloc{w':Y4}(h:ax F w w')(o:Obj):ax F w (w'.alloc o):=h.trans (G:=[]) (ax.of ((Zh w'.heap.size w').alloc (nlr _) o)) (by simp)
theorem af{w':Y4}{e:Y5}{n:Nat}(h:w.ownsRow b e s v n xs)(ht:ax F w w')(hF:∀g∈own v,g∉F):w'.ownsRow b e s v n xs:=
 aK h fun g hg=>ht.block g (aQ h g hg) (hF g hg)
theorem GY(b off n gk ck kb gv cap:Nat)(ka:Option abR)(kc:Nat)(cs cur:Array Y3)(T:Y5)(ve:Y3)(xs ys:List Y3)(z:Int)(ra:Option abR)(rn rc:Nat)(w:Y4)(hn:n<=1000)(hB:ae w b cs T)(h0:cs[off]? =Y2 ve)(h1:cs[off+1]? =Y2 (Yp (Y2 ⟨gk,0,Y1⟩) (n+1) ck))
   (hve:w.ownsRow 0 265 2 ve n xs) (hvk:w.ownsRow 0 266 1 (Yp (Y2 ⟨gk,0,Y1⟩) (n+1) ck) (n+1) ys) (hlast:ys[n]? =Y2 (Ym (Y2 ⟨kb,0,Y1⟩)))
   (hk:ae w kb #[Yp (Y2 ⟨gv,0,Y1⟩) 7 cap,Yp ka 0 kc] 124) (hg:w.heap[gv]? =Y2 (.cells cur 265 (0,0))) (hcs:cur.size=cap*2) (hnc:7<=cap) (hcm:cap<=aaV)
   (k0:cur[6]? =Y2 (Yg Yh z)) (k1:cur[7]? =Y2 (Yp ra rn rc)) (h8:∀u∈(cur.toList.take (7*2)).drop (4*2),u.oneCell'=true)
   (hd0:b≠kb/\b≠gv/\b≠gk/\kb≠gv/\kb≠gk/\gv≠gk/\b∉own ve/\kb∉own ve/\gv∉own ve/\gk∉own ve):
   aaT Zc 150 #[Ym (Y2 ⟨b,off,Y1⟩),Yg Yh n] w fun x w'=>x=Yl (Yn #[])/\∃ve' vk' v gh N1 N2,ax ([b,gk,kb,gv]++own ve) w w'/\ae w' b ((cs.setIfInBounds off ve').setIfInBounds (off+1) vk') T/\
     w'.ownsRow 0 265 2 ve' (n+1) (xs++[Yg Yh z,Yp ra rn rc])/\w'.ownsRow 0 266 1 vk' (n+2) (ys++[Ym (Y2 ⟨gh,0,Y1⟩)])/\
     ae w' kb #[Yp (Y2 ⟨gv,0,Y1⟩) 3 cap,Yp ka 0 kc] 124/\(∃cur',w'.heap[gv]? =Y2 (.cells cur' 265 (0,0))/\cur'.size=cap*2/\cur'.toList.take (3*2)=cur.toList.take (3*2))/\ae w' gh #[v,Yp Y1 0 0] 124/\w'.ownsRow w.heap.size 265 2 v 3 ((cur.toList.take (7*2)).drop (4*2))/\(∀g∈own v,w.heap.size<=g/\g<gh)/\
     gh<N1/\N1<=N2/\(∀g∈own ve',g∈own ve\/(N1<=g/\g<N2))/\(∀g∈own vk',g=gk\/(N2<=g/\g<w'.heap.size)):=by
 have HB:=hd hB;have H0:=hd h0;have H1:=hd h1;have hbl:=hB.lt;have c0:=(hB.cell off).trans h0;have c1:=(hB.cell (off+1)).trans h1;have hgk:=aQ hvk gk (by simp[own,aaR]);have hkb:=hk.lt
 have q0:w.cell? ⟨gk,n,Y1⟩=Y2 (Ym (Y2 ⟨kb,0,Y1⟩)):=by
  have:=hvk.cells (g:=gk) rfl n _ hlast;simpa only[Zn,Ze]using this
 have HVE:=hd hve;have HVK:=hd hvk;have HK:=hd hk;have HG:=hd hg;have HCS:=hd hcs;have K0:=hd k0;have K1:=hd k1;have HD:=hd hd0;have hgl:=(geA.1 hg).1;have Gr:=hd (zH kb 0 gv 7 cap 4 _ cur _ w (by omega) hk rfl hg hcs hnc (by omega) hd0.2.2.2.1.symm h8)
 have j1:(n:Int)<(n:Int)+1:=by omega
 have j2:n<n+1:=by omega
 go_enter afp,afq;go_wp2_with fail;refine Gr.o.mono ?_;rintro x w1 ⟨v,rfl,ht1,hown1,hk1,hc1⟩;obtain⟨ao,cp,rfl⟩:=ai hown1;have HT1:=hd ht1;have HO1:=hd hown1;have HK1:=hd hk1;have HC1:=hd hc1;have hs1:=ht1.size;have HTA:=hd (HT1.o.alloc (Yk #[Yp ao 3 cp,Yp Y1 0 0] 124));have HGH:=hd (ae.new w1 #[Yp ao 3 cp,Yp Y1 0 0] 124);have HKA:=hd (HK1.o.alloc (Yk #[Yp ao 3 cp,Yp Y1 0 0] 124));have HOA:=hd (HO1.o.alloc (Yk #[Yp ao 3 cp,Yp Y1 0 0] 124));have p1:=HKA.o.cell 1;simp at p1;have hla:=HKA.o.lt;go_wp2_with fail;refine(eF kb 0 _ _ _ hla p1).mono ?_;rintro x w2 ⟨rfl,rfl⟩
 have Gu:Yf (∃fO,(w1.alloc (Yk #[Yp ao 3 cp,Yp Y1 0 0] 124)).heap[gv]? =Y2 (.cells fO 265 (0,0))/\fO.size=cap*2/\fO.toList.take (4*2)=cur.toList.take (4*2)):=by
  obtain⟨fO,a1,a2,a3⟩:=HC1.o;exact⟨fO,((Zh w1.heap.size w1).alloc (nlr _) _).block gv ((geA.1 a1).1)▸a1,a2,a3⟩
 have hsA:(w1.alloc (Yk #[Yp ao 3 cp,Yp Y1 0 0] 124)).heap.size=w1.heap.size+1:=ZC _ _;generalize w1.alloc (Yk #[Yp ao 3 cp,Yp Y1 0 0] 124)=wA at*;have HBA:=hd (HTA.o.blk HB.o (by have:=HD.o;simp;omega));have HVA:=hd (af HVE.o HTA.o (fun g hg=>by have:=HD.o;simp;exact⟨fun e=>this.2.2.2.2.2.2.2.1 (e▸hg),fun e=>this.2.2.2.2.2.2.2.2.1 (e▸hg)⟩));have Uj:=hd (af HVK.o HTA.o (fun g hg=>by have:=HD.o;simp[own,aaR]at hg;simp;omega));have c0:=(HBA.o.cell off).trans H0.o;have hbA:=HBA.o.lt;obtain⟨fO,En,hcs1,Ca⟩:=Gu.o
 have e6:fO[3*2]? =Y2 (Yg Yh z):=by
  have:=congrArg (fun l=>l[6]?) Ca;simp only[afo,afr]at this;simpa[K0.o]using this
 have e7:fO[3*2+1]? =Y2 (Yp ra rn rc):=by
  have:=congrArg (fun l=>l[7]?) Ca;simp only[afo,afr]at this;simpa[K1.o]using this
 have HKA2:Yf (ae wA kb #[Yp (Y2 ⟨gv,0,Y1⟩) 4 cap,Yp ka 0 kc] 124):=by show ae _ _ _ _;simpa using HKA.o
 have HTO:=hd (vF kb 0 gv 4 cap 3 z ra rn rc _ fO _ (abA wA) (by omega) HKA2.o.drew rfl En hcs1 (by omega) rfl HD.o.2.2.2.1.symm e6 e7);have Uu:=hd Ca;clear En hcs1 Ca e6 e7 Gu HC1;go_wp2_with fail
 go_region_with (first
  |(go_at_call 207
    refine HTO.o.mono ?_;rintro x w3 ⟨rfl,ht3,hk3,hc3⟩;have HT3:Yf (ax [kb,gv] wA w3):=ht3.bW;have HB3:=hd (ht3.blk HBA.o.drew (by have:=HD.o;simp;omega))
    have HK3:Yf (ae w3 kb #[Yp (Y2 ⟨gv,0,Y1⟩) 3 cap,Yp ka 0 kc] 124):=by show ae _ _ _ _;simpa using hk3
    have HC3:=hd hc3;have d0:=(HB3.o.cell off).trans H0.o;have hb3:=HB3.o.lt;have HV3:=hd (af HVA.o HT3.o (fun g hg=>by have:=HD.o;simp;exact⟨fun e=>this.2.2.2.2.2.2.2.1 (e▸hg),fun e=>this.2.2.2.2.2.2.2.2.1 (e▸hg)⟩));have HE3:=hd (ae.new w3 #[Yg Yh z,Yp ra rn rc] 265);have HIN:=hd (rD ve n xs z ra rn rc w3.heap.size (w3.alloc (Yk #[Yg Yh z,Yp ra rn rc] 265)) (by omega) (HV3.o.alloc _) HE3.o.lt ((HE3.o.cell 0).trans rfl) ((HE3.o.cell 1).trans rfl));have HB4:=hd (HB3.o.alloc (Yk #[Yg Yh z,Yp ra rn rc] 265));have d1:=(HB4.o.cell off).trans H0.o;have hb4:=HB4.o.lt
    clear ht3 hk3 hc3)
  |(go_at_call 204
    refine HIN.o.mono ?_;rintro x w4 ⟨v4,rfl,jZ,xP,Ga⟩;have HT4:Yf (ax (own ve) (w3.alloc (Yk #[Yg Yh z,Yp ra rn rc] 265)) w4):=ax.grown xP (fun k hk=>by simp[own,hk]);have HB5:=hd (HT4.o.blk HB4.o HD.o.2.2.2.2.2.2.1);have HO4:=hd jZ;have HS4:=hd Ga;have d2:=(HB5.o.cell off).trans H0.o;have f2:=HB5.o.free off;have hb5:=HB5.o.lt;obtain⟨a4,c4,rfl⟩:=ai jZ
    clear jZ xP Ga))
 all_goals
  have hN4:=HT4.o.size;have hs3:=HT3.o.size;rw[ZC]at hN4;have HB6:=hd (HB5.o.set off (Yp a4 (n+1) c4));have HT5:Yf (ax [b,gk] w4 (w4.setCell ⟨b,off,Y1⟩ (Yp a4 (n+1) c4))):=(ax.refl [b,gk] w4).set _ _ (.inl (by simp))
  have HVK5:Yf ((w4.setCell ⟨b,off,Y1⟩ (Yp a4 (n+1) c4)).ownsRow 0 266 1 (Yp (Y2 ⟨gk,0,Y1⟩) (n+1) ck) (n+1) ys):=by
   have hD:=HD.o;have x1:=af Uj.o (HT3.o.alloc (Yk #[Yg Yh z,Yp ra rn rc] 265)) (fun g hg=>by simp[own,aaR]at hg;simp;omega);have x2:=af x1 HT4.o (fun g hg=>by simp[own,aaR]at hg;rw[hg];exact hD.2.2.2.2.2.2.2.2.2);exact af x2 ((ax.refl [b] w4).set ⟨b,off,Y1⟩ (Yp a4 (n+1) c4) (.inl (by simp))) (fun g hg=>by simp[own,aaR]at hg;simp;omega)
  have hb6:=HB6.o.lt
  have g1:(w4.setCell ⟨b,off,Y1⟩ (Yp a4 (n+1) c4)).cell? ⟨b,off+1,Y1⟩=Y2 (Yp (Y2 ⟨gk,0,Y1⟩) (n+1) ck):=by
   rw[HB6.o.cell,afs (by omega)];exact H1.o
  have hs5:(w4.setCell ⟨b,off,Y1⟩ (Yp a4 (n+1) c4)).heap.size=w4.heap.size:=by simp
  generalize w4.setCell ⟨b,off,Y1⟩ (Yp a4 (n+1) c4)=W5 at*;have HS5:=hd hs5;clear hs5;have HE5:=hd (ae.new W5 #[Ym (Y2 ⟨w1.heap.size,0,Y1⟩)] 266)
  have HIK:Yf (aaT Zc 208 #[Yp (Y2 ⟨gk,0,Y1⟩) (n+1) ck,Yg Yh ((n:Int)+1),Yp (Y2 ⟨W5.heap.size,0,Y1⟩) 1 1] (W5.alloc (Yk #[Ym (Y2 ⟨w1.heap.size,0,Y1⟩)] 266)) fun x w'=>∃v,x=Yl v/\w'.ownsRow 0 266 1 v (n+1+1) (ys++[Ym (Y2 ⟨w1.heap.size,0,Y1⟩)])/\(W5.alloc (Yk #[Ym (Y2 ⟨w1.heap.size,0,Y1⟩)] 266)).grownBy w' (Yp (Y2 ⟨gk,0,Y1⟩) (n+1) ck).ownBlock/\∀k∈own v,k∈own (Yp (Y2 ⟨gk,0,Y1⟩) (n+1) ck)\/(W5.alloc (Yk #[Ym (Y2 ⟨w1.heap.size,0,Y1⟩)] 266)).heap.size<=k):=by
   have h:=qw (Yp (Y2 ⟨gk,0,Y1⟩) (n+1) ck) (n+1) ys w1.heap.size W5.heap.size (W5.alloc (Yk #[Ym (Y2 ⟨w1.heap.size,0,Y1⟩)] 266)) (by omega) (HVK5.o.alloc _) HE5.o.lt ((HE5.o.cell 0).trans rfl);rw[show((n+1:Nat):Int)=(n:Int)+1 from by simp]at h;exact h
  go_wp2_with fail;refine HIK.o.mono ?_;rintro x w6 ⟨v6,rfl,hown6,xA,EO⟩;have HT6:Yf (ax [gk] (W5.alloc (Yk #[Ym (Y2 ⟨w1.heap.size,0,Y1⟩)] 266)) w6):=ax.grown xA (fun k hk=>by simp[aaR]at hk;simp[hk]);have HB7:=hd (HT6.o.blk (HB6.o.alloc (Yk #[Ym (Y2 ⟨w1.heap.size,0,Y1⟩)] 266)) (by have:=HD.o;simp;omega));have HO6:=hd hown6;have HS6:=hd EO;have f7:=HB7.o.free (off+1)
  have m7:w6.cell? ⟨b,off+1,Y1⟩=Y2 (Yp (Y2 ⟨gk,0,Y1⟩) (n+1) ck):=by
   rw[HB7.o.cell,afs (by omega)];exact H1.o
  have hb7:=HB7.o.lt;obtain⟨a6,c6,rfl⟩:=ai hown6;clear hown6 xA EO HIK HIN HTO;go_wp2_with fail
  go_end0
  have hD:=HD.o;have hs6:=HT6.o.size;have hs5:=HS5.o;rw[ZC]at hs6;have T56:ax [b,gk] w4 w6:=(HT5.o.alloc (Yk #[Ym (Y2 ⟨w1.heap.size,0,Y1⟩)] 266)).trans HT6.o (fun x hx=> .inl (by simp at hx;simp[hx]));have T47:ax [b,gk] w4 (w6.setCell ⟨b,off+1,Y1⟩ (Yp a6 (n+1+1) c6)):=T56.set _ _ (.inl (by simp));have T37:ax ([b,gk]++own ve) w3 (w6.setCell ⟨b,off+1,Y1⟩ (Yp a6 (n+1+1) c6)):=(((ax.refl ([b,gk]++own ve) w3).alloc (Yk #[Yg Yh z,Yp ra rn rc] 265)).trans HT4.o (fun x hx=> .inl (by simp[hx]))).trans T47 (fun x hx=> .inl (by simp at hx;rcases hx with rfl|rfl<;>simp));have TA7:ax ([b,gk,kb,gv]++own ve) wA (w6.setCell ⟨b,off+1,Y1⟩ (Yp a6 (n+1+1) c6)):=(HT3.o.more (G:=[b,gk,kb,gv]++own ve) (fun x hx=>by simp at hx;rcases hx with rfl|rfl<;>simp)).trans T37 (fun x hx=> .inl (by simp at hx;rcases hx with rfl|rfl|hx<;>simp[*]));have T07:ax ([b,gk,kb,gv]++own ve) w (w6.setCell ⟨b,off+1,Y1⟩ (Yp a6 (n+1+1) c6)):=(HTA.o.more (G:=[b,gk,kb,gv]++own ve) (fun x hx=>by simp at hx;rcases hx with rfl|rfl<;>simp)).trans TA7 (fun x hx=> .inl hx)
  have l4:∀g∈own (Yp a4 (n+1) c4),g∈own ve\/(w3.heap.size+1<=g/\g<w4.heap.size):=fun g hg=>by
   rcases HS4.o g hg with h|h
   · exact .inl h
   exact .inr ⟨by rw[ZC]at h;exact h,aQ HO4.o g hg⟩
  have hlv:∀g∈own ve,g<w.heap.size:=aQ HVE.o;refine⟨rfl,Yp a4 (n+1) c4,Yp a6 (n+1+1) c6,Yp ao 3 cp,w1.heap.size,w3.heap.size+1,w4.heap.size,T07,HB7.o.set (off+1) _,?_,?_,?_,?_,?_,?_,?_,by omega,by omega,l4,?_⟩
  · refine af HO4.o T47 (fun g hg=> ?_);rcases l4 g hg with h|h
    · simp;exact⟨fun e=>hD.2.2.2.2.2.2.1 (e▸h),fun e=>hD.2.2.2.2.2.2.2.2.2 (e▸h)⟩
    simp;omega
  · refine af HO6.o ((ax.refl [b] w6).set ⟨b,off+1,Y1⟩ (Yp a6 (n+1+1) c6) (.inl (by simp))) (fun g hg=> ?_);rcases HS6.o g hg with h|h
    · simp[own,aaR]at h;simp;omega
    rw[ZC]at h;simp;omega
  · exact T37.blk HK3.o (by simp;exact⟨fun e=>hD.1 e.symm,hD.2.2.2.2.1,hD.2.2.2.2.2.2.2.1⟩)
  · obtain⟨cur',q1,q2,q3⟩:=HC3.o;refine⟨cur',?_,q2,?_⟩
    · rw[T37.block gv (geA.1 q1).1 (by simp;exact⟨fun e=>hD.2.1 e.symm,hD.2.2.2.2.2.1,hD.2.2.2.2.2.2.2.2.1⟩)];exact q1
    rw[q3];have:=congrArg (aft (3*2)) Uu.o;simpa[afg]using this
  · refine TA7.blk HGH.o (by simp;refine⟨by omega,by omega,by omega,by omega,fun h=> ?_⟩;have:=hlv _ h;omega)
  · refine af HOA.o TA7 (fun g hg=> ?_);have h1:=HO1.o.lt g (by simpa[own]using hg);simp;refine⟨by omega,by omega,by omega,by omega,fun h=> ?_⟩;have:=hlv _ h;omega
  · intro g hg;have h1:=HO1.o.lt g (by simpa[own]using hg);exact⟨h1.1,h1.2⟩
  intro g hg;rcases HS6.o g hg with h|h
  · simp[own,aaR]at h;exact .inl h
  right
  rw[ZC]at h;have:=aQ HO6.o g hg;simp;omega
end Bt
namespace Bt
theorem nT(gv n cap i:Nat)(cur:Array Y3)(w:Y4)(hn:n<=1000000)(hg:w.heap[gv]? =Y2 (.cells cur 266 (0,0)))(hcs:cur.size=cap)(hnc:n<=cap)(hi:i<n):
   aaT Zc 266 #[Yp (Y2 ⟨gv,0,Y1⟩) n cap,Yg Yh i,Yg Yh n] w fun x w'=>x=Yl (Yp (Y2 ⟨gv,0,Y1⟩) i cap)/\ax [gv] w w'/\∃cur',w'.heap[gv]? =Y2 (.cells cur' 266 (0,0))/\cur'.size=cap/\cur'.toList.take (i)=cur.toList.take (i):=by
 obtain⟨i0,hi0,hz0,hz1,hz2⟩:=aaX Tryz.info266;have HG:=hd hg;have HCS:=hd hcs;have hlt:=(geA.1 hg).1
 have j1:(i:Int)<(n:Int):=by omega
 have j2:(n:Int)<=(cap:Int):=by omega
 have j3:(i:Int)<=(cap:Int):=by omega
 have hne:((i:Int)==(n:Int))=false:=by simp;omega
 clear hg hcs
 have HZV:Yf (∀w,(zeroValue 266).run Zc w=.ok (.pointer Y1) w):=fun w=>by simp[zeroValue,typeInfo,hi0,hz0]
 have HZ1:Yf (∀v∈(Builtin.zeroCells (Ym Y1).cells (n-i)).toList,v.oneCell'=true):=by
  show∀v∈_,_;intro v hv;have hz:=aeg hv;obtain⟨k,hk,rfl⟩:=hz;simp only[Builtin.zeroCells,aeZ,afa,afb];show((#[.pointer Y1]:Array Y3)[k%1]!).oneCell'=true;rw[Nat.mod_one];rfl
 have HZ2:Yf (i+(Builtin.zeroCells (Ym Y1).cells (n-i)).toList.length<=cur.size):=by
  show _<=_;rw[afc,size_zeroCells,HCS.o];show i+(n-i)*1<=cap;omega
 obtain⟨W',hcl,hT⟩:∃W',(Builtin.clear_ #[122] 0 #[Yp (Y2 ⟨gv,i,Y1⟩) (n-i) (cap-i)]).run Zc (w.drew.setCells gv (i) [])=.ok (Yn #[]) W'/\ax [gv] w W'/\∃cur':Array Y3,W'.heap[gv]? =Y2 (.cells cur' 266 (0,0))/\cur'.size=cap/\cur'.toList.take (i)=cur.toList.take (i):=by
  refine⟨_,jm (P:=Zc) (w.drew.setCells gv (i) []) 122 266 0 _ aeY HZV.o gv (i) (n-i) (cap-i) cur 266 HG.o (by omega) _ rfl HZ1.o HZ2.o,⟨rfl,rfl,rfl,?_,fun k hk hF=> ?_⟩,_,setRow_heap _ _ cur _ _ _ HG.o,?_,?_⟩
  · show _<=(w.heap.modify _ _).size;rw[afd];exact nlr _
  · rw[setRow_other _ _ _ _ (fun e=>hF (by simp[e]))]
    rfl
  · have h2:=HZ2.o;have h3:=HCS.o;simp only[afe,aaN,adO,Yv,afc]at h2⊢;omega
  have h2:=HZ2.o;simp only[afc]at h2;rw[laa,aff (by rw[adO,afc];omega),afg,afh]
 have HCL:=hd hcl;have HT:=hd hT;clear hcl hT;rcases acg hnc with hlt'|rfl
 · go_enter afu,afv;go_wp2_with fail
   go_region_law (refine step_append_room rfl (.tmp 22) (.tmp 25) 122 rfl 266 i0 1 aeY hi0 hz1 gv 0 i cap (by simp[afk,afl]) ⟨gv,n,Y1⟩ 0 (cap-n) [] (by simp[afk,afl];try omega) rfl (by simp) (by simp) (by omega) (by simp) ?_)
   all_goals
    go_wp2_with fail;rw[HCL.o];go_wp2_with fail;go_ret;exact⟨rfl,HT.o⟩
 go_enter afu,afv;go_wp2_with fail
 go_region_law (refine step_append_room rfl (.tmp 22) (.tmp 25) 122 rfl 266 i0 1 aeY hi0 hz1 gv 0 i n (by simp[afk,afl]) ⟨gv,0,Y1⟩ 0 0 [] (by simp[afk,afl];try omega) rfl (by simp) (by simp) (by omega) (by simp) ?_)
 all_goals
  go_wp2_with fail;rw[HCL.o];go_wp2_with fail;go_ret;exact⟨rfl,HT.o⟩
end Bt
namespace Bt
theorem zY(ad:abR)(m c:Nat)(xs:List Y3)(w:Y4)(hm:m<=1000000)(hl:xs.length=m*1)(hc:∀j u,xs[j]? =Y2 u->w.cell? (ad.add j)=Y2 u)(h1:∀u∈xs,u.oneCell'=true):
   aaT Zc 265 #[Yp (Y2 ad) m c] w fun x w'=>∃v,x=Yl v/\w'.ownsRow w.heap.size 266 1 v m xs/\aaS w.heap.size w w':=by
 obtain⟨i0,hi,hz0,hz1,hz2⟩:=aaX Tryz.info266
 have HB0:Yf (aaS w.heap.size w (w.alloc (Yk #[] 266))):=by show aaS _ _ _;go_grown
 have HO:Yf ((w.alloc (Yk #[] 266)).ownsRow w.heap.size 266 1 (Yp (Y2 ⟨w.heap.size,0,Y1⟩) 0 0) 0 []):=afm w #[] 0 (nlr _) (by simp[aaV]) (by simp)
 have HC:Yf (∀j u,xs[j]? =Y2 u->(w.alloc (Yk #[] 266)).cell? (ad.add j)=Y2 u):=fun j u hu=>by
  have h:=hc j u hu;exact(HB0.o.cell (afn w _ h)).trans h
 have HL:=hd hl;have H1:=hd h1;have hnil:(binOp .eql 122 (Yp (Y2 ad) m c) (Yp Y1 0 0)).run Zc w=.ok (.bool false) w:=Lib.run_eql_slice_nil w 122 266 (Y2 ad) m c 0 0 aeY;clear hl hc h1;go_enter Tryz.func265,Tryz.ntmps265
 go_wp2_with(first
  |(at_builtin;refine bR rfl _ _ 122 rfl w.heap.size 266 i0 (.pointer Y1) 1 8 aeY hi hz0 hz1 hz2 rfl (by decide) _ _ _ rfl HO.o ad m c xs rfl HL.o HC.o H1.o ?c3 ?c4 ?c5 ?_)
  |fail)
 case c3=>simp only[aaV];omega
 case c4=>omega
 case c5=>exact HB0.o.size
 intro v' w3 hown hgrow hsub;obtain⟨ao',cp',rfl⟩:=ai hown
 have HW:Yf (w3.ownsRow w.heap.size 266 1 (Yp ao' m cp') m xs):=by show aaO _ _ _ _ _ _ _;simpa using hown
 have HG:Yf (aaS w.heap.size w w3):=⟨hgrow.os,hgrow.tape,hgrow.output,YB HB0.o.size hgrow.size,fun k hk=>(hgrow.block k (nlA hk HB0.o.size) (by simp[aaR];omega)).trans (HB0.o.block k hk)⟩;clear hown hgrow hsub;go_wp2_with fail;go_ret;exact⟨_,rfl,HW.o,HG.o⟩
end Bt
namespace Bt
theorem zM(b off gv n cap i:Nat)(cs cur:Array Y3)(T:Y5)(w:Y4)(hn:n<=1000000)(hB:ae w b cs T)(h0:cs[off]? =Y2 (Yp (Y2 ⟨gv,0,Y1⟩) n cap))(hg:w.heap[gv]? =Y2 (.cells cur 266 (0,0)))(hcs:cur.size=cap)(hnc:n<=cap)(hi:i<n)(hgb:gv≠b)
   (h1:∀u∈(cur.toList.take (n)).drop (i),u.oneCell'=true):
   aaT Zc 206 #[Ym (Y2 ⟨b,off,Y1⟩),Yg Yh i] w fun x w'=>∃v,x=Yl v/\ax [b,gv] w w'/\w'.ownsRow w.heap.size 266 1 v (n-i) ((cur.toList.take (n)).drop (i))/\ae w' b (cs.setIfInBounds off (Yp (Y2 ⟨gv,0,Y1⟩) i cap)) T/\
     ∃cur',w'.heap[gv]? =Y2 (.cells cur' 266 (0,0))/\cur'.size=cap/\cur'.toList.take (i)=cur.toList.take (i):=by
 have HB:=hd hB;have c0:=(hB.cell off).trans h0;have hbl:=hB.lt;have hgl:=(geA.1 hg).1;have HG:=hd hg;have HCS:=hd hcs;have H0:=hd h0
 have j1:(i:Int)<(n:Int):=by omega
 have j2:(i:Int)<=(n:Int):=by omega
 have j3:(n:Int)<=(cap:Int):=by omega
 have hci:¬cap=i:=by omega
 have HCL:=hd (zY ⟨gv,i,Y1⟩ (n-i) (cap-i) ((cur.toList.take (n)).drop (i)) w (by omega) (by rw[Yv,adO,afc];omega) (fun j u hu=>by
  rw[YO,afo]at hu
  split at hu
  · rw[Zn,(show ae w gv cur 266 from hg).cell];simpa using hu
  cases hu) h1)
 clear hB h0 hg hcs h1;go_enter Tryz.func206,Tryz.ntmps206;go_wp2_with fail;refine HCL.o.mono ?_;rintro x w1 ⟨v,rfl,hown,hb1⟩;obtain⟨ao',cp',rfl⟩:=ai hown;have HOW:=hd hown;have HB1:=hd hb1;have K1:=HB.o.below hb1 hbl;have c1:=(K1.cell off).trans H0.o;have TC:=K1.lt
 have HG1:Yf (w1.heap[gv]? =Y2 (.cells cur 266 (0,0))):=by show _=_;rw[hb1.block gv hgl];exact HG.o
 have HDL:=hd (nT gv n cap i cur (abA w1) hn HG1.o HCS.o hnc hi);have HK1:=hd K1;clear hown hb1 K1 c0 HCL;go_wp2_with fail
 go_region_with (
   go_at_call 266
   refine HDL.o.mono ?_;rintro x w2 ⟨rfl,ht2,hc2⟩;have K2:=ht2.blk HK1.o.drew (by simp;omega);have d1:=(K2.cell off).trans H0.o;have f1:=K2.free off;have Wn:=K2.lt;have HT2:=hd ht2;have HC2:=hd hc2;have HK2:=hd K2
   clear ht2 hc2 K2)
 all_goals
  go_wp2_with fail;go_ret;refine⟨_,rfl,?_,?_,HK2.o.set off _,?_⟩
  · exact((ax.of (F:=[b,gv]) HB1.o).trans HT2.o.bW (fun k hk=> .inl (by simp at hk;simp[hk]))).set _ _ (.inl (by simp))
  · refine aK HOW.o fun k hk=> ?_
    have h2:=HOW.o.lt k (by simpa[own]using hk);rw[Zb _ _ _ _ (by show k≠b;omega)];exact HT2.o.bW.block k h2.2 (by simp;omega)
  obtain⟨cur',h2,h3⟩:=HC2.o;exact⟨cur',by rw[Zb _ _ _ _ (by show gv≠b;exact hgb)];exact h2,h3⟩
end Bt
namespace Bt
theorem FE(b off n gk ck kb gv cap gq cq:Nat)(cs cur curq:Array Y3)(T:Y5)(ve:Y3)(xs ys:List Y3)(z:Int)(ra:Option abR)(rn rc:Nat)(w:Y4)(hn:n<=1000)(hB:ae w b cs T)(h0:cs[off]? =Y2 ve)(h1:cs[off+1]? =Y2 (Yp (Y2 ⟨gk,0,Y1⟩) (n+1) ck))
   (hve:w.ownsRow 0 265 2 ve n xs) (hvk:w.ownsRow 0 266 1 (Yp (Y2 ⟨gk,0,Y1⟩) (n+1) ck) (n+1) ys) (hlast:ys[n]? =Y2 (Ym (Y2 ⟨kb,0,Y1⟩)))
   (hk:ae w kb #[Yp (Y2 ⟨gv,0,Y1⟩) 7 cap,Yp (Y2 ⟨gq,0,Y1⟩) 8 cq] 124) (hg:w.heap[gv]? =Y2 (.cells cur 265 (0,0))) (hcs:cur.size=cap*2) (hnc:7<=cap) (hcm:cap<=aaV)
   (k0:cur[6]? =Y2 (Yg Yh z)) (k1:cur[7]? =Y2 (Yp ra rn rc)) (h8:∀u∈(cur.toList.take (7*2)).drop (4*2),u.oneCell'=true)
   (hd0:b≠kb/\b≠gv/\b≠gk/\kb≠gv/\kb≠gk/\gv≠gk/\b∉own ve/\kb∉own ve/\gv∉own ve/\gk∉own ve)
   (hgq:w.heap[gq]? =Y2 (.cells curq 266 (0,0))) (hcsq:curq.size=cq) (hncq:8<=cq) (hq1:∀u∈(curq.toList.take 8).drop 4,u.oneCell'=true) (hqd:gq≠b/\gq≠kb/\gq≠gv/\gq∉own ve/\gq≠gk):
   aaT Zc 150 #[Ym (Y2 ⟨b,off,Y1⟩),Yg Yh n] w fun x w'=>x=Yl (Yn #[])/\∃ve' vk' v vq gh N1 N2,ax ([b,gk,kb,gv,gq]++own ve) w w'/\ae w' b ((cs.setIfInBounds off ve').setIfInBounds (off+1) vk') T/\
     w'.ownsRow 0 265 2 ve' (n+1) (xs++[Yg Yh z,Yp ra rn rc])/\w'.ownsRow 0 266 1 vk' (n+2) (ys++[Ym (Y2 ⟨gh,0,Y1⟩)])/\
     ae w' kb #[Yp (Y2 ⟨gv,0,Y1⟩) 3 cap,Yp (Y2 ⟨gq,0,Y1⟩) 4 cq] 124/\(∃cur',w'.heap[gv]? =Y2 (.cells cur' 265 (0,0))/\cur'.size=cap*2/\cur'.toList.take (3*2)=cur.toList.take (3*2))/\ae w' gh #[v,vq] 124/\w'.ownsRow w.heap.size 265 2 v 3 ((cur.toList.take (7*2)).drop (4*2))/\(∀g∈own v,w.heap.size<=g/\g<gh)/\
     (∃vH,w'.heap[gq]? =Y2 (.cells vH 266 (0,0))/\vH.size=cq/\vH.toList.take 4=curq.toList.take 4)/\w'.ownsRow w.heap.size 266 1 vq 4 ((curq.toList.take 8).drop 4)/\(∀g∈own vq,gh<g/\g<N1)/\
     gh<N1/\N1<=N2/\(∀g∈own ve',g∈own ve\/(N1<=g/\g<N2))/\(∀g∈own vk',g=gk\/(N2<=g/\g<w'.heap.size)):=by
 have HB:=hd hB;have H0:=hd h0;have H1:=hd h1;have hbl:=hB.lt;have c0:=(hB.cell off).trans h0;have c1:=(hB.cell (off+1)).trans h1;have hgk:=aQ hvk gk (by simp[own,aaR]);have hkb:=hk.lt
 have q0:w.cell? ⟨gk,n,Y1⟩=Y2 (Ym (Y2 ⟨kb,0,Y1⟩)):=by
  have:=hvk.cells (g:=gk) rfl n _ hlast;simpa only[Zn,Ze]using this
 have HVE:=hd hve;have HVK:=hd hvk;have HK:=hd hk;have HG:=hd hg;have HCS:=hd hcs;have K0:=hd k0;have K1:=hd k1;have HD:=hd hd0;have HQ0:=hd hgq;have HSQ:=hd hcsq;have HQ1:=hd hq1;have HQD:=hd hqd;have Kk:=hd ((geA.1 hgq).1);clear hgq hcsq hq1 hqd;have hgl:=(geA.1 hg).1;have Gr:=hd (zH kb 0 gv 7 cap 4 _ cur _ w (by omega) hk rfl hg hcs hnc (by omega) hd0.2.2.2.1.symm h8)
 have j1:(n:Int)<(n:Int)+1:=by omega
 have j2:n<n+1:=by omega
 clear hB h0 h1 hve hvk hlast hk hg hcs k0 k1 h8 hd0;go_enter afp,afq;go_wp2_with fail;refine Gr.o.mono ?_;rintro x w1 ⟨v,rfl,ht1,hown1,hk1,hc1⟩;obtain⟨ao,cp,rfl⟩:=ai hown1;have HT1:=hd ht1;have HO1:=hd hown1;have HK1:=hd hk1;have HC1:=hd hc1;have hs1:=ht1.size;clear ht1 hown1 hk1 hc1 Gr c0 c1 q0;have HTA:=hd (HT1.o.alloc (Yk #[Yp ao 3 cp,Yp Y1 0 0] 124));have HGH:=hd (ae.new w1 #[Yp ao 3 cp,Yp Y1 0 0] 124);have HKA:=hd (HK1.o.alloc (Yk #[Yp ao 3 cp,Yp Y1 0 0] 124));have HOA:=hd (HO1.o.alloc (Yk #[Yp ao 3 cp,Yp Y1 0 0] 124));have p1:=HKA.o.cell 1;simp at p1;have hla:=HKA.o.lt;go_wp2_with fail;refine(gz kb 0 8 _ _ _ (by decide) hla p1).mono ?_;rintro x w2 ⟨rfl,rfl⟩
 have Gu:Yf (∃fO,(w1.alloc (Yk #[Yp ao 3 cp,Yp Y1 0 0] 124)).heap[gv]? =Y2 (.cells fO 265 (0,0))/\fO.size=cap*2/\fO.toList.take (4*2)=cur.toList.take (4*2)):=by
  obtain⟨fO,a1,a2,a3⟩:=HC1.o;exact⟨fO,((Zh w1.heap.size w1).alloc (nlr _) _).block gv ((geA.1 a1).1)▸a1,a2,a3⟩
 have HKQ:Yf (ae (w1.alloc (Yk #[Yp ao 3 cp,Yp Y1 0 0] 124)) kb #[Yp (Y2 ⟨gv,0,Y1⟩) 4 cap,Yp (Y2 ⟨gq,0,Y1⟩) 8 cq] 124):=by show ae _ _ _ _;simpa using HKA.o
 have HGQ:Yf ((w1.alloc (Yk #[Yp ao 3 cp,Yp Y1 0 0] 124)).heap[gq]? =Y2 (.cells curq 266 (0,0))):=by
  have hQ:=HQD.o;exact(HTA.o.block gq (geA.1 HQ0.o).1 (by simp;omega)).trans HQ0.o
 have hsQ:(w1.alloc (Yk #[Yp ao 3 cp,Yp Y1 0 0] 124)).heap.size=w1.heap.size+1:=ZC _ _;have HCQ:=hd (zM kb 1 gq 8 cq 4 _ curq _ (w1.alloc (Yk #[Yp ao 3 cp,Yp Y1 0 0] 124)) (by omega) HKQ.o rfl HGQ.o HSQ.o hncq (by omega) (HQD.o.2.1) HQ1.o);have Sk:=hd hsQ;clear hsQ;generalize w1.alloc (Yk #[Yp ao 3 cp,Yp Y1 0 0] 124)=wQ at*;go_wp2_with fail;refine HCQ.o.mono ?_;rintro x wR ⟨vq,rfl,htq,M3,hkq,hcq⟩;obtain⟨aq,cpq,rfl⟩:=ai M3;have HTQ:=hd htq;have HOQ:=hd M3
 have HKR:Yf (ae wR kb #[Yp (Y2 ⟨gv,0,Y1⟩) 4 cap,Yp (Y2 ⟨gq,0,Y1⟩) 4 cq] 124):=by show ae _ _ _ _;simpa using hkq
 have HCR:=hd hcq;have HGR:=hd (htq.blk HGH.o (by have:=HQD.o;have:=Kk.o;simp;omega));have gr1:=HGR.o.cell 1;have gf1:=HGR.o.free 1;simp at gr1;have lgr:=HGR.o.lt
 have VE:Yf (∃fO,wR.heap[gv]? =Y2 (.cells fO 265 (0,0))/\fO.size=cap*2/\fO.toList.take (4*2)=cur.toList.take (4*2)):=by
  obtain⟨fO,a1,a2,a3⟩:=Gu.o;exact⟨fO,(HTQ.o.block gv (geA.1 a1).1 (by have:=HQD.o;have:=HD.o;simp;omega)).trans a1,a2,a3⟩
 clear htq M3 hkq hcq HCQ;have TQA:ax [kb,gq] wQ (wR.setCell ⟨w1.heap.size,1,Y1⟩ (Yp aq 4 cpq))\/True:=.inr trivial;have V7:Yf (ax [kb,gv,gq] w (wR.setCell ⟨w1.heap.size,1,Y1⟩ (Yp aq 4 cpq))):=((HTA.o.more (G:=[kb,gv,gq]) (fun x hx=>by simp at hx;rcases hx with rfl|rfl<;>simp)).trans HTQ.o (fun x hx=> .inl (by simp at hx;rcases hx with rfl|rfl<;>simp))).set _ _ (.inr hs1)
 have Wm:Yf (ae (wR.setCell ⟨w1.heap.size,1,Y1⟩ (Yp aq 4 cpq)) w1.heap.size #[Yp ao 3 cp,Yp aq 4 cpq] 124):=by show ae _ _ _ _;simpa using HGR.o.set 1 (Yp aq 4 cpq)
 have HKA2:Yf (ae (wR.setCell ⟨w1.heap.size,1,Y1⟩ (Yp aq 4 cpq)) kb #[Yp (Y2 ⟨gv,0,Y1⟩) 4 cap,Yp (Y2 ⟨gq,0,Y1⟩) 4 cq] 124):=HKR.o.far _ _ (by show w1.heap.size≠kb;omega)
 have XM:Yf ((wR.setCell ⟨w1.heap.size,1,Y1⟩ (Yp aq 4 cpq)).ownsRow w.heap.size 265 2 (Yp ao 3 cp) 3 ((cur.toList.take (7*2)).drop (4*2))):=by
  have hQ:=HQD.o;refine af HOA.o (((ax.refl [kb,gq,w1.heap.size] wQ).trans HTQ.o (fun x hx=> .inl (by simp at hx;rcases hx with rfl|rfl<;>simp))).set ⟨w1.heap.size,1,Y1⟩ (Yp aq 4 cpq) (.inl (by simp))) (fun g hg=> ?_);have h1:=HO1.o.lt g (by simpa[own]using hg);have:=Kk.o;simp;omega
 have SX:Yf ((wR.setCell ⟨w1.heap.size,1,Y1⟩ (Yp aq 4 cpq)).ownsRow (w1.heap.size+1) 266 1 (Yp aq 4 cpq) 4 ((curq.toList.take 8).drop 4)):=by
  have h0:=HOQ.o;rw[Sk.o]at h0;refine af h0 ((ax.refl [w1.heap.size] wR).set ⟨w1.heap.size,1,Y1⟩ (Yp aq 4 cpq) (.inl (by simp))) (fun g hg=> ?_);have h1:=h0.lt g (by simpa[own]using hg);simp;omega
 have U0:Yf (∃fO,(wR.setCell ⟨w1.heap.size,1,Y1⟩ (Yp aq 4 cpq)).heap[gv]? =Y2 (.cells fO 265 (0,0))/\fO.size=cap*2/\fO.toList.take (4*2)=cur.toList.take (4*2)):=by
  obtain⟨fO,a1,a2,a3⟩:=VE.o;exact⟨fO,(Zb _ _ _ _ (by show gv≠w1.heap.size;omega)).trans a1,a2,a3⟩
 have Wy:Yf (∃vH,(wR.setCell ⟨w1.heap.size,1,Y1⟩ (Yp aq 4 cpq)).heap[gq]? =Y2 (.cells vH 266 (0,0))/\vH.size=cq/\vH.toList.take 4=curq.toList.take 4):=by
  obtain⟨fO,a1,a2,a3⟩:=HCR.o;have:=Kk.o;exact⟨fO,(Zb _ _ _ _ (by show gq≠w1.heap.size;omega)).trans a1,a2,a3⟩
 have hsA:w1.heap.size+1<=(wR.setCell ⟨w1.heap.size,1,Y1⟩ (Yp aq 4 cpq)).heap.size:=by
  have:=HTQ.o.size;rw[Sk.o]at this;simpa using this
 go_wp2_with fail
 have HNQ:Yf (wR.heap.size=(wR.setCell ⟨w1.heap.size,1,Y1⟩ (Yp aq 4 cpq)).heap.size):=by show _=_;simp
 generalize wR.setCell ⟨w1.heap.size,1,Y1⟩ (Yp aq 4 cpq)=wA at*;clear TQA HTA HGH HKA HOA HOQ Gu VE HCR HKR HGR HTQ HKQ HGQ gr1 gf1 lgr;have HTA:=V7;have HGH:=Wm;have HOA:=XM;have Gu:=U0;have HBA:=hd (HTA.o.blk HB.o (by have:=HD.o;have:=HQD.o;simp;omega));have HVA:=hd (af HVE.o HTA.o (fun g hg=>by have:=HD.o;simp;exact⟨fun e=>this.2.2.2.2.2.2.2.1 (e▸hg),fun e=>this.2.2.2.2.2.2.2.2.1 (e▸hg),fun e=>HQD.o.2.2.2.1 (e▸hg)⟩));have Uj:=hd (af HVK.o HTA.o (fun g hg=>by have:=HD.o;have:=HQD.o;simp[own,aaR]at hg;simp;omega));have c0:=(HBA.o.cell off).trans H0.o;have hbA:=HBA.o.lt;obtain⟨fO,En,hcs1,Ca⟩:=Gu.o
 have e6:fO[3*2]? =Y2 (Yg Yh z):=by
  have:=congrArg (fun l=>l[6]?) Ca;simp only[afo,afr]at this;simpa[K0.o]using this
 have e7:fO[3*2+1]? =Y2 (Yp ra rn rc):=by
  have:=congrArg (fun l=>l[7]?) Ca;simp only[afo,afr]at this;simpa[K1.o]using this
 have HTO:=hd (vF kb 0 gv 4 cap 3 z ra rn rc _ fO _ (abA wA) (by omega) HKA2.o.drew rfl En hcs1 (by omega) rfl HD.o.2.2.2.1.symm e6 e7);have Uu:=hd Ca;clear En hcs1 Ca e6 e7 Gu HC1 U0;go_wp2_with fail
 go_region_with (first
  |(go_at_call 207
    refine HTO.o.mono ?_;rintro x w3 ⟨rfl,ht3,hk3,hc3⟩;have HT3:=hd (ht3.bW);have HB3:=hd (ht3.blk HBA.o.drew (by have:=HD.o;simp;omega))
    have HK3:Yf (ae w3 kb #[Yp (Y2 ⟨gv,0,Y1⟩) 3 cap,Yp (Y2 ⟨gq,0,Y1⟩) 4 cq] 124):=by show ae _ _ _ _;simpa using hk3
    have HC3:=hd hc3;have d0:=(HB3.o.cell off).trans H0.o;have hb3:=HB3.o.lt;have HV3:=hd (af HVA.o HT3.o (fun g hg=>by have:=HD.o;simp;exact⟨fun e=>this.2.2.2.2.2.2.2.1 (e▸hg),fun e=>this.2.2.2.2.2.2.2.2.1 (e▸hg)⟩));have HE3:=hd (ae.new w3 #[Yg Yh z,Yp ra rn rc] 265);have HIN:=hd (rD ve n xs z ra rn rc w3.heap.size (w3.alloc (Yk #[Yg Yh z,Yp ra rn rc] 265)) (by omega) (HV3.o.alloc _) HE3.o.lt ((HE3.o.cell 0).trans rfl) ((HE3.o.cell 1).trans rfl));have HB4:=hd (HB3.o.alloc (Yk #[Yg Yh z,Yp ra rn rc] 265));have d1:=(HB4.o.cell off).trans H0.o;have hb4:=HB4.o.lt
    clear ht3 hk3 hc3)
  |(go_at_call 204
    refine HIN.o.mono ?_;rintro x w4 ⟨v4,rfl,jZ,xP,Ga⟩;have HT4:Yf (ax (own ve) (w3.alloc (Yk #[Yg Yh z,Yp ra rn rc] 265)) w4):=ax.grown xP (fun k hk=>by simp[own,hk]);have HB5:=hd (HT4.o.blk HB4.o HD.o.2.2.2.2.2.2.1);have HO4:=hd jZ;have HS4:=hd Ga;have d2:=(HB5.o.cell off).trans H0.o;have f2:=HB5.o.free off;have hb5:=HB5.o.lt;obtain⟨a4,c4,rfl⟩:=ai jZ
    clear jZ xP Ga))
 all_goals
  have hN4:=HT4.o.size;have hs3:=HT3.o.size;rw[ZC]at hN4;have HB6:=hd (HB5.o.set off (Yp a4 (n+1) c4));have HT5:Yf (ax [b,gk] w4 (w4.setCell ⟨b,off,Y1⟩ (Yp a4 (n+1) c4))):=(ax.refl [b,gk] w4).set _ _ (.inl (by simp))
  have HVK5:Yf ((w4.setCell ⟨b,off,Y1⟩ (Yp a4 (n+1) c4)).ownsRow 0 266 1 (Yp (Y2 ⟨gk,0,Y1⟩) (n+1) ck) (n+1) ys):=by
   have hD:=HD.o;have x1:=af Uj.o (HT3.o.alloc (Yk #[Yg Yh z,Yp ra rn rc] 265)) (fun g hg=>by simp[own,aaR]at hg;simp;omega);have x2:=af x1 HT4.o (fun g hg=>by simp[own,aaR]at hg;rw[hg];exact hD.2.2.2.2.2.2.2.2.2);exact af x2 ((ax.refl [b] w4).set ⟨b,off,Y1⟩ (Yp a4 (n+1) c4) (.inl (by simp))) (fun g hg=>by simp[own,aaR]at hg;simp;omega)
  have hb6:=HB6.o.lt
  have g1:(w4.setCell ⟨b,off,Y1⟩ (Yp a4 (n+1) c4)).cell? ⟨b,off+1,Y1⟩=Y2 (Yp (Y2 ⟨gk,0,Y1⟩) (n+1) ck):=by
   rw[HB6.o.cell,afs (by omega)];exact H1.o
  have hs5:(w4.setCell ⟨b,off,Y1⟩ (Yp a4 (n+1) c4)).heap.size=w4.heap.size:=by simp
  generalize w4.setCell ⟨b,off,Y1⟩ (Yp a4 (n+1) c4)=W5 at*;have HS5:=hd hs5;clear hs5;have HE5:=hd (ae.new W5 #[Ym (Y2 ⟨w1.heap.size,0,Y1⟩)] 266)
  have HIK:Yf (aaT Zc 208 #[Yp (Y2 ⟨gk,0,Y1⟩) (n+1) ck,Yg Yh ((n:Int)+1),Yp (Y2 ⟨W5.heap.size,0,Y1⟩) 1 1] (W5.alloc (Yk #[Ym (Y2 ⟨w1.heap.size,0,Y1⟩)] 266)) fun x w'=>∃v,x=Yl v/\w'.ownsRow 0 266 1 v (n+1+1) (ys++[Ym (Y2 ⟨w1.heap.size,0,Y1⟩)])/\(W5.alloc (Yk #[Ym (Y2 ⟨w1.heap.size,0,Y1⟩)] 266)).grownBy w' (Yp (Y2 ⟨gk,0,Y1⟩) (n+1) ck).ownBlock/\∀k∈own v,k∈own (Yp (Y2 ⟨gk,0,Y1⟩) (n+1) ck)\/(W5.alloc (Yk #[Ym (Y2 ⟨w1.heap.size,0,Y1⟩)] 266)).heap.size<=k):=by
   have h:=qw (Yp (Y2 ⟨gk,0,Y1⟩) (n+1) ck) (n+1) ys w1.heap.size W5.heap.size (W5.alloc (Yk #[Ym (Y2 ⟨w1.heap.size,0,Y1⟩)] 266)) (by omega) (HVK5.o.alloc _) HE5.o.lt ((HE5.o.cell 0).trans rfl);rw[show((n+1:Nat):Int)=(n:Int)+1 from by simp]at h;exact h
  go_wp2_with fail;refine HIK.o.mono ?_;rintro x w6 ⟨v6,rfl,hown6,xA,EO⟩;have HT6:Yf (ax [gk] (W5.alloc (Yk #[Ym (Y2 ⟨w1.heap.size,0,Y1⟩)] 266)) w6):=ax.grown xA (fun k hk=>by simp[aaR]at hk;simp[hk]);have HB7:=hd (HT6.o.blk (HB6.o.alloc (Yk #[Ym (Y2 ⟨w1.heap.size,0,Y1⟩)] 266)) (by have:=HD.o;simp;omega));have HO6:=hd hown6;have HS6:=hd EO;have f7:=HB7.o.free (off+1)
  have m7:w6.cell? ⟨b,off+1,Y1⟩=Y2 (Yp (Y2 ⟨gk,0,Y1⟩) (n+1) ck):=by
   rw[HB7.o.cell,afs (by omega)];exact H1.o
  have hb7:=HB7.o.lt;obtain⟨a6,c6,rfl⟩:=ai hown6;clear hown6 xA EO HIK HIN HTO;go_wp2_with fail
  go_end0
  have hD:=HD.o;have hs6:=HT6.o.size;have hs5:=HS5.o;rw[ZC]at hs6;have T56:ax [b,gk] w4 w6:=(HT5.o.alloc (Yk #[Ym (Y2 ⟨w1.heap.size,0,Y1⟩)] 266)).trans HT6.o (fun x hx=> .inl (by simp at hx;simp[hx]));have T47:ax [b,gk] w4 (w6.setCell ⟨b,off+1,Y1⟩ (Yp a6 (n+1+1) c6)):=T56.set _ _ (.inl (by simp));have T37:ax ([b,gk]++own ve) w3 (w6.setCell ⟨b,off+1,Y1⟩ (Yp a6 (n+1+1) c6)):=(((ax.refl ([b,gk]++own ve) w3).alloc (Yk #[Yg Yh z,Yp ra rn rc] 265)).trans HT4.o (fun x hx=> .inl (by simp[hx]))).trans T47 (fun x hx=> .inl (by simp at hx;rcases hx with rfl|rfl<;>simp));have TA7:ax ([b,gk,kb,gv,gq]++own ve) wA (w6.setCell ⟨b,off+1,Y1⟩ (Yp a6 (n+1+1) c6)):=(HT3.o.more (G:=[b,gk,kb,gv,gq]++own ve) (fun x hx=>by simp at hx;rcases hx with rfl|rfl<;>simp)).trans T37 (fun x hx=> .inl (by simp at hx;rcases hx with rfl|rfl|hx<;>simp[*]));have T07:ax ([b,gk,kb,gv,gq]++own ve) w (w6.setCell ⟨b,off+1,Y1⟩ (Yp a6 (n+1+1) c6)):=(HTA.o.more (G:=[b,gk,kb,gv,gq]++own ve) (fun x hx=>by simp at hx;rcases hx with rfl|rfl|rfl<;>simp)).trans TA7 (fun x hx=> .inl hx)
  have l4:∀g∈own (Yp a4 (n+1) c4),g∈own ve\/(w3.heap.size+1<=g/\g<w4.heap.size):=fun g hg=>by
   rcases HS4.o g hg with h|h
   · exact .inl h
   exact .inr ⟨by rw[ZC]at h;exact h,aQ HO4.o g hg⟩
  have hlv:∀g∈own ve,g<w.heap.size:=aQ HVE.o;refine⟨rfl,Yp a4 (n+1) c4,Yp a6 (n+1+1) c6,Yp ao 3 cp,Yp aq 4 cpq,w1.heap.size,w3.heap.size+1,w4.heap.size,T07,HB7.o.set (off+1) _,?_,?_,?_,?_,?_,?_,?_,?_,?_,?_,by omega,by omega,l4,?_⟩
  · refine af HO4.o T47 (fun g hg=> ?_);rcases l4 g hg with h|h
    · simp;exact⟨fun e=>hD.2.2.2.2.2.2.1 (e▸h),fun e=>hD.2.2.2.2.2.2.2.2.2 (e▸h)⟩
    simp;omega
  · refine af HO6.o ((ax.refl [b] w6).set ⟨b,off+1,Y1⟩ (Yp a6 (n+1+1) c6) (.inl (by simp))) (fun g hg=> ?_);rcases HS6.o g hg with h|h
    · simp[own,aaR]at h;simp;omega
    rw[ZC]at h;simp;omega
  · exact T37.blk HK3.o (by simp;exact⟨fun e=>hD.1 e.symm,hD.2.2.2.2.1,hD.2.2.2.2.2.2.2.1⟩)
  · obtain⟨cur',q1,q2,q3⟩:=HC3.o;refine⟨cur',?_,q2,?_⟩
    · rw[T37.block gv (geA.1 q1).1 (by simp;exact⟨fun e=>hD.2.1 e.symm,hD.2.2.2.2.2.1,hD.2.2.2.2.2.2.2.2.1⟩)];exact q1
    rw[q3];have:=congrArg (aft (3*2)) Uu.o;simpa[afg]using this
  · have hq0:=Kk.o;refine TA7.blk HGH.o (by simp;refine⟨by omega,by omega,by omega,by omega,by omega,fun h=> ?_⟩;have:=hlv _ h;omega)
  · refine af HOA.o TA7 (fun g hg=> ?_);have h1:=HO1.o.lt g (by simpa[own]using hg);have hq0:=Kk.o;simp;refine⟨by omega,by omega,by omega,by omega,by omega,fun h=> ?_⟩;have:=hlv _ h;omega
  · intro g hg;have h1:=HO1.o.lt g (by simpa[own]using hg);exact⟨h1.1,h1.2⟩
  · obtain⟨cur',q1,q2,q3⟩:=Wy.o;have hQ:=HQD.o;refine⟨cur',?_,q2,q3⟩;have q4:=(HT3.o.block gq (geA.1 q1).1 (by simp;omega)).trans q1;rw[T37.block gq (geA.1 q4).1 (by simp;exact⟨hQ.1,hQ.2.2.2.2,hQ.2.2.2.1⟩)];exact q4
  · have hq0:=Kk.o;refine afw (af SX.o TA7 (fun g hg=> ?_)) (by omega);have h1:=SX.o.lt g (by simpa[own]using hg);simp;refine⟨by omega,by omega,by omega,by omega,by omega,fun h=> ?_⟩;have:=hlv _ h;omega
  · intro g hg;have h1:=SX.o.lt g (by simpa[own]using hg);exact⟨by omega,by omega⟩
  intro g hg;rcases HS6.o g hg with h|h
  · simp[own,aaR]at h;exact .inl h
  right
  rw[ZC]at h;have:=aQ HO6.o g hg;simp;omega
end Bt
namespace Bt
def fG(w:Y4)(d:Nat)(k:aM):Prop:=ae w k.b #[k.ve,k.vk] 124/\Nd Tr w d 3 6 k.L k.ve k.vk k.F
theorem Gg{es:List (Y3×Y3)}{ra:Option abR}{rn rc:Nat}(h:cur.toList.take (7*2)=ah es)(h3:es[3]? =Y2 (Yg Yh z,Yp ra rn rc)):cur[6]? =Y2 (Yg Yh z)/\cur[7]? =Y2 (Yp ra rn rc):=by
 obtain⟨hl,he⟩:=List.getElem?_eq_some_iff.1 h3;have a:=fo es 3 hl;have b:=eZ es 3 hl;rw[he]at a b;have c:=congrArg (fun l=>l[6]?) h;have d:=congrArg (fun l=>l[7]?) h;simp only[afo,afr]at c d;exact⟨by simpa using c.trans a,by simpa using d.trans b⟩
theorem E8{es:List (Y3×Y3)}(h:cur.toList.take (7*2)=ah es):(cur.toList.take (7*2)).drop (4*2)=ah (es.drop 4)/\(cur.toList.take (3*2))=ah (es.take 3):=by
 refine⟨by rw[h,qL],?_⟩;have:=congrArg (aft (3*2)) h;rw[rf,afg]at this;simpa using this
theorem Pg{α:Type}(es:List α)(h:es.length=7):∃e,es[3]? =Y2 e/\es=es.take 3++e::es.drop 4/\(es.take 3).length=3/\(es.drop 4).length=3:=by
 match es,h with
 |[a,b,c,d,e,f,g],_=>exact⟨d,rfl,rfl,rfl,rfl⟩
structure Ul(w w':Y4)(d:Nat)(b off:Nat)(cs:Array Y3)(T:Y5)(es:List (Y3×Y3))(ks:List aM)(k:aM)(ve vk:Y3)(ve' vk':Y3)(lo hi:aM)(mid:Y3×Y3):Prop where
 gP:ax (b::(own ve++own vk++(k.b::k.F))) w w'
 blk:ae w' b ((cs.setIfInBounds off ve').setIfInBounds (off+1) vk') T
 bz:w'.ownsRow 0 265 2 ve' (es.length+1) (ah (es++[mid]))
 kids:w'.ownsRow 0 266 1 vk' (es.length+2) ((ks++[lo,hi]).map aM.ptr)
 list:k.L=lo.L++mid::hi.L
 low:fG w' d lo
 high:fG w' d hi
 cnt:∀x,(own ve').count x+(own vk').count x+([lo,hi].flatMap av).count x<=(own ve).count x+(own vk).count x+([k].flatMap av).count x\/(w.heap.size<=x/\(own ve').count x+(own vk').count x+([lo,hi].flatMap av).count x<=1)
theorem dV{v':Y3}{M:Nat}(h:∀k∈own v',k∈own v\/(N<=k/\k<M)):(own v').count x<=(own v).count x\/(N<=x/\x<M/\(own v').count x<=1):=by
 by_cases hx:x∈own v'
 · rcases h x hx with h1|h1
   · left
     have:=mQ v' x;have:=List.count_pos_iff.2 h1;omega
   exact .inr ⟨h1.1,h1.2,mQ v' x⟩
 left;rw[List.count_eq_zero.2 hx];omega
theorem jl(a x:Nat):(if a=x then 1 else 0)=0\/((if a=x then 1 else 0)=1/\a=x):=by split<;>simp[*]
theorem Bl(e:Y3×Y3):ah [e]=[e.1,e.2]:=rfl
theorem xK(d b off:Nat)(cs:Array Y3)(T:Y5)(es:List (Y3×Y3))(ks:List aM)(k:aM)(ve vk:Y3)(w:Y4)(hle:es.length<=6)(hkl:ks.length=es.length)(hB:ae w b cs T)(h0:cs[off]? =Y2 ve)(h1:cs[off+1]? =Y2 vk)
   (hve:w.ownsRow 0 265 2 ve es.length (ah es)) (hvk:w.ownsRow 0 266 1 vk (es.length+1) ((ks++[k]).map aM.ptr)) (hk:ae w k.b #[k.ve,k.vk] 124) (hN:Nd Tr w d 7 7 k.L k.ve k.vk k.F) (hent:∀e∈k.L,wO e)
   (hnd:(b::(own ve++own vk++(k.b::k.F))).Nodup):
   aaT Zc 150 #[Ym (Y2 ⟨b,off,Y1⟩),Yg Yh es.length] w fun x w'=>x=Yl (Yn #[])/\∃ve' vk' lo hi mid,Ul w w' d b off cs T es ks k ve vk ve' vk' lo hi mid:=by
 obtain⟨gk,ck,rV,rfl,hgk,Qx,RG,QD,R8⟩:=aA hvk (by omega)
 have hlast:((ks++[k]).map aM.ptr)[es.length]? =Y2 (Ym (Y2 ⟨k.b,0,Y1⟩)):=by
  rw[aev,aey (by simp[hkl])];simp[hkl,aM.ptr]
 have hND:=fun x=>bu hnd x
 have hown:own (Yp (Y2 ⟨gk,0,Y1⟩) (es.length+1) ck)=[gk]:=rfl;rw[hown]at hnd hND;have hb0:b<w.heap.size:=hB.lt;have Am:gk<w.heap.size:=(geA.1 hgk).1;have Vl:∀g∈own ve,g<w.heap.size:=aQ hve
 cases d with
 |zero=>
  obtain⟨⟨h7,h7'⟩,FR,⟨ka,kc,hkv⟩,hF⟩:=hN
  have hL7:k.L.length=7:=by omega
  rw[hL7]at FR;obtain⟨gv,cap,cur,IZ,hg,hnc,hcm,hcs,htk⟩:=aA FR (by omega);obtain⟨mid,hm3,hmL,hl3,hl4⟩:=Pg k.L hL7;obtain⟨z,ra,rn,rc,rfl⟩:=hent mid (afx hm3);obtain⟨q6,q7⟩:=Gg htk hm3;obtain⟨q8,q9⟩:=E8 htk
  have hFg:k.F=[gv]:=by rw[hF,IZ];rfl
  rw[hFg]at hND hnd
  have UA:b≠k.b/\b≠gv/\b≠gk/\k.b≠gv/\k.b≠gk/\gv≠gk/\b∉own ve/\k.b∉own ve/\gv∉own ve/\gk∉own ve:=by
   simp only[afy,afz,YW,aeQ,afA,or_false,not_or]at hnd
   grind
  rw[IZ,hkv]at hk;refine(GY b off es.length gk ck k.b gv cap ka kc cs cur T ve (ah es) _ z ra rn rc w (by omega) hB h0 h1 hve hvk hlast hk hg hcs hnc hcm q6 q7 (by rw[q8];exact jW fun e he=>hent e (ZP he)) UA).mono ?_;rintro x w' ⟨rfl,ve',vk',v,gh,N1,N2,t1,t2,t3,t4,t5,⟨cur',t6,t7,t8⟩,t9,t10,t11,t12,t13,t14,t15⟩;refine⟨rfl,ve',vk',⟨k.b,k.L.take 3,Yp (Y2 ⟨gv,0,Y1⟩) 3 cap,Yp ka 0 kc,[gv]⟩,⟨gh,k.L.drop 4,v,Yp Y1 0 0,own v⟩,(Yg Yh z,Yp ra rn rc),?_⟩;have hs:=t1.size;refine⟨t1.more ?_,t2,?_,?_,hmL,⟨t5,?_⟩,⟨t9,?_⟩,?_⟩
  · intro x hx;rw[hown,hFg];simp at hx⊢;rcases hx with h|h|h|h|h<;>simp[h]
  · rw[gy,Bl];exact t3
  · simpa[aM.ptr]using t4
  · refine⟨⟨by show 3<=(k.L.take 3).length;omega,by show(k.L.take 3).length<=6;omega⟩,?_,⟨_,_,rfl⟩,rfl⟩;show w'.ownsRow 0 265 2 (Yp (Y2 ⟨gv,0,Y1⟩) 3 cap) (k.L.take 3).length (ah (k.L.take 3));rw[hl3];exact gY t6 (by rw[fe,hl3]) (by omega) hcm t7 (t8.trans q9)
  · refine⟨⟨by show 3<=(k.L.drop 4).length;omega,by show(k.L.drop 4).length<=6;omega⟩,?_,⟨_,_,rfl⟩,rfl⟩;show w'.ownsRow 0 265 2 v (k.L.drop 4).length (ah (k.L.drop 4));rw[hl4,<-q8];exact afw t10 (aeR _)
  intro x;obtain⟨g3,_,_,hv3,_⟩:=aA (afw t10 (aeR _)) (by omega);have hg3:=t11 g3 (by rw[hv3];simp[own,aaR]);have e1:=dV (x:=x) t14;have e2:(own vk').count x<=[gk].count x\/(N2<=x/\x<w'.heap.size/\(own vk').count x<=1):=dV (v:=Yp (Y2 ⟨gk,0,Y1⟩) 0 0) (fun g hg=>by rcases t15 g hg with h|h;exact .inl (by simp[own,aaR,h]);exact .inr h);have e3:=Hz (x:=x) t11;have e4:=mQ v x;have e5:=cnt_lt (x:=x) Vl;have e6:=hk.lt;have e7:=(geA.1 hg).1;have e8:[gk].count x=0\/x<w.heap.size:=cnt_lt (fun g hg=>by simp at hg;omega);have e9:=mQ ve x;rw[hown];simp only[YU,aaJ,aaK,av,aV,aD,aeL,Ze,hFg]at*;by_cases b1:k.b=x<;>by_cases b2:gv=x<;>by_cases b3:gh=x<;>by_cases b4:gk=x<;>simp only[b1,b2,b3,b4,if_true,if_false]at* <;>omega
 |succ d=>
  obtain⟨es7,ks8,⟨h7,h7'⟩,hk8,FR,SB,hL,hF,hkids⟩:=hN
  have hl7:es7.length=7:=by omega
  have hl8:ks8.length=8:=by omega
  rw[hl7]at FR;rw[hl8]at SB;obtain⟨gv,cap,cur,IZ,hg,hnc,hcm,hcs,htk⟩:=aA FR (by omega);obtain⟨gq,cq,curq,Vs,hgq,hncq,WI,hcsq,TD⟩:=aA SB (by omega);obtain⟨mid,hm3,hmL⟩:=FV es7 (ks8.map aM.L) hl7 (by simpa using hl8);obtain⟨_,_,_,hl3,hl4⟩:=Pg es7 hl7
  have hin:∀e∈es7,e∈k.L:=fun e he=>by rw[hL];exact fM _ _ (by simp;omega) e he
  obtain⟨z,ra,rn,rc,rfl⟩:=hent mid (hin mid (afx hm3));obtain⟨q6,q7⟩:=Gg htk hm3;obtain⟨q8,q9⟩:=E8 htk
  have hFg:k.F=[gv]++[gq]++ks8.flatMap av:=by rw[hF,IZ,Vs];rfl
  rw[hFg]at hND hnd
  have UA:b≠k.b/\b≠gv/\b≠gk/\k.b≠gv/\k.b≠gk/\gv≠gk/\b∉own ve/\k.b∉own ve/\gv∉own ve/\gk∉own ve:=by
   simp only[afy,afz,YW,aeQ,afA,or_false,not_or]at hnd
   grind
  have hqd:gq≠b/\gq≠k.b/\gq≠gv/\gq∉own ve/\gq≠gk:=by
   simp only[afy,afz,YW,aeQ,afA,or_false,not_or]at hnd
   grind
  have hfar:∀g∈ks8.flatMap av,g∉[b,gk,k.b,gv,gq]++own ve:=by
   simp only[afy,afz,YW,aeQ,afA,or_false,not_or]at hnd⊢
   grind
  have Wu:∀q∈ks8,q.b<w.heap.size/\∀g∈q.F,g<w.heap.size:=fun q hq=>⟨(hkids q hq).1.lt,(hkids q hq).2.lt⟩
  rw[IZ,Vs]at hk;refine(FE b off es.length gk ck k.b gv cap gq cq cs cur curq T ve (ah es) _ z ra rn rc w (by omega) hB h0 h1 hve hvk hlast hk hg hcs hnc hcm q6 q7 (by rw[q8];exact jW fun e he=>hent e (hin e (ZP he))) UA hgq (by omega) hncq ?_ hqd).mono ?_
  · intro u hu;have hu2:=ZP hu;rw[show(8:Nat)=8*1 from rfl,TD]at hu2;obtain⟨q,hq,rfl⟩:=List.mem_map.1 hu2
    rfl
  rintro x w' ⟨rfl,ve',vk',v,vq,gh,N1,N2,t1,t2,t3,t4,t5,⟨cur',t6,t7,t8⟩,t9,t10,t11,⟨vH,s1,s2,s3⟩,s4,s5,t12,t13,t14,t15⟩
  have hkeep:∀q∈ks8,ae w' q.b #[q.ve,q.vk] Tr.tn/\Nd Tr w' d 3 6 q.L q.ve q.vk q.F:=fun q hq=>by
   obtain⟨a1,a2⟩:=hkids q hq;exact⟨t1.blk a1 (hfar q.b (List.mem_flatMap.2 ⟨q,hq,by simp[av]⟩)),a2.touch t1 fun g hg=>hfar g (List.mem_flatMap.2 ⟨q,hq,by simp[av,hg]⟩)⟩
  refine⟨rfl,ve',vk',⟨k.b,aF ((ks8.map aM.L).take 4) (es7.take 3),Yp (Y2 ⟨gv,0,Y1⟩) 3 cap,Yp (Y2 ⟨gq,0,Y1⟩) 4 cq,[gv]++[gq]++(ks8.take 4).flatMap av⟩,⟨gh,aF ((ks8.map aM.L).drop 4) (es7.drop 4),v,vq,own v++own vq++(ks8.drop 4).flatMap av⟩,(Yg Yh z,Yp ra rn rc),?_⟩;have hs:=t1.size;refine⟨t1.more ?_,t2,?_,?_,by rw[hL];exact hmL,⟨t5,?_⟩,⟨t9,?_⟩,?_⟩
  · intro x hx;rw[hown,hFg];simp only[YW,aeQ,afA,or_false]at hx⊢
    grind
  · rw[gy,Bl];exact t3
  · simpa[aM.ptr]using t4
  · refine⟨es7.take 3,ks8.take 4,⟨by omega,by omega⟩,by simp;omega,?_,?_,by rw[afB],rfl,fun q hq=>hkeep q (List.mem_of_mem_take hq)⟩
    · rw[hl3];exact gY t6 (by rw[fe,hl3]) (by omega) hcm t7 (t8.trans q9)
    rw[show(ks8.take 4).length=4 by simp;omega];refine gY s1 (by simp;omega) (by omega) WI (by omega) ?_;rw[show(4:Nat)*1=4 from rfl,s3];have:=congrArg (aft 4) TD;rw[afg]at this;simpa[afB]using this
  · refine⟨es7.drop 4,ks8.drop 4,⟨by omega,by omega⟩,by simp;omega,?_,?_,by rw[afC],rfl,fun q hq=>hkeep q (ZP hq)⟩
    · rw[hl4,<-q8];exact afw t10 (aeR _)
    rw[show(ks8.drop 4).length=4 by simp;omega];have h9:=afw s4 (aeR _);rw[show(8:Nat)=8*1 from rfl,TD,<-afC]at h9;exact h9
  intro x;obtain⟨g3,_,_,hv3,_⟩:=aA (afw t10 (aeR _)) (by omega);have hg3:=t11 g3 (by rw[hv3];simp[own,aaR]);have e1:=dV (x:=x) t14;have e2:(own vk').count x<=[gk].count x\/(N2<=x/\x<w'.heap.size/\(own vk').count x<=1):=dV (v:=Yp (Y2 ⟨gk,0,Y1⟩) 0 0) (fun g hg=>by rcases t15 g hg with h|h;exact .inl (by simp[own,aaR,h]);exact .inr h);have e3:=Hz (x:=x) t11;have e4:=mQ v x;have e3q:=Hz (x:=x) s5;have e4q:=mQ vq x;have e5:=cnt_lt (x:=x) Vl;have e6:=hk.lt;have e7:=(geA.1 hg).1;have e7q:=(geA.1 hgq).1;have e8:[gk].count x=0\/x<w.heap.size:=cnt_lt (fun g hg=>by simp at hg;omega);have e9:=mQ ve x;have e10:=Pf ks8 4 x;have e11:=Q7 (x:=x) Wu;rw[hown];simp only[YU,aaJ,aaK,aV,aD,aeL,Ze,hFg,show∀q:aM,av q=q.b::q.F from fun _=>rfl];simp only[aD,aeL,Ze]at e2 e8;have i1:=jl k.b x;have i2:=jl gv x;have i3:=jl gh x;have i4:=jl gk x;have i5:=jl gq x;generalize ((ks8.take 4).flatMap av).count x=A at*;generalize ((ks8.drop 4).flatMap av).count x=B at*;generalize (ks8.flatMap av).count x=C at*;generalize (own ve').count x=a1 at*;generalize (own vk').count x=a2 at*;generalize (own v).count x=a3 at*;generalize (own vq).count x=a4 at*;generalize (own ve).count x=a5 at*;generalize (if k.b=x then 1 else 0)=j1 at*;generalize (if gv=x then 1 else 0)=j2 at*;generalize (if gh=x then 1 else 0)=j3 at*;generalize (if gk=x then 1 else 0)=j4 at*;generalize (if gq=x then 1 else 0)=j5 at*;by_cases hx:x<w.heap.size
  · have z1:a1<=a5:=by omega
    have z2:a2<=j4:=by omega
    have z3:a3=0:=by omega
    have z4:a4=0:=by omega
    have z5:j3=0:=by omega
    left;omega
  have z1:a5=0:=by omega
  have z2:j4=0:=by omega
  have z3:j1=0:=by omega
  have z4:j2=0:=by omega
  have z5:j5=0:=by omega
  have z6:C=0:=by omega
  right
  refine⟨by omega,?_⟩
  have z7:A=0:=by omega
  have z8:B=0:=by omega
  have y1:a1=0\/(N1<=x/\x<N2/\a1<=1):=by omega
  have y2:a2=0\/(N2<=x/\a2<=1):=by omega
  omega
end Bt
namespace Bt
def Less(L:List (Y3×Y3))(z:Int):Prop:=∀e∈L,∃y ra rn rc,e=(Yg Yh y,Yp ra rn rc)/\y<z
theorem Less.kT{L:List (Y3×Y3)}(h:Less L z):∀e∈L,wO e:=fun e he=>by
 obtain⟨y,ra,rn,rc,rfl,_⟩:=h e he;exact⟨y,ra,rn,rc,rfl⟩
def Ord(L:List (Y3×Y3)):Prop:=L.Pairwise fun a b=>∃y z,a.1=Yg Yh y/\b.1=Yg Yh z/\y<z
theorem Dm:∀{es:List (Y3×Y3)} {z:Int},Less es z->Ord es->∃M,es=bz M/\FY M/\Rows M/\cnt M z=M.length/\has M z=false
 |[],z,_,_=>⟨[],rfl,List.Pairwise.nil,fun _ h=>by simp at h,rfl,rfl⟩
 |e::r,z,h,ho=>by
  obtain⟨M,rfl,h2,h3,h4,h5⟩:=Dm (es:=r) (fun e he=>h e (by simp[he])) ho.of_cons;obtain⟨y,ra,rn,rc,rfl,hy⟩:=h e (by simp);refine⟨(y,Yp ra rn rc)::M,rfl,List.Pairwise.cons (fun x hx=> ?_) h2,fun x hx=> ?_,?_,?_⟩
  · obtain⟨a,b,e1,e2,h6⟩:=aeT ho (show(Value.int .i64 x.1,x.2)∈bz M from List.mem_map.2 ⟨x,hx,rfl⟩);injection e1 with _ e1;injection e2 with _ e2;show y<x.1;omega
  · rcases List.mem_cons.1 hx with rfl|hx
    · exact⟨_,_,_,rfl⟩
    exact h3 x hx
  · unfold cnt at*;rw[aeS (by simpa using hy),h4];rfl
  unfold has at*;rw[List.any_cons,h5];simp;omega
structure di(w w':Y4)(d lo hi:Nat)(b off:Nat)(cs:Array Y3)(T:Y5)(L:List (Y3×Y3))(ve vk:Y3)(F:List Nat)(ve' vk':Y3)(F':List Nat):Prop where
 gP:ax (b::F) w w'
 blk:ae w' b ((cs.setIfInBounds off ve').setIfInBounds (off+1) vk') T
 nd:Nd Tr w' d lo hi L ve' vk' F'
 cnt:∀x,F'.count x<=F.count x\/(w.heap.size<=x/\F'.count x<=1)
theorem iR{cs:Array Y3}{i:Nat}(h:cs[i]? =Y2 v):cs.setIfInBounds i v=cs:=by
 apply Array.ext
 · simp
 intro j h1 h2;rw[Array.getElem_setIfInBounds]
 split
 · rename_i e;subst e;obtain⟨h3,h4⟩:=geA.1 h;exact h4.symm
 rfl
theorem Oi(z:Int)(ra:Option abR)(rn rc:Nat)(lo hi:Nat)(L:List (Y3×Y3))(b off:Nat)(cs:Array Y3)(T:Y5)(ve vk:Y3)(F:List Nat)(w:Y4)(hhi:hi<=7)(hB:ae w b cs T)(h0:cs[off]? =Y2 ve)(h1:cs[off+1]? =Y2 vk)(hN:Nd Tr w 0 lo hi L ve vk F)(hL:Less L z)(hO:Ord L)(hnd:(b::F).Nodup):
   aaT Zc 149 #[Ym (Y2 ⟨b,off,Y1⟩),Yj #[Yg Yh z,Yp ra rn rc]] w fun x w'=>x=Yl (.bool true)/\∃ve' vk' F',di w w' 0 lo (hi+1) b off cs T (L++[(Yg Yh z,Yp ra rn rc)]) ve vk F ve' vk' F':=by
 obtain⟨⟨hl1,hl2⟩,hown,⟨ka,kc,rfl⟩,rfl⟩:=hN;obtain⟨M,hM,hR,hRw,hc,hh⟩:=Dm hL hO
 have hML:M.length=L.length:=by rw[hM];simp[bz]
 have HB:=hd hB;have H0:=hd h0;have H1:=hd h1;have HBA:=hd (hB.alloc (Yk #[Yg Yh z,Yp ra rn rc] 265));have HOA:=hd (hown.alloc (Yk #[Yg Yh z,Yp ra rn rc] 265));have hbA:=HBA.o.lt;have a0:=(HBA.o.cell off).trans h0;have a1:=(HBA.o.cell (off+1)).trans h1;have hf:=xX M z ve b off (w.alloc (Yk #[Yg Yh z,Yp ra rn rc] 265)) hbA a0 hR hRw (by omega) (by rw[hML,<-hM];exact HOA.o);rw[hc,hh,hML]at hf;have HF:=hd hf;have HLF:=hd (eF b off ka kc)
 have HNB:Yf (b∉own ve):=by
  intro h;exact(List.nodup_cons.1 hnd).1 h
 have HOV:=hd hown;have HK0:=hd (ae.new w #[Yg Yh z,Yp ra rn rc] 265);have hl0:=HK0.o.lt;obtain⟨k0,k1⟩:=HK0.o.d2;have HLL:Yf (lo<=L.length/\L.length<=hi):=⟨hl1,hl2⟩
 have hln:L.length<=7:=by omega
 have hbl:=hB.lt;clear hf hB h0 h1 hown hM hR hRw hc hh hML hL hO hnd a0;go_enter afD,afE;go_wp2_with fail;refine HF.o.mono ?_;rintro x w1 ⟨rfl,hb1⟩;have HB1:=hd (HBA.o.below hb1 HBA.o.lt);have HO1:=hd (eO HOA.o hb1);have HK1:=hd (HK0.o.below hb1 hl0);have HW1:=hd (((Zh w.heap.size w).alloc (nlr _) _).trans (hb1.mono (by simp)));have c1:=(HB1.o.cell (off+1)).trans H1.o;have c0:=(HB1.o.cell off).trans H0.o;obtain⟨q0,q1⟩:=HK1.o.d2;have lb1:=HB1.o.lt;have lk1:=HK1.o.lt;go_wp2_with fail;refine(HLF.o w1 lb1 c1).mono ?_;rintro x w1 ⟨rfl,rfl⟩;have HE2:=hd (ae.new (abA w1) #[Yg Yh z,Yp ra rn rc] 265);have HIN:=hd (rD ve L.length (ah L) z ra rn rc w1.heap.size ((abA w1).alloc (Yk #[Yg Yh z,Yp ra rn rc] 265)) (by omega) (HO1.o.alloc _) HE2.o.lt ((HE2.o.cell 0).trans rfl) ((HE2.o.cell 1).trans rfl));have HB2:=hd (HB1.o.drew.alloc (Yk #[Yg Yh z,Yp ra rn rc] 265));go_wp2_with fail
 go_region_with (
   go_at_call 204
   refine HIN.o.mono ?_;rintro x w2 ⟨v2,rfl,hown2,hgrow2,hsub2⟩;have HT2:Yf (ax (own ve) ((abA w1).alloc (Yk #[Yg Yh z,Yp ra rn rc] 265)) w2):=ax.grown hgrow2 (fun k hk=>by simp[own,hk]);have HB3:=hd (HT2.o.blk HB2.o HNB.o);have HO2:=hd hown2;have HS2:=hd hsub2;have d0:=(HB3.o.cell off).trans H0.o;have f0:=HB3.o.free off;have lb3:=HB3.o.lt;obtain⟨a2,c2,rfl⟩:=ai hown2
   clear hown2 hgrow2 hsub2)
 all_goals
  go_wp2_with fail;go_ret;have hs1:=HW1.o.size;have hlb:b<w.heap.size:=HB.o.lt;have hsz:((abA w1).alloc (Yk #[Yg Yh z,Yp ra rn rc] 265)).heap.size=w1.heap.size+1:=ZC _ _;have T1:ax (b::own ve) w (w2.setCell ⟨b,off,Y1⟩ (Yp a2 (L.length+1) c2)):=((((ax.of (F:=b::own ve) HW1.o).drew).alloc (Yk #[Yg Yh z,Yp ra rn rc] 265)).trans HT2.o (fun x hx=> .inl (by simp[hx]))).set _ _ (.inl (by simp))
  have hin:∀k∈own (Yp a2 (L.length+1) c2),k∈own ve\/w.heap.size<=k:=fun k hk=>by
   rcases HS2.o k hk with h|h
   · exact .inl h
   exact .inr (by rw[hsz]at h;omega)
  have hbn:b∉own (Yp a2 (L.length+1) c2):=fun h=>by
   rcases hin b h with h|h
   · exact HNB.o h
   omega
  refine⟨rfl,Yp a2 (L.length+1) c2,Yp ka 0 kc,own (Yp a2 (L.length+1) c2),T1,?_,⟨⟨?_,?_⟩,?_,⟨_,_,rfl⟩,rfl⟩,?_⟩
  · have h9:=HB3.o.set off (Yp a2 (L.length+1) c2);rw[iR (i:=off+1)]
    · exact h9
    rw[afs (by omega)];exact H1.o
  · simp;have:=HLL.o;omega
  · simp;have:=HLL.o;omega
  · rw[aaN,gy];refine af HO2.o ((ax.refl [b] w2).set ⟨b,off,Y1⟩ _ (.inl (by simp))) (fun g hg=> ?_);simp
    exact fun e=>hbn (e▸hg)
  intro x;rcases RS (M:=w2.heap.size) hin (aQ HO2.o) (x:=x)with h|h
  · exact .inl h
  exact .inr ⟨h.1,h.2.2⟩
end Bt
namespace Bt
theorem jY{α:Type}:∀(ls:List (List α)) (es:List α),ls.length=es.length+1->es.Sublist (aF ls es)/\∀l∈ls,l.Sublist (aF ls es)
 |[],_,h=>by simp at h
 |[l],[],h=>⟨by simp,fun m hm=>by simp at hm;subst hm;simp[aF]⟩
 |_::_::_,[],h=>by simp at h
 |l::ls,e::es,h=>by
  obtain⟨h1,h2⟩:=jY ls es (by simpa using h);refine⟨?_,fun m hm=> ?_⟩
  · show(e::es).Sublist (l++e::aF ls es);exact(h1.cons_cons e).trans (afF _ _)
  rcases List.mem_cons.1 hm with rfl|hm
  · exact List.sublist_append_left _ _
  exact((h2 m hm).trans (List.sublist_cons_self _ _)).trans (afF _ _)
theorem Less.sub{L M:List (Y3×Y3)}(h:Less L z)(hs:M.Sublist L):Less M z:=fun e he=>h e (hs.subset he)
theorem Ord.sub{L M:List (Y3×Y3)}(h:Ord L)(hs:M.Sublist L):Ord M:=h.sublist hs
theorem Nd.exact{T:Ty}{d lo hi:Nat}{L:List (Y3×Y3)}{ve vk:Y3}(h:Nd T w d lo hi L ve vk F):∃m,lo<=m/\m<=hi/\Nd T w d m m L ve vk F/\∃ao cp,ve=Yp ao m cp:=by
 cases d with
 |zero=>
  obtain⟨⟨h1,h2⟩,h3,h4,h5⟩:=h;obtain⟨ao,cp,hv⟩:=ai h3;exact⟨L.length,h1,h2,⟨⟨nlr _,nlr _⟩,h3,h4,h5⟩,ao,cp,hv⟩
 |succ d=>
  obtain⟨es,ks,⟨h1,h2⟩,h3,h4,h5⟩:=h;obtain⟨ao,cp,hv⟩:=ai h4;exact⟨es.length,h1,h2,⟨es,ks,⟨nlr _,nlr _⟩,h3,h4,h5⟩,ao,cp,hv⟩
def OG(d:Nat):Prop:=∀(z:Int) (ra:Option abR) (rn rc:Nat) (lo hi:Nat) (L:List (Y3×Y3)) (b off:Nat) (cs:Array Y3) (T:Y5) (ve vk:Y3) (F:List Nat) (w:Y4),hi<=6->ae w b cs T->cs[off]? =Y2 ve->cs[off+1]? =Y2 vk->Nd Tr w d lo hi L ve vk F->Less L z->Ord L->(b::F).Nodup->
   aaT Zc 149 #[Ym (Y2 ⟨b,off,Y1⟩),Yj #[Yg Yh z,Yp ra rn rc]] w fun x w'=>x=Yl (.bool true)/\∃ve' vk' F',di w w' d lo (hi+1) b off cs T (L++[(Yg Yh z,Yp ra rn rc)]) ve vk F ve' vk' F'
theorem RD{kb:Nat}{A B R F':List Nat}(hnd:(b::(A++B++(R++kb::F))).Nodup)(hl:∀g∈b::(A++B++(R++kb::F)),g<N)(hc:∀x,F'.count x<=F.count x\/(N<=x/\F'.count x<=1)):∀x,(b::(A++B++(R++kb::F'))).count x<=(b::(A++B++(R++kb::F))).count x\/(N<=x/\(b::(A++B++(R++kb::F'))).count x<=1):=by
 intro x;have h1:=bu hnd x;have h2:=cnt_lt (x:=x) hl;have h3:=hc x;simp only[aD,aV]at*;omega
theorem Mt{kb gk:Nat}{A R:List Nat}(h:(b::(A++[gk]++(R++kb::F))).Nodup):b∉kb::F/\(∀g∈A,g∉kb::F)/\gk∉kb::F/\(∀g∈R,g∉kb::F)/\(kb::F).Nodup:=by
 have key:∀g,(kb::F).count g+(if b=g then 1 else 0)+A.count g+(if gk=g then 1 else 0)+R.count g<=1:=fun g=>by
  have:=bu h g;simp only[aD,aV,aeL]at this⊢;omega
 refine⟨fun hx=> ?_,fun g hg hx=> ?_,fun hx=> ?_,fun g hg hx=> ?_,fJ fun g=>by have:=key g;omega⟩
 · have a:=List.count_pos_iff.2 hx;have:=key b;simp only[if_true]at this;omega
 · have a:=List.count_pos_iff.2 hx;have b:=List.count_pos_iff.2 hg;have:=key g;omega
 · have a:=List.count_pos_iff.2 hx;have:=key gk;simp only[if_true]at this;omega
 have a:=List.count_pos_iff.2 hx;have b:=List.count_pos_iff.2 hg;have:=key g;omega
theorem PY(z:Int)(ra:Option abR)(rn rc:Nat)(b off n kb gk ck:Nat)(w:Y4)(PO R:Y4->Prop)(hn:n<=1000)(hb:b<w.heap.size)(h1:w.cell? ⟨b,off+1,Y1⟩=Y2 (Yp (Y2 ⟨gk,0,Y1⟩) (n+1) ck))
   (hfind:aaT Zc 203 #[Ym (Y2 ⟨b,off,Y1⟩),Yg Yh z] (w.alloc (Yk #[Yg Yh z,Yp ra rn rc] 265)) fun x w'=>x=Yl (Yn #[Yg Yh (n:Nat),.bool false])/\aaS (w.alloc (Yk #[Yg Yh z,Yp ra rn rc] 265)).heap.size (w.alloc (Yk #[Yg Yh z,Yp ra rn rc] 265)) w')
   (hgk:gk<w.heap.size) (q0:w.cell? ⟨gk,n,Y1⟩=Y2 (Ym (Y2 ⟨kb,0,Y1⟩)))
   (hput:∀W,aaS w.heap.size w W->aaT Zc 149 #[Ym (Y2 ⟨kb,0,Y1⟩),Yj #[Yg Yh z,Yp ra rn rc]] W fun x W'=>x=Yl (.bool true)/\PO W')
   (hPO:∀W,PO W->b<W.heap.size/\W.cell? ⟨b,off+1,Y1⟩=Y2 (Yp (Y2 ⟨gk,0,Y1⟩) (n+1) ck)/\gk<W.heap.size/\W.cell? ⟨gk,n,Y1⟩=Y2 (Ym (Y2 ⟨kb,0,Y1⟩))/\kb<W.heap.size/\
     ∃m ao cp,m<=7/\W.cell? ⟨kb,0,Y1⟩=Y2 (Yp ao m cp)/\(m<=6->R W)/\(6<m->aaT Zc 150 #[Ym (Y2 ⟨b,off,Y1⟩),Yg Yh n] W fun x W'=>x=Yl (Yn #[])/\R W')):
   aaT Zc 149 #[Ym (Y2 ⟨b,off,Y1⟩),Yj #[Yg Yh z,Yp ra rn rc]] w fun x w'=>x=Yl (.bool true)/\R w':=by
 have HF:=hd hfind;have HPT:=hd hput;have HPO:=hd hPO;have HK0:=hd (ae.new w #[Yg Yh z,Yp ra rn rc] 265)
 have HA0:Yf (aaS w.heap.size w (w.alloc (Yk #[Yg Yh z,Yp ra rn rc] 265))):=by show aaS _ _ _;go_grown
 have hl0:=HK0.o.lt
 have hz0:((n:Int)+1==0)=false:=by simp;omega
 have hnn:(((n+1:Nat):Int)==0)=false:=by simp;omega
 have j1:(n:Int)<(n:Int)+1:=by omega
 have j2:n<n+1:=by omega
 go_enter afD,afE;go_wp2_with fail;refine HF.o.mono ?_;rintro x w1 ⟨rfl,hb1⟩;have HW1:=hd (HA0.o.trans (hb1.mono HA0.o.size));have HK1:=hd (HK0.o.below hb1 hl0);have c1:=(HW1.o.cell (p:=⟨b,off+1,Y1⟩) hb).trans h1;have c2:=(HW1.o.cell (p:=⟨gk,n,Y1⟩) hgk).trans q0;have lb1:=nlA hb HW1.o.size;have lg1:=nlA hgk HW1.o.size;obtain⟨e0,e1⟩:=HK1.o.d2;have lk1:=HK1.o.lt;go_wp2_with fail;refine(gz b off (n+1) _ _ _ hnn lb1 c1).mono ?_;rintro x w1 ⟨rfl,rfl⟩;have HP1:=hd (HPT.o (abA w1) HW1.o.drew);go_wp2_with fail
 go_region_with (
   go_at_call 149
   refine HP1.o.mono ?_;rintro x w2 ⟨rfl,hpo⟩;obtain⟨p1,p2,p3,p4,p5,m,ao,cp,hm7,p6,p7,p8⟩:=HPO.o w2 hpo;have HR7:=hd p7;have HR8:=hd p8
   clear hpo p7 p8)
 all_goals
  by_cases hm:m<=6
  · have hg6:¬(6:Int)<(m:Int):=by omega
    go_wp2_with fail;go_ret;exact⟨rfl,HR7.o hm⟩
  have hg6:(6:Int)<(m:Int):=by omega
  have HSP:=hd (HR8.o (by omega));go_wp2_with fail;refine HSP.o.mono ?_;rintro x w3 ⟨rfl,hr⟩;have HR3:=hd hr;go_wp2_with fail;go_ret;exact⟨rfl,HR3.o⟩
theorem Lu(d:Nat)(ih:OG d):OG (d+1):=by
 intro z ra rn rc lo hi L b off cs T ve vk F w hhi hB h0 h1 hN hL hO hnd;obtain⟨es,ks,⟨hl1,hl2⟩,hkl,hown,kI,rfl,rfl,hkids⟩:=hN
 obtain⟨ks0,k,rfl⟩:∃ks0 k,ks=ks0++[k]:=by
  rcases List.eq_nil_or_concat ks with h|⟨a,b,h⟩
  · subst h;simp at hkl
  exact⟨a,b,by simpa using h⟩
 have hk0:ks0.length=es.length:=by simpa using hkl
 obtain⟨gk,ck,rV,rfl,hgk,Qx,RG,QD,R8⟩:=aA kI (by omega)
 have hwl:((ks0++[k]).map aM.L).length=es.length+1:=by simp[hk0]
 obtain⟨hs1,hs2⟩:=jY ((ks0++[k]).map aM.L) es hwl;obtain⟨M,hM,hR,hRw,hc,hh⟩:=Dm (hL.sub hs1) (hO.sub hs1)
 have hML:M.length=es.length:=by rw[hM];simp[bz]
 obtain⟨hkB,hkN⟩:=hkids k (by simp);have hkL:=hs2 k.L (by simp)
 have hlt:∀g∈b::(own ve++own (Yp (Y2 ⟨gk,0,Y1⟩) (ks0++[k]).length ck)++(ks0.flatMap av++k.b::k.F)),g<w.heap.size:=by
  intro g hg;simp only[aeQ,YW]at hg;rcases hg with rfl|(h|h)|h|rfl|h
  · exact hB.lt
  · exact aQ hown g h
  · exact aQ kI g h
  · obtain⟨q,hq,hm⟩:=List.mem_flatMap.1 h;obtain⟨a1,a2⟩:=hkids q (by simp[hq]);rcases List.mem_cons.1 hm with rfl|hm
    · exact a1.lt
    exact a2.lt g hm
  · exact hkB.lt
  exact hkN.lt g h
 have Kn:(b::(own ve++own (Yp (Y2 ⟨gk,0,Y1⟩) (ks0++[k]).length ck)++(ks0.flatMap av++k.b::k.F))).Nodup:=by
  have:((ks0++[k]).flatMap fun k=>k.b::k.F)=ks0.flatMap av++k.b::k.F:=by rw[aeN];simp[av];rfl
  rw[this]at hnd;exact hnd
 have XK:own (Yp (Y2 ⟨gk,0,Y1⟩) (ks0++[k]).length ck)=[gk]:=rfl
 have hkn:(ks0++[k]).length=es.length+1:=by simp[hk0]
 have Am:gk<w.heap.size:=(geA.1 hgk).1
 have hF:(own ve++own (Yp (Y2 ⟨gk,0,Y1⟩) (ks0++[k]).length ck)++(ks0++[k]).flatMap fun k=>k.b::k.F)=own ve++own (Yp (Y2 ⟨gk,0,Y1⟩) (ks0++[k]).length ck)++(ks0.flatMap av++k.b::k.F):=by
  rw[aeN];simp[av];rfl
 rw[hF];rw[XK]at hlt Kn⊢;rw[hkn]at kI h1
 have q0:w.cell? ⟨gk,es.length,Y1⟩=Y2 (Ym (Y2 ⟨k.b,0,Y1⟩)):=by
  have:=kI.cells (g:=gk) rfl es.length (Ym (Y2 ⟨k.b,0,Y1⟩)) (by rw[aev,aey (by simp[hk0])];simp[hk0,aM.ptr]);simpa only[Zn,Ze]using this
 have hfind:=xX M z ve b off (w.alloc (Yk #[Yg Yh z,Yp ra rn rc] 265)) (hB.alloc _).lt (((hB.alloc _).cell off).trans h0) hR hRw (by omega) (by rw[hML,<-hM];exact hown.alloc _);rw[hc,hh,hML]at hfind;have hbk:b∉k.b::k.F/\(∀g∈own ve,g∉k.b::k.F)/\gk∉k.b::k.F/\(∀g∈ks0.flatMap av,g∉k.b::k.F)/\(k.b::k.F).Nodup:=Mt Kn;refine PY z ra rn rc b off es.length k.b gk ck w (fun W2=>∃W ve' vk' F',aaS w.heap.size w W/\di W W2 d 3 7 k.b 0 #[k.ve,k.vk] 124 (k.L++[(Yg Yh z,Yp ra rn rc)]) k.ve k.vk k.F ve' vk' F') _ (by omega) hB.lt ((hB.cell (off+1)).trans h1) hfind Am q0 ?_ ?_
 · intro W hW;refine(ih z ra rn rc 3 6 k.L k.b 0 #[k.ve,k.vk] 124 k.ve k.vk k.F W (by omega) (hkB.below hW hkB.lt) rfl rfl (hkN.below hW) (hL.sub hkL) (hO.sub hkL) hbk.2.2.2.2).mono ?_;rintro x W' ⟨rfl,ve',vk',F',po⟩;exact⟨rfl,W,ve',vk',F',hW,po⟩
 rintro W2 ⟨W,kve,kvk,kF,hW,po⟩;have T2:ax (k.b::k.F) w W2:=(ax.of (F:=k.b::k.F) hW).trans po.gP (fun x hx=> .inl hx);have B2:ae W2 b cs T:=T2.blk hB hbk.1;have V2:W2.ownsRow 0 265 2 ve es.length (ah es):=af hown T2 hbk.2.1;have K2:W2.ownsRow 0 266 1 (Yp (Y2 ⟨gk,0,Y1⟩) (es.length+1) ck) (es.length+1) ((ks0++[k]).map aM.ptr):=af kI T2 (fun g hg=>by simp[own,aaR]at hg;rw[hg];exact hbk.2.2.1)
 have kB2:ae W2 k.b #[kve,kvk] 124:=by simpa using po.blk
 have keep:∀q∈ks0,ae W2 q.b #[q.ve,q.vk] 124/\Nd Tr W2 d 3 6 q.L q.ve q.vk q.F:=fun q hq=>by
  obtain⟨a1,a2⟩:=hkids q (by simp[hq]);exact⟨T2.blk a1 (hbk.2.2.2.1 q.b (List.mem_flatMap.2 ⟨q,hq,by simp[av]⟩)),a2.touch T2 fun g hg=>hbk.2.2.2.1 g (List.mem_flatMap.2 ⟨q,hq,by simp[av,hg]⟩)⟩
 have hsz:=T2.size;have hszW:=hW.size;obtain⟨m,hm1,hm2,nd2,ao,cp,IZ⟩:=po.nd.exact
 have hcnt:∀x,kF.count x<=k.F.count x\/(w.heap.size<=x/\kF.count x<=1):=fun x=>by
  rcases po.cnt x with h|h
  · exact .inl h
  exact .inr ⟨by omega,h.2⟩
 have hall:=RD Kn hlt hcnt;refine⟨B2.lt,(B2.cell (off+1)).trans h1,by omega,?_,kB2.lt,m,ao,cp,hm2,by rw[<-IZ];exact kB2.cell 0,?_,?_⟩
 · have hbb:=T2.block gk Am hbk.2.2.1;exact(World.cell?_of_block (w:=w) (a:=⟨gk,es.length,Y1⟩) hbb).trans q0
 · intro hm6;refine⟨ve,Yp (Y2 ⟨gk,0,Y1⟩) (es.length+1) ck,own ve++[gk]++(ks0.flatMap av++k.b::kF),?_,?_,?_,?_⟩
   · refine T2.more fun x hx=> ?_
     simp only[aeQ,YW]at hx⊢
     grind
   · rw[iR h0,iR h1];exact B2
   · refine⟨es,ks0++[⟨k.b,k.L++[(Yg Yh z,Yp ra rn rc)],kve,kvk,kF⟩],⟨hl1,by omega⟩,by simp[hk0],V2,?_,?_,?_,?_⟩
     · have:(ks0++[(⟨k.b,k.L++[(Yg Yh z,Yp ra rn rc)],kve,kvk,kF⟩:aM)]).map aM.ptr=(ks0++[k]).map aM.ptr:=by simp[aM.ptr]
       rw[this,show(ks0++[(⟨k.b,k.L++[(Yg Yh z,Yp ra rn rc)],kve,kvk,kF⟩:aM)]).length=es.length+1 by simp[hk0]];exact K2
     · have:=mZ es (ks0.map aM.L) k.L [(Yg Yh z,Yp ra rn rc)] (by simp[hk0]);simp only[aev,YZ,Y0];exact this.symm
     · rw[aeN];simp[av];rfl
     intro q hq;rcases List.mem_append.1 hq with hq|hq
     · exact keep q hq
     simp at hq;subst hq;exact⟨kB2,nd2.wide (by omega) hm6⟩
   intro x;have:=hall x;simp only[aD]at this;rcases this with h|h
   · left;omega
   right;exact⟨h.1,by omega⟩
 intro hm6
 obtain rfl:m=7:=by omega
 have Wz:(b::(own ve++own (Yp (Y2 ⟨gk,0,Y1⟩) (es.length+1) ck)++(k.b::kF))).Nodup:=fJ fun x=>by
  have a1:=hall x;have a2:=bu Kn x;show(b::(own ve++[gk]++(k.b::kF))).count x<=1;simp only[aD,aV]at*;omega
 refine(xK d b off cs T es ks0 ⟨k.b,k.L++[(Yg Yh z,Yp ra rn rc)],kve,kvk,kF⟩ ve (Yp (Y2 ⟨gk,0,Y1⟩) (es.length+1) ck) W2 (by omega) hk0 B2 h0 h1 V2 ?_ kB2 nd2 ?_ Wz).mono ?_
 · have:(ks0++[(⟨k.b,k.L++[(Yg Yh z,Yp ra rn rc)],kve,kvk,kF⟩:aM)]).map aM.ptr=(ks0++[k]).map aM.ptr:=by simp[aM.ptr]
   rw[this];exact K2
 · intro e he;rcases List.mem_append.1 he with he|he
   · exact(hL.sub hkL).kT e he
   simp at he;subst he;exact⟨_,_,_,_,rfl⟩
 rintro x W3 ⟨rfl,ve',vk',klo,khi,mid,co⟩;refine⟨rfl,ve',vk',own ve'++own vk'++(ks0++[klo,khi]).flatMap av,?_,co.blk,?_,?_⟩
 · have T3:=T2.more (G:=b::(own ve++[gk]++(ks0.flatMap av++k.b::k.F))) (fun x hx=>by simp only[aeQ,YW]at hx⊢;grind)
   refine T3.trans co.gP fun x hx=> ?_
   have hx2:x∈b::(own ve++[gk]++(k.b::kF)):=hx;simp only[aeQ,YW,afA,or_false]at hx2⊢;rcases hx2 with h|(h|h)|h|h
   · left;left;exact h
   · left;right;left;left;exact h
   · left;right;left;right;exact h
   · left;right;right;right;left;exact h
   have hp:=List.count_pos_iff.2 h;rcases hcnt x with h2|h2
   · left;right;right;right;right;exact List.count_pos_iff.1 (by omega)
   exact .inr h2.1
 · have VV:∀q∈ks0,ae W3 q.b #[q.ve,q.vk] Tr.tn/\Nd Tr W3 d 3 6 q.L q.ve q.vk q.F:=fun q hq=>by
    obtain⟨a1,a2⟩:=keep q hq
    have hfar:∀g∈av q,g∉b::(own ve++[gk]++(k.b::kF)):=fun g hg hin=>by
     have g1:g∈ks0.flatMap av:=List.mem_flatMap.2 ⟨q,hq,hg⟩;have c1:=List.count_pos_iff.2 g1;have c2:=List.count_pos_iff.2 hin;have c3:=hall g;have c4:=bu Kn g;simp only[aD,aV]at*;omega
    exact⟨co.gP.blk a1 (hfar q.b (by simp[av])),a2.touch co.gP fun g hg=>hfar g (by simp[av,hg])⟩
   refine⟨es++[mid],ks0++[klo,khi],⟨by simp;omega,by simp;omega⟩,by simp[hk0],by rw[aaN];exact co.bz,?_,?_,rfl,?_⟩
   · rw[show(ks0++[klo,khi]).length=es.length+2 by simp[hk0]];exact co.kids
   · have h9:=co.list;simp only at h9;have:=yj es (ks0.map aM.L) klo.L khi.L mid (by simp[hk0]);simp only[aev,YZ,Y0];rw[this,<-h9];exact(mZ es (ks0.map aM.L) k.L [(Yg Yh z,Yp ra rn rc)] (by simp[hk0])).symm
   intro q hq;rcases List.mem_append.1 hq with hq|hq
   · exact VV q hq
   simp at hq;rcases hq with rfl|rfl
   · exact co.low
   exact co.high
 intro x;have a1:=co.cnt x;have a2:=hall x;have a3:=bu Kn x;have a4:=cnt_lt (x:=x) hlt;simp only[aD,aV,tK,GG]at*;have a5:(own (Yp (Y2 ⟨gk,0,Y1⟩) (es.length+1) ck)).count x=[gk].count x:=rfl;rw[a5]at a1;simp only[aD,aeL]at*;omega
theorem JE:∀d,OG d
 |0=>fun z ra rn rc lo hi L b off cs T ve vk F w hhi hB h0 h1 hN hL hO hnd=>Oi z ra rn rc lo hi L b off cs T ve vk F w (by omega) hB h0 h1 hN hL hO hnd
 |d+1=>Lu d (JE d)
end Bt
namespace Bt
def Root(w:Y4)(d:Nat)(L:List (Y3×Y3))(ve vk:Y3)(F:List Nat):Prop:=Nd Tr w d (if d=0 then 0 else 1) 6 L ve vk F
theorem C8(z:Int)(ra:Option abR)(rn rc:Nat)(p off:Nat)(c:Int)(w:Y4)(PO:Y4->Array Y3->Prop)(T:Y5)(R:Y4->Prop)(hp:p<w.heap.size)(hc:0<=c/\c<=1000000)
   (hput:aaT Zc 149 #[Ym (Y2 ⟨p,off,Y1⟩),Yj #[Yg Yh z,Yp ra rn rc]] w fun x W=>x=Yl (.bool true)/\∃cs,PO W cs)
   (hPO:∀W cs,PO W cs->ae W p cs T/\cs[off+2]? =Y2 (Yg Yh c)/\∃m ao cp bo bn bc,m<=7/\cs[off]? =Y2 (Yp ao m cp)/\cs[off+1]? =Y2 (Yp bo bn bc)/\(m<=6->R (W.setCell ⟨p,off+2,Y1⟩ (Yg Yh (c+1))))/\
     (6<m->aaT Zc 150 #[Ym (Y2 ⟨p,off,Y1⟩),Yg Yh 0] (((((W.setCell ⟨p,off+2,Y1⟩ (Yg Yh (c+1))).setCell ⟨p,off,Y1⟩ (Yp Y1 0 0)).setCell ⟨p,off+1,Y1⟩ (Yp (Y2 ⟨W.heap.size+1,0,Y1⟩) 1 1)).alloc (Yk #[Yp ao m cp,Yp bo bn bc] 124)).alloc (Yk #[Ym (Y2 ⟨W.heap.size,0,Y1⟩)] 266)) fun x W'=>x=Yl (Yn #[])/\R W')):
   aaT Zc 83 #[Ym (Y2 ⟨p,off,Y1⟩),Yg Yh z,Yp ra rn rc] w fun x w'=>x=Yl (Yn #[])/\R w':=by
 have HP:=hd hput;have HPO:=hd hPO;go_enter Tryz.func83,Tryz.ntmps83;go_wp2_with fail;refine HP.o.mono ?_;rintro x W ⟨rfl,cs,hpo⟩;obtain⟨hB,h2,m,ao,cp,bo,bn,bc,hm7,h0,h1,p7,p8⟩:=HPO.o W cs hpo;have HR7:=hd p7;have HR8:=hd p8;have lp:=hB.lt;have c0:=(hB.cell off).trans h0;have c1:=(hB.cell (off+1)).trans h1;have c2:=(hB.cell (off+2)).trans h2;have f2:=hB.free (off+2);have HB1:=hd (hB.set (off+2) (Yg Yh (c+1)))
 have H0:Yf ((cs.setIfInBounds (off+2) (Yg Yh (c+1)))[off]? =Y2 (Yp ao m cp)):=by show _=_;rw[afs (by omega)];exact h0
 have H1:Yf ((cs.setIfInBounds (off+2) (Yg Yh (c+1)))[off+1]? =Y2 (Yp bo bn bc)):=by show _=_;rw[afs (by omega)];exact h1
 have n1:¬(off=off+2):=by omega
 have n2:¬(off+1=off+2):=by omega
 by_cases hm:m<=6
 · have hg6:¬(6:Int)<(m:Int):=by omega
   have HR:=hd (HR7.o hm);have d0:=(HB1.o.cell off).trans H0.o;have lb:=HB1.o.lt;generalize hW1:W.setCell ⟨p,off+2,Y1⟩ (Yg Yh (c+1))=W1 at*;have HW1:=hd hW1;go_wp2_with fail
   go_end0
   exact⟨rfl,by first|exact HR.o|(rw[HW1.o];exact HR.o)⟩
 have hg6:(6:Int)<(m:Int):=by omega
 have HSP:=hd (HR8.o (by omega));have d0:=(HB1.o.cell off).trans H0.o;have d1:=(HB1.o.cell (off+1)).trans H1.o;have lb:=HB1.o.lt
 have hsz:(W.setCell ⟨p,off+2,Y1⟩ (Yg Yh (c+1))).heap.size=W.heap.size:=by simp
 have f0:=HB1.o.free off;have f1:=HB1.o.free (off+1);go_wp2_with fail;refine HSP.o.mono ?_;rintro x W9 ⟨rfl,hr⟩;have HR9:=hd hr;go_wp2_with fail
 go_end0
 exact⟨rfl,HR9.o⟩
structure wW(w w':Y4)(p off:Nat)(cs:Array Y3)(T:Y5)(L:List (Y3×Y3))(F:List Nat)(c:Int)(d:Nat)(ve vk:Y3)(F':List Nat):Prop where
 gP:ax (p::F) w w'
 blk:ae w' p (((cs.setIfInBounds off ve).setIfInBounds (off+1) vk).setIfInBounds (off+2) (Yg Yh c)) T
 root:Root w' d L ve vk F'
 cnt:∀x,F'.count x<=F.count x\/(w.heap.size<=x/\F'.count x<=1)
theorem DW{cs:Array Y3}{off:Nat}{a b c a' b':Y3}:((((cs.setIfInBounds off a).setIfInBounds (off+1) b).setIfInBounds (off+2) c).setIfInBounds off a').setIfInBounds (off+1) b'=((cs.setIfInBounds off a').setIfInBounds (off+1) b').setIfInBounds (off+2) c:=by
 apply Array.ext_getElem?;intro i;simp only[Array.getElem?_setIfInBounds,Array.size_setIfInBounds]
 grind
theorem ES(z:Int)(ra:Option abR)(rn rc:Nat)(d:Nat)(L:List (Y3×Y3))(p off:Nat)(cs:Array Y3)(T:Y5)(ve vk:Y3)(F:List Nat)(c:Int)(w:Y4)(hc:0<=c/\c<=1000000)(hB:ae w p cs T)(h0:cs[off]? =Y2 ve)(h1:cs[off+1]? =Y2 vk)(h2:cs[off+2]? =Y2 (Yg Yh c))(hN:Root w d L ve vk F)(hL:Less L z)(hO:Ord L)(hnd:(p::F).Nodup):
   aaT Zc 83 #[Ym (Y2 ⟨p,off,Y1⟩),Yg Yh z,Yp ra rn rc] w fun x w'=>x=Yl (Yn #[])/\∃d' ve' vk' F',wW w w' p off cs T (L++[(Yg Yh z,Yp ra rn rc)]) F (c+1) d' ve' vk' F':=by
 refine C8 z ra rn rc p off c w (fun W cs'=>∃ve' vk' F',cs'=(cs.setIfInBounds off ve').setIfInBounds (off+1) vk'/\di w W d (if d=0 then 0 else 1) 7 p off cs T (L++[(Yg Yh z,Yp ra rn rc)]) ve vk F ve' vk' F') T _ hB.lt hc ((JE d z ra rn rc _ 6 L p off cs T ve vk F w (by omega) hB h0 h1 hN hL hO hnd).mono ?_) ?_
 · rintro x W ⟨rfl,ve',vk',F',po⟩;exact⟨rfl,_,ve',vk',F',rfl,po⟩
 rintro W cs' ⟨ve',vk',F',rfl,po⟩;obtain⟨m,hm1,hm2,nd2,ao,cp,rfl⟩:=po.nd.exact
 obtain⟨bo,bn,bc,rfl⟩:∃bo bn bc,vk'=Yp bo bn bc:=by
  cases d with
  |zero=>obtain⟨_,_,⟨ka,kc,h⟩,_⟩:=nd2;exact⟨_,_,_,h⟩
  |succ d=>obtain⟨es,ks,_,_,_,h,_⟩:=nd2;obtain⟨a,b,h⟩:=ai h;exact⟨_,_,_,h⟩
 have hoff:off<cs.size:=(geA.1 h0).1;have JK:off+1<cs.size:=(geA.1 h1).1;have hpW:=po.blk.lt;have hsz:=po.gP.size
 have hpF:p∉F':=fun h=>by
  have a1:=List.count_pos_iff.2 h;have a2:=bu hnd p;have a3:=po.cnt p;have a4:=hB.lt;simp only[aD,if_true]at a2;omega
 refine⟨po.blk,?_,m,ao,cp,bo,bn,bc,hm2,?_,?_,?_,?_⟩
 · rw[afs (by omega),afs (by omega)];exact h2
 · rw[afs (by omega),afG,if_pos hoff]
 · rw[afG,if_pos (by simpa using JK)]
 · intro hm6;refine⟨d,Yp ao m cp,Yp bo bn bc,F',po.gP.set _ _ (.inl (by simp)),po.blk.set _ _,?_,po.cnt⟩
   refine(nd2.wide hm1 hm6).keep fun k hk=>Zb _ _ _ _ (fun e=>hpF (by rw[<-(show k=p from e)];exact hk))
 intro hm6
 obtain rfl:m=7:=by omega
 generalize hW2:(((((W.setCell ⟨p,off+2,Y1⟩ (Yg Yh (c+1))).setCell ⟨p,off,Y1⟩ (Yp Y1 0 0)).setCell ⟨p,off+1,Y1⟩ (Yp (Y2 ⟨W.heap.size+1,0,Y1⟩) 1 1)).alloc (Yk #[Yp ao 7 cp,Yp bo bn bc] 124)).alloc (Yk #[Ym (Y2 ⟨W.heap.size,0,Y1⟩)] 266))=W2
 have hs2:W2.heap.size=W.heap.size+2:=by rw[<-hW2];simp
 have T2:ax [p] W W2:=by
  rw[<-hW2];exact(((((ax.refl [p] W).set ⟨p,off+2,Y1⟩ _ (.inl (by simp))).set ⟨p,off,Y1⟩ _ (.inl (by simp))).set ⟨p,off+1,Y1⟩ _ (.inl (by simp))).alloc _).alloc _
 have B2:ae W2 p ((((((cs.setIfInBounds off (Yp ao 7 cp)).setIfInBounds (off+1) (Yp bo bn bc)).setIfInBounds (off+2) (Yg Yh (c+1))).setIfInBounds off (Yp Y1 0 0)).setIfInBounds (off+1) (Yp (Y2 ⟨W.heap.size+1,0,Y1⟩) 1 1))) T:=by
  rw[<-hW2];exact((((po.blk.set _ _).set _ _).set _ _).alloc _).alloc _
 rw[DW]at B2
 have kB:ae W2 W.heap.size #[Yp ao 7 cp,Yp bo bn bc] 124:=by
  rw[<-hW2];have:=(ae.new (((W.setCell ⟨p,off+2,Y1⟩ (Yg Yh (c+1))).setCell ⟨p,off,Y1⟩ (Yp Y1 0 0)).setCell ⟨p,off+1,Y1⟩ (Yp (Y2 ⟨W.heap.size+1,0,Y1⟩) 1 1)) #[Yp ao 7 cp,Yp bo bn bc] 124).alloc (Yk #[Ym (Y2 ⟨W.heap.size,0,Y1⟩)] 266);simpa using this
 have gB:ae W2 (W.heap.size+1) #[Ym (Y2 ⟨W.heap.size,0,Y1⟩)] 266:=by
  rw[<-hW2];have:=ae.new ((((W.setCell ⟨p,off+2,Y1⟩ (Yg Yh (c+1))).setCell ⟨p,off,Y1⟩ (Yp Y1 0 0)).setCell ⟨p,off+1,Y1⟩ (Yp (Y2 ⟨W.heap.size+1,0,Y1⟩) 1 1)).alloc (Yk #[Yp ao 7 cp,Yp bo bn bc] 124)) #[Ym (Y2 ⟨W.heap.size,0,Y1⟩)] 266;simpa using this
 have nd3:Nd Tr W2 d 7 7 (L++[(Yg Yh z,Yp ra rn rc)]) (Yp ao 7 cp) (Yp bo bn bc) F':=nd2.touch T2 fun k hk=>by simp;rintro rfl;exact hpF hk
 have UU:∀g∈F',g<W.heap.size:=nd2.lt
 have VJ:∀x,F'.count x<=1:=fun x=>by
  have a1:=po.cnt x;have a2:=bu hnd x;simp only[aD]at a2;omega
 refine(xK d p off (((cs.setIfInBounds off (Yp Y1 0 0)).setIfInBounds (off+1) (Yp (Y2 ⟨W.heap.size+1,0,Y1⟩) 1 1)).setIfInBounds (off+2) (Yg Yh (c+1))) T [] [] ⟨W.heap.size,L++[(Yg Yh z,Yp ra rn rc)],Yp ao 7 cp,Yp bo bn bc,F'⟩ (Yp Y1 0 0) (Yp (Y2 ⟨W.heap.size+1,0,Y1⟩) 1 1) W2 (by simp) rfl B2 ?_ ?_ (World.ownsRow_nil _ _ _ _) ?_ kB nd3 ?_ ?_).mono ?_
 · rw[afs (by omega),afs (by omega),afG,if_pos hoff]
 · rw[afs (by omega),afG,if_pos (by simpa using JK)]
 · exact⟨rfl,.inr ⟨W.heap.size+1,1,_,rfl,aeR _,gB,nlr _,by simp[aaV],rfl,rfl⟩⟩
 · intro e he;rcases List.mem_append.1 he with he|he
   · exact hL.kT e he
   simp at he;subst he;exact⟨_,_,_,_,rfl⟩
 · refine fJ fun x=> ?_
   show(p::([]++[W.heap.size+1]++(W.heap.size::F'))).count x<=1;have a1:=cnt_lt (x:=x) UU;have a2:=VJ x
   have a3:p=x->F'.count x=0:=fun e=>by subst e;exact List.count_eq_zero.2 hpF
   simp only[aD,aV,aeL];by_cases b1:p=x<;>by_cases b2:W.heap.size+1=x<;>by_cases b3:W.heap.size=x<;>simp[b1,b2,b3]<;>first|omega|(have:=a3 b1;omega)
 rintro x W3 ⟨rfl,ve3,vk3,klo,khi,mid,co⟩;refine⟨rfl,d+1,ve3,vk3,own ve3++own vk3++[klo,khi].flatMap av,?_,?_,?_,?_⟩
 · refine(po.gP.trans T2 (fun x hx=> .inl (by simp at hx;simp[hx]))).trans co.gP fun x hx=> ?_
   have hx2:x∈p::([]++[W.heap.size+1]++(W.heap.size::F')):=hx;simp at hx2;rcases hx2 with rfl|rfl|rfl|h
   · simp
   · right;omega
   · right;omega
   rcases po.cnt x with h2|h2
   · have:=List.count_pos_iff.2 h
     left;simp[List.count_pos_iff.1 (show 0<F.count x by omega)]
   exact .inr h2.1
 · have:=co.blk;rw[DW]at this;exact this
 · refine⟨[mid],[klo,khi],⟨by simp,by simp⟩,rfl,co.bz,co.kids,?_,rfl,?_⟩
   · have:=co.list;simp only at this;rw[this];rfl
   intro q hq;simp at hq;rcases hq with rfl|rfl
   · exact co.low
   exact co.high
 intro x;have a1:=co.cnt x;have a2:=po.cnt x;have a3:=VJ x;have a4:=cnt_lt (x:=x) UU;have a5:(own (Yp Y1 0 0)).count x=0:=rfl;have a6:(own (Yp (Y2 ⟨W.heap.size+1,0,Y1⟩) 1 1)).count x=[W.heap.size+1].count x:=rfl;rw[a5,a6]at a1;simp only[aD,aV,GG,aeL]at a1⊢;have i1:=jl (W.heap.size+1) x;have i2:=jl W.heap.size x;omega
end Bt
end Go.Proofs.YthhhfcdakfbpkaaGreatDoor
