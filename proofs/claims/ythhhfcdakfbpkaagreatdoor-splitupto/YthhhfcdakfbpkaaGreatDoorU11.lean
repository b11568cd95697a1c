/- Parts of the proof -/
import Derived.Test.YthhhfcdakfbpkaaGreatDoorU1
import Derived.Test.YthhhfcdakfbpkaaGreatDoorU10
import Derived.Test.YthhhfcdakfbpkaaGreatDoorU5
import Derived.Deep.RegionHeld3
import Derived.Test.YthhhfcdakfbpkaaGreatDoorRows
import Derived.Conc.MuLib
import Derived.KernelRfl
import Derived.Conc.MuLone
import Derived.Deep.CutRange
import Derived.Stop.RegionWithIn
import Derived.Sort.CutIn
open Go.Value renaming int -> Yg, string -> Yi, agg -> Yj, pointer -> Ym, tuple -> Yn, iface -> Yo, slice -> Yp, nilIface -> Yq
open Go.IntKind renaming i64 -> Yh
open Go.Obj renaming cells -> Yk
open Go.Ending renaming returned -> Yl
open List renaming cons_append -> YI, length_cons -> Yw, flatMap_cons -> YU, flatMap_nil -> aaJ, nil_append -> YK, map_cons -> YZ, append_nil -> aaK, mem_append -> YW, mem_map -> YX, mem_filterMap -> aha, length -> aeA, length_map -> aeB, length_take -> adO, length_nil -> aeC, length_append -> aaN, mem_cons -> aeQ, mem_append_left -> ahf, mem_append_right -> aec, sum_cons -> ahp, sum_nil -> ahq, map_append -> aev, mem_of_mem_take -> aes, getElem_mem -> acw
open Option renaming bind_some -> agZ, none -> Y1, some -> Y2
open Nat renaming zero_add -> Ze, add_zero -> acJ, le_trans -> YB, ne_of_lt -> ahl, ne_of_gt -> ahm, zero_le -> aeR, lt_trans -> ahr
open Go.RowKit.Below renaming heap_setCell -> Zb, refl -> Zh
open Go.Instr renaming typeAssert -> ZV
open Go.Proofs.Tryz renaming prog -> Zc, func17 -> ahb, ntmps17 -> ahc, results17 -> ahd, results9 -> ahe, func38 -> ahi
open Bool renaming and_eq_true -> YD
open Array renaming replicate -> agz
open Go.World renaming size_alloc -> ZC, cell?_of_block -> Y8, drew -> abA, alloc -> afZ, ownsRow -> aaO, ownsRow_nil -> adi
open Go.Proofs.YthhhfcdakfbpkaaGreatDoor.Lx renaming Bs -> Y6
open Go.Proofs.YthhhfcdakfbpkaaGreatDoor.Mg renaming ay -> abS, jb -> ahg, knows -> acm, typ -> acD, pM -> ahs, vals -> aht, vC -> ahu, V -> abZ
open Go.Proofs.YthhhfcdakfbpkaaGreatDoor.Tb renaming bf -> ahh, gL -> ahn, gU -> aho
open Prod renaming fst -> agx, snd -> agU
open Go.Act renaming put -> afl
open Go.AllReadyH renaming cons -> ahj, nil -> ahk
open Go.Proofs.YthhhfcdakfbpkaaGreatDoor.Ts renaming au -> afw
open Go renaming Value -> Y3, World -> Y4, Calls -> aaT, wpAnyH_ready -> ahv, results -> aaW
open Go.RowKit renaming Below -> aaS
namespace Go.Proofs.YthhhfcdakfbpkaaGreatDoor
set_option linter.unusedSimpArgs false
set_option linter.unusedVariables false
set_option maxRecDepth 100000
set_option maxHeartbeats 16000000
open Go.RowKit
variable {a b c ce ge n p sz:Nat}{w w':Y4}{v:Y3}{l nx:Int}{F R:List Nat}
section
namespace Px
open Lx (Bs Tok)
def nL:List Nd->Int
 |[]=>0
 |x::_=>x.kind
def rA(x:Nd):Option E:=
 if x.kind=14 then if kg x 0=true then Y2 .null else Y1
 else if x.kind=15 then if x.text=[]/\x.kids=0/\(x.num=0\/x.num=1)then Y2 (.bool (decide (x.num=1)))else Y1
 else if x.kind=16 then if x.text=[]/\x.kids=0 then Y2 (.num x.num)else Y1
 else if x.kind=17 then if Lx.dh x.text=true/\x.num=0/\x.kids=0 then Y2 (.str x.text)else Y1
 else if x.kind=18 then if isName x.text=true/\x.num=0/\x.kids=0 then Y2 (.nm x.text)else Y1
 else Y1
def rE:Nat->List Nd->Option (E×List Nd)
 |0,_=>Y1
 |_+1,[]=>Y1
 |f+1,x::r=>
  if x.kind=19\/x.kind=20\/x.kind=21\/x.kind=22 then
    if kg x 1=true/\¬(x.kind=19/\nL r=16)then(rE f r).map fun y=>(.un x.kind.toNat y.1,y.2)else Y1
  else if 23<=x.kind/\x.kind<=36 then
    if kg x 2=true then(rE f r).bind fun y=>(rE f y.2).map fun z=>(.bin x.kind.toNat y.1 z.1,z.2)else Y1
  else(rA x).map fun e=>(e,r)
def rN{α:Type}(x:List Nd->Option (α×List Nd)):Nat->List Nd->Option (List α×List Nd)
 |0,l=>Y2 ([],l)
 |k+1,l=>(x l).bind fun y=>(rN x k y.2).map fun z=>(y.1::z.1,z.2)
def rW{α:Type}(is:Int->Bool)(x:List Nd->Option (α×List Nd)):Nat->List Nd->Option (List α×Nat×List Nd)
 |0,l=>Y2 ([],0,l)
 |k+1,l=>if is (nL l)=true then(x l).bind fun y=>(rW is x k y.2).map fun z=>(y.1::z.1,z.2)else Y2 ([],k+1,l)
def TH:List Nd->Option ((Bs×Nat)×List Nd)
 |[]=>Y1
 |x::r=>if x.kind=2/\isName x.text=true/\x.kids=0/\1<=(if 4<x.num then x.num-4 else x.num)/\(if 4<x.num then x.num-4 else x.num)<=3 then Y2 ((x.text,x.num.toNat),r)else Y1
def Rn:List Nd->Option (List E×List Nd)
 |[]=>Y1
 |x::r=>if x.kind=5/\x.text=[]/\x.num=0/\1<=x.kids then rN (rE 40) x.kids.toNat r else Y1
def Qo:List Nd->Option ((Bs×E)×List Nd)
 |[]=>Y1
 |x::r=>if x.kind=8/\isName x.text=true/\x.num=0/\x.kids=1 then(rE 40 r).map fun y=>((x.text,y.1),y.2)else Y1
def EF:List Nd->Option (Option E×List Nd)
 |[]=>Y1
 |x::r=>if x.kind=10 then if kg x 0=true then Y2 (Y1,r)else Y1 else(rE 40 (x::r)).map fun y=>(Y2 y.1,y.2)
def BU:List Nd->Option ((E×Bool)×List Nd)
 |[]=>Y1
 |x::r=>if x.text=[]/\x.kids=1/\(x.num=0\/x.num=1)then(rE 40 r).map fun y=>((y.1,decide (x.num=1)),y.2)else Y1
def uV(left:Nat)(l:List Nd):Option (Option E×Nat×List Nd):=
 if left≠0/\nL l=11 then
   match l with
   |[]=>Y1
   |x::r=>if kg x 1=true then(rE 40 r).map fun y=>(Y2 y.1,left-1,y.2)else Y1
 else Y2 (Y1,left,l)
def Q5(left:Nat)(l:List Nd):Option (Option Nat×Nat×List Nd):=
 if left≠0/\nL l=13 then
   match l with
   |[]=>Y1
   |x::r=>if x.text=[]/\x.kids=0/\0<=x.num/\x.num<=1000000000 then Y2 (Y2 x.num.toNat,left-1,r)else Y1
 else Y2 (Y1,left,l)
def nR(k:Int):Bool:=decide (k=11\/k=12\/k=13)
def TZ:List Nd->Option (St×List Nd)
 |[]=>Y1
 |x::r=>
  if x.num=0/\isName x.text=true then
    if x.kind=1 then if 1<=x.kids/\x.kids<=6 then(rN TH x.kids.toNat r).map fun y=>(.create x.text y.1,y.2)else Y1
    else if x.kind=3 then if x.kids=0 then Y2 (.drop x.text,r)else Y1
    else if x.kind=4 then if 1<=x.kids then(rN Rn x.kids.toNat r).map fun y=>(.insert x.text y.1,y.2)else Y1
    else if x.kind=6 then if x.kids<0 then Y1 else(uV x.kids.toNat r).bind fun y=>if y.2.1=0 then Y2 (.delete x.text y.1,y.2.2)else Y1
    else if x.kind=7 then if x.kids<0 then Y1 else(rW (fun k=>decide (k=8)) Qo x.kids.toNat r).bind fun y=>(uV y.2.1 y.2.2).bind fun z=>if z.2.1=0/\y.1≠[]then Y2 (.update x.text y.1 z.1,z.2.2)else Y1
    else if x.kind=9 then if x.kids<0 then Y1 else(rW (fun k=> !nR k) EF x.kids.toNat r).bind fun y=>(uV y.2.1 y.2.2).bind fun z=>(rW (fun k=>decide (k=12)) BU z.2.1 z.2.2).bind fun o=>
     (Q5 o.2.1 o.2.2).bind fun u=>if u.2.1=0/\y.1≠[]then Y2 (.select y.1 x.text z.1 o.1 u.1,u.2.2)else Y1
    else Y1
  else Y1
def rS(l:List Nd):Option St:=(TZ l).bind fun y=>if y.2=[]then Y2 y.1 else Y1
theorem dS(k:Int)(n:Int):kg ⟨k,[],0,n⟩ n=true:=by simp[kg]
theorem pG(e:E):∀(f:Nat) (r:List Nd),e.ok 2000->e.good->e.depth<=f->rE f (e.nodes++r)=Y2 (e,r):=by
 induction e with
 |null=>
  intro f r _ _ hd
  match f,hd with
  |f+1,_=>simp[E.nodes,leaf,rE,rA,kg]
 |bool b=>
  intro f r _ _ hd
  match f,hd with
  |f+1,_=>cases b<;>simp[E.nodes,leaf,rE,rA]
 |num z=>
  intro f r _ _ hd
  match f,hd with
  |f+1,_=>simp[E.nodes,leaf,rE,rA]
 |str s=>
  intro f r _ hg hd
  match f,hd with
  |f+1,_=>
   have:Lx.dh s=true:=hg;simp[E.nodes,leaf,rE,rA,this]
 |nm s=>
  intro f r _ hg hd
  match f,hd with
  |f+1,_=>
   have:isName s=true:=hg;simp[E.nodes,leaf,rE,rA,this]
 |un k e ih=>
  intro f r ho hg hd
  match f,hd with
  |f+1,hd=>
   obtain⟨h1,h2,h3,h4⟩:=ho;have hi:=ih f r h4 hg (by simp only[E.depth]at hd;omega);simp only[E.nodes,aX,YI];unfold rE
   have hk:(k:Int)=19\/(k:Int)=20\/(k:Int)=21\/(k:Int)=22:=by omega
   have hp:¬((k:Int)=19/\nL (e.nodes++r)=16):=by
    rintro⟨e1,e2⟩;have hn:=h3 (by omega)
    cases e with
    |num z=>simp[E.isNum]at hn
    |un k' e'=>simp only[E.nodes,aX,YI,nL]at e2;have:=h4.1;have:=h4.2.1;omega
    |bin k' a b=>simp only[E.nodes,bP,YI,nL]at e2;have:=h4.1;have:=h4.2.1;omega
    |_=>simp[E.nodes,leaf,nL]at e2
   simp only[if_pos hk];rw[if_pos (by(repeat' apply And.intro)<;>first|trivial|rfl|assumption|exact dS _ _|omega|(split<;>omega)|(split<;>simp)),hi];simp
 |bin k a b iha ihb=>
  intro f r ho hg hd
  match f,hd with
  |f+1,hd=>
   obtain⟨h1,h2,h3,h4⟩:=ho;simp only[E.depth]at hd;have hi:=iha f (b.nodes++r) h3 hg.1 (by omega);have hj:=ihb f r h4 hg.2 (by omega);simp only[E.nodes,bP,YI,laa];unfold rE
   have hk:¬((k:Int)=19\/(k:Int)=20\/(k:Int)=21\/(k:Int)=22):=by omega
   simp only[if_neg hk];rw[if_pos (by omega),if_pos (dS _ _),hi];simp only[agZ];rw[hj];simp
theorem rX{α:Type}{x:List Nd->Option (α×List Nd)}{nd:α->List Nd}:∀(l:List α) (r:List Nd),(∀a∈l,∀r,x (nd a++r)=Y2 (a,r))->rN x l.length (l.flatMap nd++r)=Y2 (l,r)
 |[],r,_=>rfl
 |a::l,r,h=>by
  simp only[Yw,YU,laa,rN];rw[h a (by simp)];simp only[agZ];rw[rX l r (fun b hb=>h b (by simp[hb]))]
  rfl
theorem tO{α:Type}{is:Int->Bool}{x:List Nd->Option (α×List Nd)}{nd:α->List Nd}:∀(l:List α) (k:Nat) (r:List Nd),(∀a∈l,∀r,is (nL (nd a++r))=true/\x (nd a++r)=Y2 (a,r))->(k≠0->is (nL r)=false)->rW is x (l.length+k) (l.flatMap nd++r)=Y2 (l,k,r)
 |[],k,r,_,hr=>by
  match k,hr with
  |0,_=>rfl
  |k+1,hr=>
   rw[show([]:List α).length+(k+1)=k+1 from by simp];simp only[aaJ,YK,rW];rw[if_neg (by rw[hr (by omega)];decide)]
 |a::l,k,r,h,hr=>by
  obtain⟨h1,h2⟩:=h a (by simp) (l.flatMap nd++r);rw[show(a::l).length+k=(l.length+k)+1 from by simp;omega];simp only[YU,laa,rW];rw[if_pos h1,h2];simp only[agZ];rw[tO l k r (fun b hb=>h b (by simp[hb])) hr]
  rfl
theorem Bf:∀l:List (Bs×Nat),l.flatMap (fun x=>[qW x])=l.map qW
 |[]=>rfl
 |a::l=>by simp only[YU,YZ,List.singleton_append];rw[Bf l]
theorem FZ{l:List E}{e:E}(h:e∈l):e.depth<=deepest l:=by
 induction l with
 |nil=>cases h
 |cons a l ih=>
  simp only[deepest];rcases List.mem_cons.1 h with rfl|h
  · omega
  have:=ih h;omega
theorem E.head(e:E)(n:Nat)(ho:e.ok n)(r:List Nd):14<=nL (e.nodes++r)/\nL (e.nodes++r)<=36:=by
 cases e with
 |un k e=>simp only[E.nodes,aX,YI,nL];have:=ho.1;have:=ho.2.1;omega
 |bin k a b=>simp only[E.nodes,bP,YI,nL];have:=ho.1;have:=ho.2.1;omega
 |_=>simp[E.nodes,leaf,nL]
theorem mV(w:Option E)(k:Nat)(r:List Nd)(h:∀e∈w.toList,e.ok 2000/\e.good/\e.depth<=40)(hr:k≠0->nL r≠11):uV (one? w+k) (dU w++r)=Y2 (w,k,r):=by
 cases w with
 |none=>
  simp only[one?,dU,Ze,YK,uV];rw[if_neg (by rintro⟨h1,h2⟩;exact hr h1 h2)]
 |some e=>
  obtain⟨h1,h2,h3⟩:=h e (by simp);simp only[one?,dU,aX,YI,uV,nL];rw[if_pos (by(repeat' apply And.intro)<;>first|trivial|rfl|assumption|exact dS _ _|omega|(split<;>omega)|(split<;>simp)),if_pos (dS _ _),pG e 40 r h1 h2 h3];simp
theorem GU(l:Option Nat)(h:∀n,l=Y2 n->n<=1000000000):Q5 (one? l) (mX l)=Y2 (l,0,[]):=by
 cases l with
 |none=>simp[one?,mX,Q5]
 |some n=>
  have:=h n rfl;simp only[one?,mX,Q5,nL];rw[if_pos (by(repeat' apply And.intro)<;>first|trivial|rfl|assumption|exact dS _ _|omega|(split<;>omega)|(split<;>simp)),if_pos (by(repeat' apply And.intro)<;>first|trivial|rfl|assumption|exact dS _ _|omega|(split<;>omega)|(split<;>simp))];simp
theorem xx(s:St)(hf:s.Fit)(hg:∀e∈s.exprs,e.good)(hd:deepest s.exprs<=40):rS s.nodes=Y2 s:=by
 have hall:∀e∈s.exprs,e.ok 2000/\e.good/\e.depth<=40:=fun e he=>⟨hf.exprs e he,hg e he,by have:=FZ he;omega⟩
 have hp:=hf.parts;unfold rS
 cases s with
 |create t c=>
  obtain⟨h1,h2,h3,h4⟩:=hp
  have hn:rN TH c.length (c.flatMap (fun x=>[qW x])++[])=Y2 (c,[]):=rX c [] (fun a ha r=>by
   obtain⟨q1,q2,q3,q4⟩:=h4 a ha;simp only[qW,YI,YK,TH];rw[if_pos (by(repeat' apply And.intro)<;>first|trivial|rfl|assumption|exact dS _ _|omega|(split<;>omega)|(split<;>simp))]
   simp)
  have hm:c.flatMap (fun x=>[qW x])++[]=c.map qW:=by rw[aaK];exact Bf c
  rw[hm]at hn;simp only[St.nodes,TZ];rw[if_pos (by(repeat' apply And.intro)<;>first|trivial|rfl|assumption|exact dS _ _|omega|(split<;>omega)|(split<;>simp))];simp only[if_true];rw[if_pos (by(repeat' apply And.intro)<;>first|trivial|rfl|assumption|exact dS _ _|omega|(split<;>omega)|(split<;>simp))];simp[hn]
 |drop t=>
  have h1:isName t=true:=hp;simp[St.nodes,TZ,h1]
 |insert t rs=>
  obtain⟨h1,h2,h3⟩:=hp
  have hrow:∀a∈rs,∀r,Rn (Jc a++r)=Y2 (a,r):=by
   intro a ha r;have hne:=h3 a ha;have hl:1<=a.length:=List.length_pos_iff.2 hne;simp only[Jc,YI,Rn];rw[if_pos (by(repeat' apply And.intro)<;>first|trivial|rfl|assumption|exact dS _ _|omega|(split<;>omega)|(split<;>simp))];simp only[Int.toNat_natCast];refine rX a r (fun e he r=> ?_);obtain⟨q1,q2,q3⟩:=hall e (by simp only[St.exprs,List.mem_flatten];exact⟨a,ha,he⟩);exact pG e 40 r q1 q2 q3
  have hl:1<=rs.length:=List.length_pos_iff.2 h2;have hn:=rX (x:=Rn) (nd:=Jc) rs [] hrow;rw[aaK]at hn;simp only[St.nodes,TZ];rw[if_pos (by(repeat' apply And.intro)<;>first|trivial|rfl|assumption|exact dS _ _|omega|(split<;>omega)|(split<;>simp))];simp only[show¬((4:Int)=1) by decide,show¬((4:Int)=3) by decide,if_false,if_true];rw[if_pos (by omega)];simp[hn]
 |delete t w=>
  have h1:isName t=true:=hp;have hw:=mV w 0 [] (fun e he=>hall e (by simpa[St.exprs]using he)) (by simp);rw[acJ,aaK]at hw;simp only[St.nodes,TZ];rw[if_pos (by(repeat' apply And.intro)<;>first|trivial|rfl|assumption|exact dS _ _|omega|(split<;>omega)|(split<;>simp))];simp only[show¬((6:Int)=1) by decide,show¬((6:Int)=3) by decide,show¬((6:Int)=4) by decide,if_false,if_true];rw[if_neg (by omega)];simp[hw]
 |update t ss w=>
  obtain⟨h1,h2,h3⟩:=hp
  have hs:∀a∈ss,∀r,decide (nL (Ae a++r)=8)=true/\Qo (Ae a++r)=Y2 (a,r):=by
   intro a ha r;obtain⟨q1,q2,q3⟩:=hall a.2 (by simp only[St.exprs,YW,YX];exact .inl ⟨a,ha,rfl⟩);have h3':=h3 a ha;simp only[Ae,YI,nL,Qo];rw[if_pos (by(repeat' apply And.intro)<;>first|trivial|rfl|assumption|exact dS _ _|omega|(split<;>omega)|(split<;>simp)),pG a.2 40 r q1 q2 q3];simp
  have hw:=mV w 0 [] (fun e he=>hall e (by simp only[St.exprs,YW];exact .inr he)) (by simp);rw[acJ,aaK]at hw
  have hr:=tO (is:=fun k=>decide (k=8)) (x:=Qo) (nd:=Ae) ss (one? w) (dU w) hs (fun _=>by
   cases w with
   |none=>simp[dU,nL]
   |some e=>simp[dU,aX,nL])
  simp only[St.nodes,TZ];rw[if_pos (by(repeat' apply And.intro)<;>first|trivial|rfl|assumption|exact dS _ _|omega|(split<;>omega)|(split<;>simp))];simp only[show¬((7:Int)=1) by decide,show¬((7:Int)=3) by decide,show¬((7:Int)=4) by decide,show¬((7:Int)=6) by decide,if_false,if_true];rw[if_neg (by omega)];rw[show((ss.length:Int)+(one? w:Int)).toNat=ss.length+one? w from by omega,hr];simp[hw,h2]
 |select is t w os lim=>
  obtain⟨h1,h2,h3⟩:=hp
  have hi:∀a∈is,∀r,(!nR (nL (jK a++r)))=true/\EF (jK a++r)=Y2 (a,r):=by
   intro a ha r
   cases a with
   |none=>simp[jK,nL,nR,EF,kg]
   |some e=>
    obtain⟨q1,q2,q3⟩:=hall e (by simp only[St.exprs,YW,aha,id];exact .inl (.inl ⟨Y2 e,ha,rfl⟩));have hh:=e.head 2000 q1 r;have hx:=pG e 40 r q1 q2 q3;simp only[jK];refine⟨by simp[nR];omega,?_⟩
    match hn:e.nodes++r,hh,hx with
    |[],hh,hx=>simp[nL]at hh
    |x::r',hh,hx=>
     simp only[nL]at hh;simp only[EF];rw[if_neg (by omega),hx]
     rfl
  have ho:∀a∈os,∀r,decide (nL (dN a++r)=12)=true/\BU (dN a++r)=Y2 (a,r):=by
   intro a ha r;obtain⟨q1,q2,q3⟩:=hall a.1 (by simp only[St.exprs,YW,YX];exact .inr ⟨a,ha,rfl⟩);simp only[dN,YI,nL,BU];refine⟨by simp,?_⟩;rw[if_pos (by(repeat' apply And.intro)<;>first|trivial|rfl|assumption|exact dS _ _|omega|(split<;>omega)|(split<;>simp)),pG a.1 40 r q1 q2 q3];obtain⟨e,b⟩:=a
   cases b<;>simp
  have hl:=GU lim h3
  have hlim:nL (mX lim)=0\/nL (mX lim)=13:=by cases lim<;>simp[mX,nL]
  have hor:=tO (is:=fun k=>decide (k=12)) (x:=BU) (nd:=dN) os (one? lim) (mX lim) ho (fun _=>by rcases hlim with h|h<;>rw[h]<;>decide)
  have hpo:∀l,nL (os.flatMap dN++mX lim)=l->l=0\/l=12\/l=13:=by
   intro l e
   cases os with
   |nil=>simp only[aaJ,YK]at e;rw[<-e];rcases hlim with h|h<;>omega
   |cons a r=>simp only[YU,dN,YI,nL]at e;omega
  have hw:=mV w (os.length+one? lim) (os.flatMap dN++mX lim) (fun e he=>hall e (by simp only[St.exprs,YW];exact .inl (.inr he))) (fun _ e=>by rcases hpo _ e with h|h|h<;>omega)
  have hit:=tO (is:=fun k=> !nR k) (x:=EF) (nd:=jK) is (one? w+(os.length+one? lim)) (dU w++(os.flatMap dN++mX lim)) hi (fun hne=>by
   cases w with
   |some e=>simp[dU,aX,nL,nR]
   |none=>
    simp only[dU,YK]
    cases os with
    |cons a r=>simp[dN,nL,nR]
    |nil=>
     cases lim with
     |some n=>simp[mX,nL,nR]
     |none=>simp[one?]at hne)
  simp only[St.nodes,TZ];rw[if_pos (by(repeat' apply And.intro)<;>first|trivial|rfl|assumption|exact dS _ _|omega|(split<;>omega)|(split<;>simp))];simp only[show¬((9:Int)=1) by decide,show¬((9:Int)=3) by decide,show¬((9:Int)=4) by decide,show¬((9:Int)=6) by decide,show¬((9:Int)=7) by decide,if_false,if_true];rw[if_neg (by omega)];rw[show((is.length:Int)+(one? w:Int)+(os.length:Int)+(one? lim:Int)).toNat=is.length+(one? w+(os.length+one? lim))from by omega];rw[show is.flatMap jK++dU w++os.flatMap dN++mX lim=is.flatMap jK++(dU w++(os.flatMap dN++mX lim))from by simp[laa],hit];simp only[agZ];rw[hw];simp only[agZ];rw[hor];simp only[agZ];rw[hl];simp[h2]
end Px
end
namespace Lx
theorem vY:∀l:Bs,(∀b∈l,0<b.toNat/\b.toNat<128)->dh l=true
 |[],_=>rfl
 |b::r,h=>by
  have hb:=h b (by simp)
  have hc:aR (b::r)=1:=by unfold aR;simp only;rw[if_pos hb.2]
  rw[pz,hc,if_neg (by omega)];exact vY r (fun x hx=>h x (by simp[hx]))
structure uO(t:Tok):Prop where
 str:t.kind=17->dh t.text=true
 name:t.kind=18->dh t.text=true/\t.text≠[]
theorem Ut(b:UInt8)(h:dx b=true):0<(zL b).toNat/\(zL b).toNat<128:=by
 simp only[dx,aP,isLet,Bool.or_eq_true,decide_eq_true_eq]at h;unfold zL
 split
 · rename_i h1
   have:(b+32).toNat=b.toNat+32:=by
    rw[UInt8.toNat_add];show(b.toNat+32)%256=_;omega
   omega
 omega
theorem Po{l:Bs}{k:Nat}{t:Bs}(h:bZ l=.ok (k,t,n))(p:Nat):uO ⟨k,t,p⟩:=by
 unfold bZ at h
 split at h
 · simp at h
 rename_i b r
 split at h
 · rename_i hlet
   split at h
   · simp only[Except.ok.injEq,Prod.mk.injEq]at h;obtain⟨rfl,rfl,rfl⟩:=h;exact⟨fun e=>by simp at e,fun e=>by simp at e⟩
   simp only[Except.ok.injEq,Prod.mk.injEq]at h;obtain⟨rfl,rfl,rfl⟩:=h;refine⟨fun e=>by simp at e,fun _=>⟨?_,?_⟩⟩
   · apply vY;intro x hx;obtain⟨y,hy,rfl⟩:=List.mem_map.1 hx;exact Ut y (Co dx (b::r) y hy)
   have hw:dx b=true:=by unfold dx;rw[hlet];simp
   have:=uf (r:=r) hw;intro e;have e2:=congrArg aeA e;simp only[aeB,adO,aeC,Yw]at e2;omega
 split at h
 · split at h
   · simp at h
   split at h
   · simp at h
   simp only[Except.ok.injEq,Prod.mk.injEq]at h;obtain⟨rfl,rfl,rfl⟩:=h;exact⟨fun e=>by simp at e,fun e=>by simp at e⟩
 split at h
 · split at h
   · simp at h
   split at h
   · simp at h
   rename_i hv;simp only[Except.ok.injEq,Prod.mk.injEq]at h;obtain⟨rfl,rfl,rfl⟩:=h;rename_i t' n' _
   have hv1:dh t'=true:=by
    cases hh:dh t' with
    |true=>rfl
    |false=>exact absurd (.inl hh) hv
   refine⟨fun _=>hv1,fun e=>⟨hv1,fun e2=> ?_⟩⟩;by_cases h34:b.toNat=34
   · exact hv (.inr ⟨h34,e2⟩)
   simp only at e;rw[if_neg h34]at e;simp at e
 split at h
 · simp only[Except.ok.injEq,Prod.mk.injEq]at h;obtain⟨rfl,rfl,rfl⟩:=h;exact⟨fun e=>by simp at e,fun e=>by simp at e⟩
 split at h
 · simp only[Except.ok.injEq,Prod.mk.injEq]at h;obtain⟨rfl,rfl,rfl⟩:=h;exact⟨fun e=>by simp at e,fun e=>by simp at e⟩
 simp at h
theorem NK:∀(m:Nat) (l:Bs) (pos:Nat) (ts:List Tok),l.length<=m->bO 0 pos l=.ok ts->∀t∈ts,uO t:=by
 intro m
 induction m with
 |zero=>
  intro l pos ts hl h;obtain rfl:=List.length_eq_zero_iff.1 (Nat.le_zero.1 hl);simp only[bO,Except.ok.injEq]at h;subst h
  exact fun t ht=>by cases ht
 |succ m ih=>
  intro l pos ts hl h
  cases l with
  |nil=>
   simp only[bO,Except.ok.injEq]at h;subst h
   exact fun t ht=>by cases ht
  |cons b r=>
   rw[eX]at h
   split at h
   · simp at h
   rename_i k t n h1;have hn:=gT h1
   split at h
   · rename_i us h2;simp only[Except.ok.injEq]at h;subst h;intro x hx;rcases List.mem_cons.1 hx with rfl|hx
     · exact Po h1 pos
     refine ih _ _ _ ?_ h2 x hx;simp only[List.length_drop,Yw]at hl hn⊢;omega
   simp at h
theorem RJ{l:Bs}{ts:List Tok}(h:lex l=.ok ts):∀t∈ts,uO t:=by
 unfold lex at h
 split at h
 · simp at h
 exact NK _ _ _ _ (nlr _) h
end Lx
section
namespace Px
open Lx (Bs Tok uO)
def Ur(x:Nd):Prop:=(x.kind=17->Lx.dh x.text=true)/\(x.kind=18->isName x.text=true)
def qf(ts:List Tok):Prop:=∀t∈ts,uO t
def qb(l:List Nd):Prop:=∀x∈l,Ur x
theorem qf.tail{ts:List Tok}(h:qf ts):qf ts.tail:=fun t ht=>h t (List.mem_of_mem_tail ht)
theorem qb.aX{k:Int}{l:List Nd}(h:qb l)(hk:k≠18):qb (aX k l):=by
 intro x hx;rcases List.mem_cons.1 hx with rfl|hx
 · exact⟨fun _=>rfl,fun e=>absurd e hk⟩
 exact h x hx
theorem qb.bP{k:Int}{a b:List Nd}(ha:qb a)(hb:qb b)(hk:k≠18):qb (bP k a b):=by
 intro x hx;rcases List.mem_cons.1 hx with rfl|hx
 · exact⟨fun _=>rfl,fun e=>absurd e hk⟩
 rcases List.mem_append.1 hx with hx|hx
 · exact ha x hx
 exact hb x hx
theorem qb.num(z:Int):qb (leaf 16 [] z):=by
 intro x hx;simp[leaf]at hx;subst hx;exact⟨fun e=>by simp at e,fun e=>by simp at e⟩
theorem JQ(lv:Nat)(s:Bs):∀l:List (Nat×Bs×Nat),(∀o∈l,o.2.2≠18)->iU l lv s≠18
 |[],_=>by simp[iU]
 |o::r,h=>by
  unfold iU
  split
  · exact h o (by simp)
  exact JQ lv s r (fun x hx=>h x (by simp[hx]))
theorem J7(l:Nat)(ts:List Tok):((oper l ts:Nat):Int)≠18:=by
 have:oper l ts≠18:=by
  unfold oper
  split
  · simp
  split
  · exact JQ l _ cu (by decide)
  simp
 omega
theorem L8{ts q:List Tok}{b:List Nd}(h:atom sz ts=Y2 (.ok (b,q)))(hv:qf ts):qb b/\qf q:=by
 match ts,h,hv with
 |[],h,_=>simp[atom]at h
 |t::r,h,hv=>
  have ht:=hv t (by simp)
  have hr:qf r:=fun x hx=>hv x (by simp[hx])
  unfold atom at h;simp only at h
  repeat' split at h
  all_goals first
   |(cases h;done)
   |(cases h
     refine⟨?_,hr⟩;intro x hx;simp[leaf]at hx;subst hx;refine⟨fun e=> ?_,fun e=> ?_⟩
     all_goals first
      |(simp at e;done)
      |exact ht.str (by assumption)
      |skip
     all_goals
      have h18:=ht.name (by assumption);unfold isName;rw[h18.1]
      have h30:t.text.length<=30:=by omega
      cases hh:t.text with
      |nil=>exact absurd hh h18.2
      |cons c r'=>rw[hh]at h30;simp at h30⊢;exact h30)
theorem QE:∀n m a ts b q,ex sz n m a ts=Y2 (.ok (b,q))->qf ts->qb a->qb b/\qf q:=by
 intro n
 induction n with
 |zero=>intro m a ts b q h;cases h
 |succ n ih=>
  intro m a ts b q h hv ha
  have nil:qb []:=fun x hx=>by cases hx
  unfold ex at h
  split at h
  · split at h
    · cases h;exact⟨ha,hv⟩
    rcases tF h with⟨e,_,h2⟩|⟨b1,q1,h1,h2⟩
    · cases h2
    have i1:=ih _ _ _ _ _ h1 hv.tail nil;exact ih _ _ _ _ _ h2 i1.2 (ha.bP i1.1 (J7 _ _))
  split at h
  · split at h
    · rcases tF h with⟨e,_,h2⟩|⟨b1,q1,h1,h2⟩
      · cases h2
      cases h2
      have i1:=ih _ _ _ _ _ h1 hv.tail nil;exact⟨i1.1.aX (by decide),i1.2⟩
    exact ih _ _ _ _ _ h hv nil
  split at h
  · rcases tF h with⟨e,_,h2⟩|⟨b1,q1,h1,h2⟩
    · cases h2
    have i1:=ih _ _ _ _ _ h1 hv nil;unfold gJ at h2
    split at h2
    · split at h2
      · rcases tF h2 with⟨e,_,h3⟩|⟨b2,q2,h3,h4⟩
        · cases h3
        cases h4
        rcases aU h3 with⟨c6,h6⟩|⟨_,h6⟩
        · cases h6
          exact⟨i1.1.aX (by decide),i1.2.tail.tail.tail⟩
        cases h6
      rcases tF h2 with⟨e,_,h3⟩|⟨b2,q2,h3,h4⟩
      · cases h3
      cases h4
      rcases aU h3 with⟨c6,h6⟩|⟨_,h6⟩
      · cases h6
        exact⟨i1.1.aX (by decide),i1.2.tail.tail⟩
      cases h6
    split at h2
    · cases h2;exact i1
    rcases tF h2 with⟨e,_,h3⟩|⟨b2,q2,h3,h4⟩
    · cases h3
    cases h4
    have i2:=ih _ _ _ _ _ h3 i1.2.tail nil;exact⟨i1.1.bP i2.1 (J7 _ _),i2.2⟩
  split at h
  · split at h
    · split at h
      · cases h
        exact⟨qb.num _,hv.tail.tail⟩
      rcases tF h with⟨e,_,h2⟩|⟨b1,q1,h1,h2⟩
      · cases h2
      have i1:=ih _ _ _ _ _ h1 hv.tail nil;unfold negate at h2
      split at h2
      · cases h2
        exact⟨i1.1.aX (by decide),i1.2⟩
      split at h2
      · cases h2
        exact⟨i1.1.aX (by decide),i1.2⟩
      split at h2
      · cases h2
      cases h2
      exact⟨qb.num _,i1.2⟩
    exact ih _ _ _ _ _ h hv nil
  split at h
  · split at h
    · rcases tF h with⟨e,_,h2⟩|⟨b1,q1,h1,h2⟩
      · cases h2
      have i1:=ih _ _ _ _ _ h1 hv.tail nil;rcases tF h2 with⟨e,_,h3⟩|⟨b2,q2,h3,h4⟩
      · cases h3
      cases h4
      rcases aU h3 with⟨c7,h7⟩|⟨_,h7⟩
      · cases h7
        exact⟨i1.1,i1.2.tail⟩
      cases h7
    exact L8 h hv
  rcases tF h with⟨e,_,h2⟩|⟨b1,q1,h1,h2⟩
  · cases h2
  have i1:=ih _ _ _ _ _ h1 hv nil;exact ih _ _ _ _ _ h2 i1.2 i1.1
theorem E.xh:∀e:E,qb e.nodes->e.good
 |.null,_=>trivial
 |.bool _,_=>trivial
 |.num _,_=>trivial
 |.str s,h=>(h ⟨17,s,0,0⟩ (by simp[E.nodes,leaf])).1 rfl
 |.nm s,h=>(h ⟨18,s,0,0⟩ (by simp[E.nodes,leaf])).2 rfl
 |.un k e,h=>E.xh e (fun x hx=>h x (by simp[E.nodes,aX,hx]))
 |.bin k a b,h=>⟨E.xh a (fun x hx=>h x (by simp[E.nodes,bP,hx])),E.xh b (fun x hx=>h x (by simp[E.nodes,bP,hx]))⟩
theorem MR{ts q:List Tok}{e:E}(h:uC sz ts (.ok (e,q)))(hv:qf ts):e.good/\qf q/\e.ok 2000:=by
 obtain⟨⟨n,hn⟩,h2⟩:=h;have:=QE n 1 [] ts e.nodes q hn hv (fun x hx=>by cases hx);exact⟨E.xh e this.1,this.2,(h2 e q rfl).1⟩
theorem IL{ts q:List Tok}{s:Bs}(h:cO sz ts (.ok (s,q)))(hv:qf ts):isName s=true/\qf q:=by
 unfold cO name at h
 split at h
 · cases h
 rename_i t r
 split at h
 · cases h
 rename_i hk
 split at h
 · cases h
 rename_i hl
 cases h
 have h18:=(hv t (by simp)).name (by simpa using hk);refine⟨?_,fun x hx=>hv x (by simp[hx])⟩;unfold isName;rw[h18.1]
 cases hh:t.text with
 |nil=>exact absurd hh h18.2
 |cons c r'=>rw[hh]at hl;simp at hl⊢;omega
end Px
end
section
namespace Px
open Lx (Bs Tok uO)
variable {α β:Type}
def bI(x:Rg α)(P:α->Prop):Prop:=∀ts a q,x ts (.ok (a,q))->qf ts->P a/\qf q
theorem bI.seq{x:Rg α}{f:α->Rg β}{P:α->Prop}{Q:β->Prop}(hx:bI x P)(hf:∀a,P a->bI (f a) Q):bI (Rg.seq x f) Q:=by
 rintro ts b q ⟨r1,h1,h2⟩ hv
 match r1,h1,h2 with
 |.error e,h1,h2=>cases h2
 |.ok (a,q1),h1,h2=>
  obtain⟨p1,p2⟩:=hx ts a q1 h1 hv;exact hf a p1 q1 b q h2 p2
theorem bI.ret{a:α}{P:α->Prop}(h:P a):bI (Rg.ret a) P:=by
 intro ts b q h1 hv
 cases h1
 exact⟨h,hv⟩
theorem bI.must(sz:Nat)(s:Bs):bI (bU sz s) fun _=>True:=by
 intro ts a q h hv;rcases aU h with⟨_,h2⟩|⟨_,h2⟩
 · cases h2;exact⟨trivial,hv.tail⟩
 cases h2
theorem bI.name(sz:Nat):bI (cO sz) fun s=>isName s=true:=fun ts a q h hv=>IL h hv
theorem bI.ex(sz:Nat):bI (uC sz) fun e=>e.good/\e.ok 2000:=fun ts a q h hv=>by
 have:=MR h hv;exact⟨⟨this.1,this.2.2⟩,this.2.1⟩
theorem qO{x:Nat->Rg α}{P:α->Prop}(hx:∀i,bI (x i) P){ts:List Tok}{l:List α}{q:List Tok}(h:Reach x ts l q)(hv:qf ts):(l≠[]/\∀a∈l,P a)/\qf q:=by
 induction h with
 |first h1=>
  have:=hx 0 _ _ _ h1 hv;exact⟨⟨by simp,fun a ha=>by simp at ha;subst ha;exact this.1⟩,this.2⟩
 |step h1 h2 h3 ih=>
  have:=hx _ _ _ _ h3 ih.2.tail;refine⟨⟨by simp,fun a ha=> ?_⟩,this.2⟩;rcases List.mem_append.1 ha with ha|ha
  · exact ih.1.2 a ha
  simp at ha;subst ha;exact this.1
theorem bI.sep{x:Nat->Rg α}{P:α->Prop}(hx:∀i,bI (x i) P):bI (Sep x) fun l=>l≠[]/\∀a∈l,P a:=by
 intro ts l q h hv
 cases h with
 |stop h1 h2=>exact qO hx h1 hv
def QV(o:Option E):Prop:=∀e∈o.toList,e.good/\e.ok 2000
theorem bI.where(sz:Nat):bI (dC sz) QV:=by
 intro ts a q h hv;unfold dC at h
 split at h
 · exact(bI.seq (bI.ex sz) (fun e he=>bI.ret (P:=QV) (by intro e' h';simp at h';subst h';exact he))) _ _ _ h hv.tail
 cases h
 exact⟨fun e he=>(by simp at he),hv⟩
theorem bI.mono{x:Rg α}{P Q:α->Prop}(hx:bI x P)(h:∀a,P a->Q a):bI x Q:=fun ts a q h1 hv=>⟨h a (hx ts a q h1 hv).1,(hx ts a q h1 hv).2⟩
theorem bI.kind(sz:Nat):bI (gQ sz) fun k=>1<=k/\k<=3:=by
 intro ts a q h hv;unfold gQ at h
 split at h
 · cases h;exact⟨by omega,hv.tail⟩
 split at h
 · cases h;exact⟨by omega,hv.tail⟩
 exact(bI.seq (bI.must sz _) (fun _ _=>bI.ret (P:=fun k=>1<=k/\k<=3) (by omega))) _ _ _ h hv
def fF(x:Bs×Nat):Prop:=isName x.1=true/\1<=x.2/\x.2<=7/\x.2≠4
theorem bI.null(sz:Nat)(n:Bs)(k:Nat)(hn:isName n=true)(hk:1<=k/\k<=3):bI (kP sz n k) fF:=by
 intro ts a q h hv;unfold kP at h
 split at h
 · exact(bI.seq (bI.must sz _) (fun _ _=>bI.ret (P:=fF) ⟨hn,by simp only;omega,by simp only;omega,by simp only;omega⟩)) _ _ _ h hv.tail
 cases h
 exact⟨⟨hn,by simp only;omega,by simp only;omega,by simp only;omega⟩,hv⟩
theorem bI.Dw(sz i:Nat):bI (kV sz i) fun x=>fF x/\i<6:=by
 intro ts a q h hv;unfold kV at h;refine(bI.seq (Q:=fun x=>fF x/\i<6) (f:=fun n q r=>if 6<=i then r=.error (nJ sz ts,4)else Rg.seq (gQ sz) (kP sz n) q r) (bI.name sz) (fun n hn=> ?_)) _ _ _ h hv;intro ts2 b q2 h2 hv2
 split at h2
 · cases h2
 rename_i hi;have:=(bI.seq (bI.kind sz) (fun k hk=>bI.null sz n k hn hk)) _ _ _ h2 hv2;exact⟨⟨this.1,by omega⟩,this.2⟩
def He(s:St):Prop:=s.Fit/\∀e∈s.exprs,e.good
theorem bI.Tz(sz:Nat):bI (Sep (kV sz)) fun l=>(l≠[]/\∀a∈l,fF a)/\l.length<=6:=by
 intro ts l q h hv
 cases h with
 |stop h1 h2=>
  have:=qO (P:=fF) (fun i=>(bI.Dw sz i).mono fun a ha=>ha.1) h1 hv;refine⟨⟨this.1,?_⟩,this.2⟩
  have key:∀{l:List (Bs×Nat)} {q:List Tok},Reach (kV sz) ts l q->l.length<=6:=by
   intro l q h
   induction h with
   |first _=>simp
   |step h1 h2 h3 ih=>
    rename_i l' q' a' q'';have hv':=(qO (P:=fF) (fun i=>(bI.Dw sz i).mono fun a ha=>ha.1) h1 hv).2;have:=(bI.Dw sz _ _ _ _ h3 hv'.tail).1.2;simp only[aaN,List.length_singleton];omega
  exact key h1
theorem PD(sz:Nat):bI (bM sz) He:=by
 intro ts s q h hv;unfold bM at h
 split at h
 · exact(bI.seq (bI.must sz _) fun _ _=>bI.seq (bI.name sz) fun t ht=>bI.seq (bI.must sz _) fun _ _=>bI.seq (bI.Tz sz) fun l hl=>bI.seq (bI.must sz _) fun _ _=>bI.ret (a:=St.create t l) (P:=He)
     ⟨⟨fun e he=>(by simp[St.exprs]at he),ht,List.length_pos_iff.2 hl.1.1,hl.2,hl.1.2⟩,fun e he=>(by simp[St.exprs]at he)⟩) _ _ _ h hv.tail
 split at h
 · exact(bI.seq (bI.must sz _) fun _ _=>bI.seq (bI.name sz) fun t ht=>bI.ret (a:=St.drop t) (P:=He) ⟨⟨fun e he=>(by simp[St.exprs]at he),ht⟩,fun e he=>(by simp[St.exprs]at he)⟩) _ _ _ h hv.tail
 split at h
 · have hrow:bI (CK sz) fun l=>l≠[]/\∀e∈l,e.good/\e.ok 2000:=bI.seq (bI.must sz _) fun _ _=>bI.seq (bI.sep fun _=>bI.ex sz) fun l hl=>bI.seq (bI.must sz _) fun _ _=>bI.ret hl
   refine(bI.seq (bI.must sz _) fun _ _=>bI.seq (bI.name sz) fun t ht=>bI.seq (bI.must sz _) fun _ _=>bI.seq (bI.sep fun _=>hrow) fun l hl=>bI.ret (a:=St.insert t l) (P:=He) ⟨⟨?_,ht,hl.1,fun x hx=>(hl.2 x hx).1⟩,?_⟩) _ _ _ h hv.tail
   · intro e he;obtain⟨r,hr,her⟩:=List.mem_flatten.1 he;exact((hl.2 r hr).2 e her).2
   intro e he;obtain⟨r,hr,her⟩:=List.mem_flatten.1 he;exact((hl.2 r hr).2 e her).1
 split at h
 · exact(bI.seq (bI.must sz _) fun _ _=>bI.seq (bI.name sz) fun t ht=>bI.seq (bI.where sz) fun w hw=>bI.ret (a:=St.delete t w) (P:=He) ⟨⟨fun e he=>(hw e he).2,ht⟩,fun e he=>(hw e he).1⟩) _ _ _ h hv.tail
 split at h
 · have hset:bI (CY sz) fun x=>isName x.1=true/\x.2.good/\x.2.ok 2000:=bI.seq (bI.name sz) fun n hn=>bI.seq (bI.must sz _) fun _ _=>bI.seq (bI.ex sz) fun e he=>bI.ret ⟨hn,he⟩
   refine(bI.seq (bI.name sz) fun t ht=>bI.seq (bI.must sz _) fun _ _=>bI.seq (bI.sep fun _=>hset) fun l hl=>bI.seq (bI.where sz) fun w hw=>bI.ret (a:=St.update t l w) (P:=He) ⟨⟨?_,ht,hl.1,fun x hx=>(hl.2 x hx).1⟩,?_⟩) _ _ _ h hv.tail
   · intro e he;rcases List.mem_append.1 he with he|he
     · obtain⟨x,hx,rfl⟩:=List.mem_map.1 he;exact(hl.2 x hx).2.2
     exact(hw e he).2
   intro e he;rcases List.mem_append.1 he with he|he
   · obtain⟨x,hx,rfl⟩:=List.mem_map.1 he;exact(hl.2 x hx).2.1
   exact(hw e he).1
 have EZ:bI (fE sz) QV:=by
  intro ts a q h hv;unfold fE at h
  split at h
  · cases h
    exact⟨fun e he=>(by simp at he),hv.tail⟩
  exact(bI.seq (bI.ex sz) (fun e he=>bI.ret (P:=QV) (by intro e' h';simp at h';subst h';exact he))) _ _ _ h hv
 have hdesc:∀e:E,(e.good/\e.ok 2000)->bI (jM e) fun x=>x.1.good/\x.1.ok 2000:=by
  intro e he ts a q h hv;unfold jM at h
  split at h
  · cases h;exact⟨he,hv.tail⟩
  split at h
  · cases h;exact⟨he,hv.tail⟩
  cases h;exact⟨he,hv⟩
 have VM:bI (fZ sz) fun l=>∀x∈l,x.1.good/\x.1.ok 2000:=by
  intro ts a q h hv;unfold fZ at h
  split at h
  · exact((bI.seq (bI.must sz _) fun _ _=>(bI.sep fun _=>bI.seq (bI.ex sz) hdesc).mono fun l hl=>hl.2)) _ _ _ h hv.tail
  cases h
  exact⟨fun x hx=>(by cases hx),hv⟩
 have hlim:bI (DK sz) fun l=>∀n,l=Y2 n->n<=1000000000:=by
  intro ts a q h hv;unfold DK at h
  split at h
  · refine(bI.seq (P:=fun n=>n<=1000000000) (Q:=fun l=>∀n,l=Y2 n->n<=1000000000) (x:=fun ts r=>limit sz ts=Y2 r) ?_ fun n hn=>bI.ret (by intro m hm;cases hm;exact hn)) _ _ _ h hv.tail;intro ts2 n q2 h2 hv2;unfold limit at h2
    split at h2
    · cases h2
    split at h2
    · cases h2
    split at h2
    · cases h2
    rename_i hx
    cases h2
    exact⟨by omega,fun x hx=>hv2 x (by simp[hx])⟩
  cases h
  exact⟨fun n hn=>(by cases hn),hv⟩
 refine(bI.seq (bI.must sz _) fun _ _=>bI.seq (bI.sep fun _=>EZ) fun i hi=>bI.seq (bI.must sz _) fun _ _=>bI.seq (bI.name sz) fun t ht=>bI.seq (bI.where sz) fun w hw=>bI.seq VM fun o ho=>bI.seq hlim fun l hl=>bI.ret (a:=St.select i t w o l) (P:=He) ⟨⟨?_,ht,hi.1,hl⟩,?_⟩) _ _ _ h hv
 · intro e he;simp only[St.exprs,YW,aha,id,YX]at he;rcases he with(⟨x,hx,rfl⟩|he)|⟨x,hx,rfl⟩
   · exact(hi.2 (Y2 e) hx e (by simp)).2
   · exact(hw e he).2
   exact(ho x hx).2
 intro e he;simp only[St.exprs,YW,aha,id,YX]at he;rcases he with(⟨x,hx,rfl⟩|he)|⟨x,hx,rfl⟩
 · exact(hi.2 (Y2 e) hx e (by simp)).1
 · exact(hw e he).1
 exact(ho x hx).1
theorem pO{s:Bs}{st:St}(h:bL s (.ok st)):st.Fit/\(∀e∈st.exprs,e.good)/\deepest st.exprs<=40:=by
 unfold bL at h
 cases hl:Lx.lex s with
 |error e=>rw[hl]at h;cases h
 |ok ts=>
  rw[hl]at h;obtain⟨q,h1,h2⟩:=h
  match q,h1,h2 with
  |.error e,h1,h2=>cases h2
  |.ok (a,u),h1,h2=>
   have hs:=(PD s.length ts a u h1 (Lx.RJ hl)).1;simp only at h2
   split at h2
   · split at h2
     · cases h2
     rename_i hd
     cases h2
     exact⟨hs.1,hs.2,by omega⟩
   cases h2
end Px
end
section
namespace Px
open Lx (Bs Tok)
theorem AZ{s:Bs}{st:St}{r:Except (Nat×Nat) St}(h:bL s (.ok st))(h':bL s r):r=.ok st:=by
 have e:=Parse.one (oF h) (oF h')
 match r,h',e with
 |.error x,_,e=>cases e
 |.ok st',h',e=>
  have e2:st.nodes=st'.nodes:=by injection e
  obtain⟨f,g,d⟩:=pO h;obtain⟨f',g',d'⟩:=pO h';have e3:=xx st f g d;have e4:=xx st' f' g' d';rw[e2,e4]at e3;injection e3 with e3;rw[e3]
theorem Jo{e:E}(ho:e.ok 2000){ts rest:List Tok}(h:Ex sz 1 [] (ts++rest) (.ok (e.nodes,rest))):uC sz (ts++rest) (.ok (e,rest)):=by
 refine⟨h,fun e' q he=> ?_⟩
 cases he
 refine⟨ho,?_⟩;have:=(Ex.len (by omega) h).2
 rwa [E.eB]at this
def e2(k:Nat)(a b:Int):E:=.bin 33 (.bin k (.num a) (.num b)) (.num b)
def e3(a b:Int):E:=.bin 32 (.bin 34 (.bin 35 (.num a) (.num b)) (.num b)) (.bin 36 (.num a) (.num b))
end Px
end
section
namespace Tx
open Tb Tw
def Jf(l:Int)(v:Y3)(n:Int):Array Y3:=#[.int .i32 l,.int .u32 0,v,Yp Y1 0 0,Yg Yh n]
def X3(c r:Y3)(n:Int):Array Y3:=#[c,r,Yp Y1 0 0,Yg Yh n,Yg Yh n]
structure One(w:Y4)(b:Nat)(l:Int)(p g cap ge ce:Nat)(r:Y3)(n:Int):Prop where
 blk:ae w b (Jf l (Yp (Y2 ⟨ge,0,Y1⟩) 1 ce) 1) 70
 hge:ge<w.heap.size
 e0:w.cell? ⟨ge,0,Y1⟩=Y2 (Yi ⟨#[111]⟩)
 e1:w.cell? ⟨ge,1,Y1⟩=Y2 (Ym (Y2 ⟨p,0,Y1⟩))
 Dw:Uy w p g cap ⟨#[97]⟩ (X3 (Yp (Y2 ⟨g,0,Y1⟩) 1 cap) r n)
theorem jX{cs:Array Y3}{T:TypeId}(h:ae w b cs T)(hs:w.heap.size<=w'.heap.size)(hb:w'.heap[b]? =w.heap[b]?):ae w' b cs T:=by
 unfold ae at*
 first|exact hb.trans h|(obtain⟨fr,h1⟩:=h;exact⟨fr,hb.trans h1⟩)
theorem oZ(h:aaS w.heap.size w w'):Apart a c w w':=⟨h.os,h.tape,h.output,h.size,fun k _ hl=>h.block k hl⟩
theorem dY{i:Nat}:Apart b (b+1) w (w.setCell ⟨b,i,Y1⟩ v):=
 ⟨rfl,rfl,rfl,by simp,fun k hk _=>Zb _ _ _ _ (by show k≠b;omega)⟩
theorem pV{base:Nat}{T T':TypeId}{s g cap:Nat}{xs:List Y3}{cs:Array Y3}(h:w.ownsRow base T s (Yp (Y2 ⟨g,0,Y1⟩) n cap) n xs)(hn:n≠0)(hP:ae w p cs T')(hT:T≠T'):p≠g:=by
 rintro rfl;rcases h.2 with⟨_,h0⟩|⟨g',cap',cur,hv,hb,hg,_⟩
 · exact hn h0
 injection hv with e1 e2 e3;injection e1 with e1;injection e1 with e1;subst e1;have:=hP.symm.trans hg;injection this with this;injection this with a1 a2;exact hT a2.symm
end Tx
end
theorem xI(a b:Y3)(w:Y4):(ZV (Yo 86 (Yj #[a,b])) 52 86 true).run Zc w=.ok (Yn #[Yj #[a,b],.bool true]) w:=by kernel_rfl
theorem zw(a b:Y3)(w:Y4):(ZV (Yo 93 (Yj #[a,b])) 52 86 true).run Zc w=.ok (Yn #[Yj #[Yi ⟨#[]⟩,Yp Y1 0 0],.bool false]) w:=by kernel_rfl
theorem Dq(a b:Y3)(w:Y4):(ZV (Yo 93 (Yj #[a,b])) 52 89 true).run Zc w=.ok (Yn #[Yj #[Yi ⟨#[]⟩],.bool false]) w:=by kernel_rfl
theorem y9(a b:Y3)(w:Y4):(ZV (Yo 93 (Yj #[a,b])) 52 93 true).run Zc w=.ok (Yn #[Yj #[a,b],.bool true]) w:=by kernel_rfl
theorem oP(a b c d e f:Y3)(w:Y4):(ZV (Yo 109 (Yj #[a,b,c,d,e,f])) 52 86 true).run Zc w=.ok (Yn #[Yj #[Yi ⟨#[]⟩,Yp Y1 0 0],.bool false]) w:=by kernel_rfl
theorem sQ(a b c d e f:Y3)(w:Y4):(ZV (Yo 109 (Yj #[a,b,c,d,e,f])) 52 89 true).run Zc w=.ok (Yn #[Yj #[Yi ⟨#[]⟩],.bool false]) w:=by kernel_rfl
theorem pJ(a b c d e f:Y3)(w:Y4):(ZV (Yo 109 (Yj #[a,b,c,d,e,f])) 52 93 true).run Zc w=.ok (Yn #[Yj #[Yi ⟨#[]⟩,Yp Y1 0 0],.bool false]) w:=by kernel_rfl
theorem pq(a b c d e f:Y3)(w:Y4):(ZV (Yo 109 (Yj #[a,b,c,d,e,f])) 52 100 true).run Zc w=.ok (Yn #[Yj #[Yi ⟨#[]⟩,Yq],.bool false]) w:=by kernel_rfl
theorem oh(a b c d e f:Y3)(w:Y4):(ZV (Yo 109 (Yj #[a,b,c,d,e,f])) 52 104 true).run Zc w=.ok (Yn #[Yj #[Yi ⟨#[]⟩,Yp Y1 0 0,Yq],.bool false]) w:=by kernel_rfl
theorem pF(a b c d e f:Y3)(w:Y4):(ZV (Yo 109 (Yj #[a,b,c,d,e,f])) 52 109 true).run Zc w=.ok (Yn #[Yj #[a,b,c,d,e,f],.bool true]) w:=by kernel_rfl
section
namespace Tx
open Tb Tw
theorem Apart.over{A C:Nat}{W W':Y4}(h:Apart a c w W)(h2:Apart A C W W')(hA:w.heap.size<=A):Apart a c w W':=
 ⟨h2.os.trans h.os,h2.tape.trans h.tape,h2.output.trans h.output,YB h.size h2.size,fun k hk hl=>(h2.block k (.inl (by omega)) (nlA hl h.size)).trans (h.block k hk hl)⟩
end Tx
end
abbrev SG:Go.Conc.Locks.MuLink:={lock:=20,unlock:=21,ilock:=30,iunlock:=31,lockSlow:=68,unlockSlow:=71,disable:=64,enable:=66,acquire:=67,relMerge:=69,cas32:=65,add32:=70,tMutex:=60,tIMutex:=58,tPMutex:=82,tPIMutex:=157,tPI32:=159,tUP:=161,tNoCopy:=55,tU32:=56}
theorem PK:Go.Conc.Locks.MuLib Zc SG:=
 ⟨Tryz.func20,Tryz.func21,Tryz.func30,Tryz.func31,Tryz.func64,Tryz.func66,Tryz.func67,Tryz.func69,Tryz.func65,Tryz.func70,Tryz.underlying58,Tryz.runUnderlying58,Tryz.sizeOf58,Tryz.isAgg58,Tryz.zeroValue58,Tryz.underlying60,Tryz.runUnderlying60,Tryz.sizeOf60,Tryz.isAgg60,Tryz.zeroValue60,Tryz.underlying82,Tryz.runUnderlying82,Tryz.sizeOf82,Tryz.isAgg82,Tryz.zeroValue82,Tryz.underlying157,Tryz.runUnderlying157,Tryz.sizeOf157,Tryz.isAgg157,Tryz.zeroValue157,Tryz.underlying159,Tryz.runUnderlying159,Tryz.sizeOf159,Tryz.isAgg159,Tryz.zeroValue159,Tryz.underlying161,Tryz.runUnderlying161,Tryz.sizeOf161,Tryz.isAgg161,Tryz.zeroValue161,Tryz.underlying55,Tryz.runUnderlying55,Tryz.sizeOf55,Tryz.isAgg55,Tryz.zeroValue55,Tryz.underlying21,Tryz.runUnderlying21,Tryz.sizeOf21,Tryz.isAgg21,Tryz.zeroValue21,(by kernel_rfl)⟩
section
namespace Px
open Lx (Bs Tok)
def WT(a b:Nd):Bool:=decide (a.kind=b.kind)&&decide (a.text=b.text)&&decide (a.num=b.num)&&decide (a.kids=b.kids)
def Rk:List Nd->List Nd->Bool
 |[],[]=>true
 |a::x,b::y=>WT a b&&Rk x y
 |_,_=>false
theorem Ug{a b:Nd}(h:WT a b=true):a=b:=by
 obtain⟨k,t,n,c⟩:=a;obtain⟨k',t',n',c'⟩:=b;simp only[WT,YD,decide_eq_true_eq]at h;obtain⟨⟨⟨rfl,rfl⟩,rfl⟩,rfl⟩:=h
 rfl
theorem Jq:∀{a b:List Nd},Rk a b=true->a=b
 |[],[],_=>rfl
 |a::x,b::y,h=>by
  simp only[Rk,YD]at h;rw[Ug h.1,Jq h.2]
def D9(n:Nat)(s:Bs)(a:List Nd):Bool:=match Lx.lex s with
 |.error _=>false
 |.ok ts=>match whole s.length n ts with
  |some (.ok (b,_))=>Rk b a&&(match deep (b.length+1) b with
   |some d=>decide (d<=40)
   |none=>false)
  |_=>false
theorem Ht{s:Bs}{a:List Nd}(h:D9 n s a=true):Parse s (.ok a):=by
 unfold D9 at h;unfold Parse
 split at h
 · simp at h
 rename_i ts he;rw[he]
 split at h
 · rename_i b q hw;rw[YD]at h;obtain⟨h1,h2⟩:=h;obtain rfl:=Jq h1;refine⟨n,.ok (b,q),hw,?_⟩;dsimp only
   split at h2
   · rename_i d hd;refine⟨d,hd,?_⟩;rw[if_neg (by simpa using h2)]
   simp at h2
 simp at h
def Reads(s:Bs)(st:St):Prop:=∀r,bL s r->r=.ok st
theorem Reads.of{s:Bs}{st:St}(h:bL s (.ok st)):Reads s st:=fun r h'=>AZ h h'
theorem Reads.calc{s:Bs}{st:St}(h:D9 n s st.nodes=true)(hs:rS st.nodes=Y2 st):Reads s st:=by
 intro r h';have e:=Parse.one (Ht h) (oF h')
 match r,h',e with
 |.error x,_,e=>cases e
 |.ok st',h',e=>
  have e2:st.nodes=st'.nodes:=by injection e
  obtain⟨f',g',d'⟩:=pO h';have e4:=xx st' f' g' d';rw[<-e2,hs]at e4;injection e4 with e4;rw[e4]
def Tk:Bs:=[67,82,69,65,84,69,32,84,65,66,76,69,32,116,32,40,97,32,73,78,84,69,71,69,82,44,32,98,32,84,69,88,84,44,32,99,32,66,79,79,76,69,65,78,41]
def bX:List (Bs×Nat):=[([97],1),([98],2),([99],3)]
def Ww:St:=.create [116] bX
theorem Kz:Reads Tk Ww:=Reads.calc (n:=200) (by decide+kernel) rfl
def qY:Fin 7->Bs
 |0=>[45,51]|1=>[45,50]|2=>[45,49]|3=>[48]|4=>[49]|5=>[50]|6=>[51]
def aT(z:Fin 7)(n:Bool):Bs:=if n=true then bq else qY z
def bT(z:Fin 7)(n:Bool):Bs:=if n=true then bq else 39::(qY z++[39])
def cT:Fin 3->Bs
 |0=>dK|1=>gW|2=>bq
def Qb:Bs:=[73,78,83,69,82,84,32,73,78,84,79,32,116,32,86,65,76,85,69,83,32,40]
def ig(z:Fin 7)(na nb:Bool)(c:Fin 3):Bs:=aT z na++([44,32]++(bT z nb++([44,32]++cT c)))
def Qm(z:Fin 7)(na nb:Bool)(c:Fin 3):Bs:=Qb++(ig z na nb c++[41])
def aE(z:Fin 7)(n:Bool):E:=if n=true then .null else .num ((z.val:Int)-3)
def bE(z:Fin 7)(n:Bool):E:=if n=true then .null else .str (qY z)
def cE:Fin 3->E
 |0=> .bool false|1=> .bool true|2=> .null
def UG(z:Fin 7)(na nb:Bool)(c:Fin 3):St:=.insert [116] [[aE z na,bE z nb,cE c]]
theorem MU:∀(z:Fin 7) (na nb:Bool) (c:Fin 3),D9 60 (Qm z na nb c) (UG z na nb c).nodes=true:=by decide+kernel
theorem LH(z:Fin 7)(na nb:Bool)(c:Fin 3):Reads (Qm z na nb c) (UG z na nb c):=by
 refine Reads.calc (MU z na nb c) ?_
 match z,c with
 |0,0=>cases na<;>cases nb<;>rfl
 |0,1=>cases na<;>cases nb<;>rfl
 |0,2=>cases na<;>cases nb<;>rfl
 |1,0=>cases na<;>cases nb<;>rfl
 |1,1=>cases na<;>cases nb<;>rfl
 |1,2=>cases na<;>cases nb<;>rfl
 |2,0=>cases na<;>cases nb<;>rfl
 |2,1=>cases na<;>cases nb<;>rfl
 |2,2=>cases na<;>cases nb<;>rfl
 |3,0=>cases na<;>cases nb<;>rfl
 |3,1=>cases na<;>cases nb<;>rfl
 |3,2=>cases na<;>cases nb<;>rfl
 |4,0=>cases na<;>cases nb<;>rfl
 |4,1=>cases na<;>cases nb<;>rfl
 |4,2=>cases na<;>cases nb<;>rfl
 |5,0=>cases na<;>cases nb<;>rfl
 |5,1=>cases na<;>cases nb<;>rfl
 |5,2=>cases na<;>cases nb<;>rfl
 |6,0=>cases na<;>cases nb<;>rfl
 |6,1=>cases na<;>cases nb<;>rfl
 |6,2=>cases na<;>cases nb<;>rfl
def nA:E:=.nm [97]
def nB:E:=.nm [98]
def nC:E:=.nm [99]
def dO:Bs:=[83,69,76,69,67,84,32,97,32,70,82,79,77,32,116,32,87,72,69,82,69,32]
def Nh(e:E):St:=.select [Y2 nA] [116] (Y2 e) [] Y1
end Px
end
section
namespace Tx
open Tb Tw
theorem Bb(b1:Nat)(y p c:Int)(older:List PanicEntry)(w:Y4)(h1:ae w b1 #[Yg Yh y] 30):
   CallsD Zc 17 #[Ym (Y2 ⟨b1,0,Y1⟩)] (.panicking ({v:=Yo 74 (Yj #[Yg Yh p,Yg Yh c]),recovered:=false}::older)) w fun e u' w'=>
    e=Yl (Yn #[])/\u'=.panicking ({v:=Yo 74 (Yj #[Yg Yh p,Yg Yh c]),recovered:=true}::older)/\∃w1,aaS w.heap.size w w1/\w'=w1.setCell ⟨b1,0,Y1⟩ (Yg Yh c):=by
 refine callsD_of_wpS ahb rfl fun c₀ cs hu=> ?_
 apply wpS_seq;apply wpS_region;simp[wpOpsS,go_sem,recoverD,hu,ahc,Exit.thenS];apply wpS_seq;apply wpS_region;simp[wpOpsS,go_sem,recoverD,hu,ahc,Exit.thenS];refine wpS_cond (t:=true) (by simp[Act.eval,agz]) ?_;simp only[if_true];refine wpS_of_wp ?_;simp only[agz,List.replicate,List.toArray_replicate];go_wp2_with fail;refine(Qg p c w).mono ?_;rintro e w1 ⟨rfl,hb1⟩;have k1:=h1.below hb1 h1.lt;have c1:w1.cell? ⟨b1,0,Y1⟩=Y2 (Yg Yh y):=k1.cell 0;have f1:=k1.free 0;go_wp2;refine⟨rfl,_,rfl,Yn #[],by simp[aaW,ahd],rfl,rfl,w1,hb1,rfl⟩
theorem Nt(q:Addr)(w:Y4):
   CallsD Zc 17 #[Ym (Y2 q)] .returning w fun e u' w'=>e=Yl (Yn #[])/\u'=.returning/\w'=w:=by
 refine callsD_of_wpS ahb rfl fun c₀ cs hu=> ?_
 apply wpS_seq;apply wpS_region;simp[wpOpsS,go_sem,recoverD,hu,ahc,Exit.thenS];apply wpS_seq;apply wpS_region;simp[wpOpsS,go_sem,recoverD,hu,ahc,Exit.thenS];refine wpS_cond (t:=false) (by simp[Act.eval,agz]) ?_;simp only[Bool.false_eq_true,if_false];refine wpS_of_wp (wp_skip ?_)
 cases c₀
 simp_all [bodyPostS,aaW,ahd]
theorem Apart.refl(w:Y4):Apart a c w w:=⟨rfl,rfl,rfl,nlr _,fun _ _ _=>rfl⟩
theorem Ew{x i:Nat}(h:a<=x/\x<c):Apart a c w (w.setCell ⟨x,i,Y1⟩ v):=
 ⟨rfl,rfl,rfl,by simp,fun k hk _=>Zb _ _ _ _ (by show k≠x;omega)⟩
def X5(x:Ending):Prop:=(∃(a:Int) (ao:Option Addr) (k cp:Nat) (n:Int),x=Yl (Yj #[Yg Yh a,Yp ao k cp,Yg Yh n]))\/∃c:Nat,x=lL 0 c
def Told(x0 x:Ending):Prop:=(∃v,x0=Yl v/\x=Yl (Yn #[v,Yg Yh 0]))\/∃c:Nat,x0=lL 0 c/\x=Yl (Yn #[Yj #[Yg Yh 0,Yp Y1 0 0,Yg Yh 0],Yg Yh (c:Int)])
theorem Nc{B:Nat}{st:Px.St}(hst:Qj B st v w):∃t y,v=Yo t y:=by
 cases st with
 |create t c=>obtain⟨u,h1,h2⟩:=hst;exact⟨_,_,h1⟩
 |drop t=>exact⟨_,_,hst⟩
 |insert t r=>obtain⟨u,h1,h2⟩:=hst;exact⟨_,_,h1⟩
 |delete t o=>exact⟨_,_,hst⟩
 |update t s o=>obtain⟨u,h1,h2⟩:=hst;exact⟨_,_,h1⟩
 |select i t o r l=>obtain⟨u,u',h1,h2,h3⟩:=hst;exact⟨_,_,h1⟩
theorem kR(st:Px.St)(s:ByteArray)(hp:Px.Reads s.data.toList st)(hm:s.size<=maxLen)(b:Nat)(cs:Array Y3)(w:Y4)(he:jJ w)(hB:ae w b cs 70)(h0:cs[0]? =Y2 (.int .i32 0))
   (R:Y4->Y3->Ending->Y4->Prop)
   (hD:∀wp v B,aaS w.heap.size w wp->w.heap.size+2<=B->Qj B st v wp->aaT Zc 22 #[Ym (Y2 ⟨b,2,Y1⟩),v] (wp.setCell ⟨b,0,Y1⟩ (.int .i32 1)) (R wp v))
   (hR:∀wp v x w2,aaS w.heap.size w wp->R wp v x w2->X5 x/\(∀k,w.heap.size<=k->k<wp.heap.size->w2.heap[k]? =wp.heap[k]?)/\(∃cs',ae w2 b cs' 70/\cs'[0]? =Y2 (.int .i32 1))/\wp.heap.size<=w2.heap.size):
   aaT Zc 9 #[Ym (Y2 ⟨b,0,Y1⟩),.string s] w fun x w'=>∃wp v x0 w2 W3,aaS w.heap.size w wp/\w.heap.size+2<=wp.heap.size/\R wp v x0 w2/\Told x0 x/\Apart w.heap.size (w.heap.size+2) w2 W3/\Apart w.heap.size (w.heap.size+2) (W3.setCell ⟨b,0,Y1⟩ (.int .i32 0)) w':=by
 have hmf:∀(fn:Fn) (first cap:Array Y3) (w:Y4),(Instr.makeFunc fn first cap).run Zc w=.ok (.func fn first cap) w:=fun _ _ _ _=>rfl
 have HD:=hd hD;have HR:=hd hR;have HP:=hd hp;have HB:=hd hB;have H0:=hd h0;have hbl:=hB.lt;have hb0:aaS w.heap.size w ((w.alloc (Yk #[Yg Yh 0,Yp Y1 0 0,Yg Yh 0] 29)).alloc (Yk #[Yg Yh 0] 30)):=((Zh _ _).alloc (nlr _) _).alloc (by simp) _;have HT:=hd (nI s ((w.alloc (Yk #[Yg Yh 0,Yp Y1 0 0,Yg Yh 0] 29)).alloc (Yk #[Yg Yh 0] 30)) (he.below hb0) hm);have K0:ae ((w.alloc (Yk #[Yg Yh 0,Yp Y1 0 0,Yg Yh 0] 29)).alloc (Yk #[Yg Yh 0] 30)) w.heap.size #[Yg Yh 0,Yp Y1 0 0,Yg Yh 0] 29:=(ae.new w _ _).alloc _;have K1:ae ((w.alloc (Yk #[Yg Yh 0,Yp Y1 0 0,Yg Yh 0] 29)).alloc (Yk #[Yg Yh 0] 30)) (w.heap.size+1) #[Yg Yh 0] 30:=(by have h:=ae.new (w.alloc (Yk #[Yg Yh 0,Yp Y1 0 0,Yg Yh 0] 29)) #[Yg Yh 0] 30;rwa [ZC]at h)
 go_enter_defers Tryz.func9,Tryz.ntmps9
 go_wp2_with fail;refine HT.o.mono ?_;rintro e wp ⟨hb1,r,hr,ht⟩;obtain rfl:=HP.o _ hr;obtain⟨v,B,rfl,hBb,hst⟩:=ht;have HK0:=hd (K0.below hb1 (by simp;omega));have HK1:=hd (K1.below hb1 (by simp));have HB1:=hd (hb0.trans (hb1.mono (by simp;omega)));have HBS:=hd (HB.o.below HB1.o HB.o.lt)
 have HBb:Yf (w.heap.size+2<=B):=by show _<=_;simpa using hBb
 obtain⟨tv,xv,rfl⟩:=Nc hst;have HST:=hd hst;have hw2:w.heap.size+1<wp.heap.size:=HK1.o.lt;have hbp:=HBS.o.lt;go_wp2_with fail;refine(Go.MuLone.lock_free PK ⟨b,0,Y1⟩ wp ((HBS.o.cell 0).trans H0.o) (HBS.o.free 0)).mono ?_;rintro x w1 ⟨rfl,rfl⟩;go_wp2_with fail;refine(HD.o wp (Yo tv xv) B HB1.o HBb.o HST.o).mono ?_;rintro x0 w2 hRx;obtain⟨hx,hk,⟨cs',hcb,hc0⟩,hs2⟩:=HR.o wp _ x0 w2 HB1.o hRx;have HRX:=hd hRx;have HA:=hd (jX HK0.o hs2 (hk _ (nlr _) (by omega)));have HE:=hd (jX HK1.o hs2 (hk _ (by omega) (by omega)));rcases hx with⟨a,ao,k,cp,n,rfl⟩|⟨c,rfl⟩
 · obtain⟨a0,a1,a2⟩:=HA.o.d3;have e0:=HE.o.d1;obtain⟨fa0,fa1,fa2⟩:=HA.o.f3;have fe0:=HE.o.free 0
   have hne:w.heap.size≠w.heap.size+1:=by omega
   have HCB:=hd hcb;have HC0:=hd hc0;have k0:=((((HA.o.set 0 (Yg Yh a)).set 1 (Yp ao k cp)).set 2 (Yg Yh n)).far ⟨w.heap.size+1,0,Y1⟩ (Yg Yh 0) (by simp));have k1:=((((HE.o.far ⟨w.heap.size,0,Y1⟩ (Yg Yh a) (by simp)).far ⟨w.heap.size,1,Y1⟩ (Yp ao k cp) (by simp)).far ⟨w.heap.size,2,Y1⟩ (Yg Yh n) (by simp)).set 0 (Yg Yh 0));have kb:=((((hcb.far ⟨w.heap.size,0,Y1⟩ (Yg Yh a) (by simp;omega)).far ⟨w.heap.size,1,Y1⟩ (Yp ao k cp) (by simp;omega)).far ⟨w.heap.size,2,Y1⟩ (Yg Yh n) (by simp;omega)).far ⟨w.heap.size+1,0,Y1⟩ (Yg Yh 0) (by simp;omega));have HL0:=hd k0;have HL1:=hd k1;have HLB:=hd kb;go_wp2;refine leaves_cons (f:=21) (args:=#[Ym (Y2 ⟨b,0,Y1⟩)]) (by simp) (by simp[go_sem]) ?_;refine(Go.MuLone.unlock_deferred PK ⟨b,0,Y1⟩ _ _ ((HLB.o.cell 0).trans HC0.o) (HLB.o.free 0)).mono ?_;rintro e u' w'' ⟨rfl,rfl,rfl⟩;refine leaves_cons (f:=17) (args:=#[Ym (Y2 ⟨w.heap.size+1,0,Y1⟩)]) (by simp[settle]) (by simp[go_sem]) ?_;refine(Nt ⟨w.heap.size+1,0,Y1⟩ _).mono ?_;rintro e u' w'' ⟨rfl,rfl,rfl⟩;have d0:=(HL0.o.far ⟨b,0,Y1⟩ (.int .i32 0) (by show b≠_;omega)).cell 0;have d1:=(HL0.o.far ⟨b,0,Y1⟩ (.int .i32 0) (by show b≠_;omega)).cell 1;have d2:=(HL0.o.far ⟨b,0,Y1⟩ (.int .i32 0) (by show b≠_;omega)).cell 2;have d3:=(HL1.o.far ⟨b,0,Y1⟩ (.int .i32 0) (by show b≠_;omega)).cell 0;simp at d0 d1 d2 d3;simp[Leaves,settle,aaW,ahe,go_sem,d0,d1,d2,d3];exact⟨wp,HB1.o,by omega,_,_,w2,HRX.o,.inl ⟨_,rfl,rfl⟩,_,((Ew (by omega)).trans (Ew (by omega))).trans ((Ew (by omega)).trans (Ew (by omega))),Apart.refl _⟩
 refine leaves_cons (f:=21) (args:=#[Ym (Y2 ⟨b,0,Y1⟩)]) (by simp) (by simp[go_sem]) ?_;refine(Go.MuLone.unlock_deferred PK ⟨b,0,Y1⟩ _ w2 ((hcb.cell 0).trans hc0) (hcb.free 0)).mono ?_;rintro e u' w'' ⟨rfl,rfl,rfl⟩;refine leaves_cons (f:=17) (args:=#[Ym (Y2 ⟨w.heap.size+1,0,Y1⟩)]) (by simp[settle]) (by simp[go_sem]) ?_;refine(Bb (w.heap.size+1) 0 0 (c:Int) [] _ (HE.o.far ⟨b,0,Y1⟩ _ (by show b≠_;omega))).mono ?_;rintro e u' w'' ⟨rfl,rfl,w3,hb3,rfl⟩;have k0:=(((HA.o.far ⟨b,0,Y1⟩ (.int .i32 0) (by show b≠_;omega)).below hb3 (by simpa using HA.o.lt)).far ⟨w.heap.size+1,0,Y1⟩ (Yg Yh (c:Int)) (by simp));have k1:=(((HE.o.far ⟨b,0,Y1⟩ (.int .i32 0) (by show b≠_;omega)).below hb3 (by simpa using HE.o.lt)).set 0 (Yg Yh (c:Int)));obtain⟨d0,d1,d2⟩:=k0.d3;have d3:=k1.d1;simp[Leaves,settle,aaW,ahe,go_sem,d0,d1,d2,d3];exact⟨wp,HB1.o,by omega,_,_,w2,HRX.o,.inr ⟨c,rfl,rfl⟩,w2,Apart.refl _,(oZ hb3).trans (Ew (by omega))⟩
end Tx
end
section
namespace Tx
open Tb Tw Bt
structure kU(w:Y4)(b:Nat)(l:Int)(p ge ce:Nat)(tn:Y6)(cs:abS)(M:aN)(nx:Int)(F R:List Nat):Prop where
 blk:ae w b (Jf l (Yp (Y2 ⟨ge,0,Y1⟩) 1 ce) 1) 70
 hge:ge<w.heap.size
 e0:w.cell? ⟨ge,0,Y1⟩=Y2 (Yi ⟨tn.toArray⟩)
 e1:w.cell? ⟨ge,1,Y1⟩=Y2 (Ym (Y2 ⟨p,0,Y1⟩))
 tab:∃sv ve vk d L,TabAt w p cs M nx F R sv ve vk d L
 ok:jL cs M nx
 hb:b∉p::(F++R)
 hgb:ge≠b
 hgt:ge∉p::(F++R)
theorem kU.lt{tn:Y6}{cs:abS}{M:aN}(h:kU w b l p ge ce tn cs M nx F R):∀g∈b::ge::p::(F++R),g<w.heap.size:=by
 intro g hg;obtain⟨sv,ve,vk,d,L,ht⟩:=h.tab;simp only[aeQ]at hg;rcases hg with rfl|rfl|hg
 · exact h.blk.lt
 · exact h.hge
 exact ht.lt g (by simpa using hg)
theorem kU.keep{tn:Y6}{cs:abS}{M:aN}(h:kU w b l p ge ce tn cs M nx F R)(hs:w.heap.size<=w'.heap.size)(hk:∀g∈b::ge::p::(F++R),w'.heap[g]? =w.heap[g]?):kU w' b l p ge ce tn cs M nx F R:=by
 obtain⟨sv,ve,vk,d,L,ht⟩:=h.tab;have hge:=hk ge (by simp)
 exact⟨jX h.blk hs (hk b (by simp)),nlA h.hge hs,(Y8 (w:=w) (a:=⟨ge,0,Y1⟩) hge).trans h.e0,(Y8 (w:=w) (a:=⟨ge,1,Y1⟩) hge).trans h.e1,
   ⟨sv,ve,vk,d,L,ht.keep hs fun g hg=>hk g (by simp only[aeQ]at hg⊢;exact .inr (.inr hg))⟩,h.ok,h.hb,h.hgb,h.hgt⟩
theorem kU.below{tn:Y6}{cs:abS}{M:aN}(h:kU w b l p ge ce tn cs M nx F R)(hb:aaS w.heap.size w w'):kU w' b l p ge ce tn cs M nx F R:=
 h.keep hb.size fun g hg=>hb.block g (h.lt g hg)
theorem kU.apart{tn:Y6}{cs:abS}{M:aN}(h:kU w b l p ge ce tn cs M nx F R)(ha:Apart a c w w')(hl:∀g∈b::ge::p::(F++R),g<a\/c<=g):kU w' b l p ge ce tn cs M nx F R:=
 h.keep ha.size fun g hg=>ha.block g (hl g hg) (h.lt g hg)
theorem kU.lock{tn:Y6}{cs:abS}{M:aN}(h:kU w b l p ge ce tn cs M nx F R)(l':Int):kU (w.setCell ⟨b,0,Y1⟩ (.int .i32 l')) b l' p ge ce tn cs M nx F R:=by
 obtain⟨sv,ve,vk,d,L,ht⟩:=h.tab
 have hk:∀g,g≠b->(w.setCell ⟨b,0,Y1⟩ (.int .i32 l')).heap[g]? =w.heap[g]?:=fun g hg=>Zb _ _ _ _ hg
 have hge:=hk ge h.hgb
 refine⟨by simpa[Jf]using h.blk.set 0 (.int .i32 l'),by simpa using h.hge,(Y8 (w:=w) (a:=⟨ge,0,Y1⟩) hge).trans h.e0,(Y8 (w:=w) (a:=⟨ge,1,Y1⟩) hge).trans h.e1,
   ⟨sv,ve,vk,d,L,ht.keep (by simp) fun g hg=>hk g fun e=>h.hb (e▸hg)⟩,h.ok,h.hb,h.hgb,h.hgt⟩
theorem kU.more{tn:Y6}{cs:abS}{M M':aN}{nx':Int}(h:kU w b l p ge ce tn cs M nx F R)(hO:IQ w w' p cs M' nx' F R)(hok:jL cs M' nx'):
   ax (p::F) w w'/\∃F' R',kU w' b l p ge ce tn cs M' nx' F' R'/\∀g∈F'++R',g∈F++R\/w.heap.size<=g:=by
 obtain⟨F',R',sv,ve,vk,d,L,ht,hT,hF,hR⟩:=hO
 have hsub:∀g∈F'++R',g∈F++R\/w.heap.size<=g:=fun g hg=>by
  rcases List.mem_append.1 hg with hg|hg
  · rcases hF g with h1|h1
    · have:=List.count_pos_iff.2 hg;exact .inl (ahf _ (List.count_pos_iff.1 (by omega)))
    exact .inr h1.1
  rcases hR g hg with h1|h1
  · exact .inl (aec _ h1)
  exact .inr h1
 have hnot:∀x,x<w.heap.size->x∉p::(F++R)->x∉p::(F'++R'):=fun x hx hn hm=>by
  rcases List.mem_cons.1 hm with rfl|hm
  · exact hn (by simp)
  rcases hsub x hm with h1|h1
  · exact hn (List.mem_cons_of_mem _ h1)
  omega
 have hlb:=h.blk.lt
 have hnF:∀x,x∉p::(F++R)->x∉p::F:=fun x hx hm=>hx (by simp only[aeQ,YW]at hm⊢;rcases hm with hm|hm;exact .inl hm;exact .inr (.inl hm))
 have hge:=hT.block ge h.hge (hnF _ h.hgt)
 exact⟨hT,F',R',⟨jX h.blk hT.size (hT.block b hlb (hnF _ h.hb)),nlA h.hge hT.size,(Y8 (w:=w) (a:=⟨ge,0,Y1⟩) hge).trans h.e0,(Y8 (w:=w) (a:=⟨ge,1,Y1⟩) hge).trans h.e1,
   ⟨sv,ve,vk,d,L,ht⟩,hok,hnot b hlb h.hb,h.hgb,hnot ge h.hge h.hgt⟩,hsub⟩
theorem pY{tn:Y6}{cs:abS}{M:aN}(h:kU w b l p ge ce tn cs M nx F R):
   aaT Zc 34 #[Ym (Y2 ⟨b,2,Y1⟩),Yi ⟨tn.toArray⟩] w fun x w'=>x=Yl (Ym (Y2 ⟨p,0,Y1⟩))/\aaS w.heap.size w w':=by
 have HG:=hd (Ts.Rh ⟨tn.toArray⟩ (Y2 ⟨p,0,Y1⟩) ge ce b 2 w h.blk.lt (by simpa[Jf]using h.blk.cell 2) h.hge h.e0 h.e1);have hb:=h.blk.lt;generalize (⟨tn.toArray⟩:ByteArray)=T at*;go_enter Tryz.func34,Tryz.ntmps34;go_wp2_with fail;refine HG.o.mono ?_;rintro x w1 ⟨rfl,hb1⟩;have HB:=hd hb1;go_wp2_with fail;refine(Tb.bD _ _).mono ?_;rintro x w1 ⟨rfl,rfl⟩;go_wp2_with fail;go_ret;exact⟨rfl,HB.o⟩
end Tx
end
section
open Go.RowKit Go.Shelf
attribute [local go_sem] Oper.semAt_some
namespace Tw
open Bt
theorem qj(l:List (Option Px.E))(o:Option Px.E)(os:List (Px.E×Bool))(lb:Bool)(ln:Nat)(tn:ByteArray)(hlen:l.length<=2000/\os.length<=2000/\1<=l.length)(p:Nat)(cs:abS)(M:Tb.aN)(nx:Int)(F R:List Nat)(sv ve vk:Y3)(d:Nat)(L:List (Y3×Y3))(v u:Y3)(w:Y4)
   (hT:Tb.TabAt w p cs M nx F R sv ve vk d L) (hO:Tb.jL cs M nx) (hc1:1<=cs.length/\cs.length<=6) (hok:∀d∈ahg cs l o os,d.1.ok 2000) (hi:w.ownsRow 0 225 2 v l.length (l.flatMap iK)) (ho:w.ownsRow 0 227 2 u os.length (os.flatMap dA)):
   aaT Zc 38 #[Ym (Y2 ⟨p,0,Y1⟩),Yj #[v,.string tn,ev? o,u,.bool lb,Yg Yh (ln:Nat)]] w (Wv w cs M l o os lb ln):=by
 obtain⟨va,vc,rfl⟩:=ai hi;obtain⟨ua,uc,rfl⟩:=ai ho;have HT:=hd hT;have HO:=hd hO;have hp:=hT.blk.lt;have HIL:=hd (Tb.JP hc1 hlen)
 have HIE:Yf (∀W,aaS w.heap.size w W->aaT Zc 90 #[Ym (Y2 ⟨p,0,Y1⟩),Yp va l.length vc] W fun x w'=>aaS W.heap.size W w'/\∃u,x=Yl u/\w'.ownsRow W.heap.size 98 1 u (ahh cs l).length ((ahh cs l).flatMap nP)):=fun W hW=>
  Tb.Ay cs (by omega) sv l HIL.o.1 (by omega) p _ W (nlA hp hW.size) ((hW.cell (p:=⟨p,0,Y1⟩) hp).trans ((HT.o.blk.cell 0).trans rfl)) (HT.o.cols.below hW) (eO hi hW)
 have HOE:Yf (∀W,aaS w.heap.size w W->aaT Zc 91 #[Yp ua os.length uc] W fun x w'=>aaS W.heap.size W w'/\∃u,x=Yl u/\w'.ownsRow W.heap.size 98 1 u os.length ((os.map agx).flatMap nP)):=fun W hW=>Tb.zV os (by omega) _ W (eO ho hW)
 obtain⟨wt,hwt⟩:∃wt,ev? o=wt:=⟨_,rfl⟩;have HWT:=hd hwt
 have hwc:wt=Yq\/∃t y,wt=Yo t y:=by rw[<-hwt];cases o with
  |none=>exact .inl rfl
  |some e=>exact .inr (jc e)
 rw[hwt];have HDO:=hd hok;have HOS:=hd ho;clear hT hO hi ho hwt hok;refine(callsIn_wide (n:=0)).1 (lU ahi rfl ?_);simp only[Tryz.ntmps38,List.size_toArray,Yw,aeC,Nat.reduceAdd,Nat.reduceSub,Array.replicate_succ,Array.replicate_zero,List.push_toArray,List.append_toArray,YK,YI]
 have HB0:Yf (aaS w.heap.size w (((w.alloc (Yk #[Ym (Y2 ⟨p,0,Y1⟩)] 94)).alloc (Yk #[Yp va l.length vc,.string tn,wt,Yp ua os.length uc,.bool lb,Yg Yh (ln:Nat)] 109)).alloc (Yk #[Yg Yh 0,Yp Y1 0 0,Yg Yh 0] 29))):=by show aaS _ _ _;go_grown
 have HK0:=hd (((ae.new w #[Ym (Y2 ⟨p,0,Y1⟩)] 94).alloc (Yk #[Yp va l.length vc,.string tn,wt,Yp ua os.length uc,.bool lb,Yg Yh (ln:Nat)] 109)).alloc (Yk #[Yg Yh 0,Yp Y1 0 0,Yg Yh 0] 29));have HK1:=hd ((ae.new (w.alloc (Yk #[Ym (Y2 ⟨p,0,Y1⟩)] 94)) #[Yp va l.length vc,.string tn,wt,Yp ua os.length uc,.bool lb,Yg Yh (ln:Nat)] 109).alloc (Yk #[Yg Yh 0,Yp Y1 0 0,Yg Yh 0] 29));have HK2:=hd (ae.new ((w.alloc (Yk #[Ym (Y2 ⟨p,0,Y1⟩)] 94)).alloc (Yk #[Yp va l.length vc,.string tn,wt,Yp ua os.length uc,.bool lb,Yg Yh (ln:Nat)] 109)) #[Yg Yh 0,Yp Y1 0 0,Yg Yh 0] 29);rcases hwc with rfl|⟨wt1,wt2,rfl⟩
 all_goals
  refine fV fun K hK=> ?_
  go_wp2_with fail;simp only[ZC]at HK1 HK2;generalize ((w.alloc (Yk #[Ym (Y2 ⟨p,0,Y1⟩)] 94)).alloc (.cells _ 109)).alloc (Yk #[Yg Yh 0,Yp Y1 0 0,Yg Yh 0] 29)=V at*
  first|generalize Value.iface wt1 wt2=wt at* |generalize Value.nilIface=wt at*
  refine fV fun K hK=> ?_
  have v0:=HK0.o.d1;have v1:=HK1.o.d1;have v2:=HK1.o.cell 3;simp at v2;have hv0:=HK0.o.lt;have hv1:=HK1.o.lt;have hv2:=HK2.o.lt
  go_cut[5,6]from 14 to 34 (fun s5 s6 wx=>∃b5 b6 iv xv,s5=Ym (Y2 ⟨b5,0,Y1⟩)/\s6=Ym (Y2 ⟨b6,0,Y1⟩)/\Sg w wx p #[Yp va l.length vc,.string tn,wt,Yp ua os.length uc,.bool lb,Yg Yh (ln:Nat)] b5 b6 iv xv (ahh cs l) (os.map agx))
  case first=>
   have HB1:Yf (Qy w (abA V) p #[Yp va l.length vc,.string tn,wt,Yp ua os.length uc,.bool lb,Yg Yh (ln:Nat)]):=⟨HB0.o.drew,HK0.o.drew,HK1.o.drew,HK2.o.drew⟩;refine Code.wp_mono (Q:=Qd _ _) Dl ?_;refine wp_region_held_drew (S:=fun w'=>w'.cell? ⟨w.heap.size,0,Y1⟩=Y2 (Ym (Y2 ⟨p,0,Y1⟩))/\w'.cell? ⟨w.heap.size+1,0,Y1⟩=Y2 (Yp va l.length vc)/\w'.cell? ⟨w.heap.size+1,3,Y1⟩=Y2 (Yp ua os.length uc)) (by kernel_rfl) ⟨v0,v1,v2⟩ (fun hHeld=> ?_);generalize hV0:abA V=V0 at*;clear hV0;refine pU 0 (Ym (Y2 ⟨p,0,Y1⟩)) ?_ ?_
   · intro w hSw
     try dsimp only at hSw
     go_simp
   simp only[afl,siA,szA,ssA];refine pU 1 (Ym (Y2 ⟨w.heap.size+1,0,Y1⟩)) ?_ ?_
   · intro w hSw
     try dsimp only at hSw
     go_simp
   simp only[afl,siA,szA,ssA];refine pU 2 (Yp va l.length vc) ?_ ?_
   · intro w hSw
     try dsimp only at hSw
     go_simp
   simp only[afl,siA,szA,ssA];refine pU 4 (Ym (Y2 ⟨w.heap.size+1,3,Y1⟩)) ?_ ?_
   · intro w hSw
     try dsimp only at hSw
     go_simp
   simp only[afl,siA,szA,ssA];refine pU 5 (Yp ua os.length uc) ?_ ?_
   · intro w hSw
     try dsimp only at hSw
     go_simp
   simp only[afl,siA,szA,ssA];refine ahv (rs:=[3,7,8]) (by kernel_rfl) (by simp) ?_;refine(ahj rfl (fun K hK=> ?_) (ahj rfl (fun K hK=> ?_) (ahj rfl (fun K hK=> ?_) ahk)))
   go_simp
   refine(HIE.o _ HB1.o.low).mono ?_;rintro x w1 ⟨hb1,y1,rfl,hown1⟩;obtain⟨i1,i2,rfl⟩:=ai hown1;have HB2:=hd (HB1.o.below hb1);have HI1:=hd (afw hown1 HB1.o.k2.lt);refine hK.out _ _ (HB2.o.held) (fun hHeld=> ?_);clear hK K
   try simp only[afl,siA,szA,ssA]
   refine ahv (rs:=[6,7,8]) (by kernel_rfl) (by simp) ?_;refine(ahj rfl (fun K hK=> ?_) (ahj rfl (fun K hK=> ?_) (ahj rfl (fun K hK=> ?_) ahk)))
   go_simp
   refine(HOE.o _ HB2.o.low).mono ?_;rintro x w2 ⟨hb2,y2,rfl,hown2⟩;obtain⟨j1,j2,rfl⟩:=ai hown2;have HB3:=hd (HB2.o.below hb2);have HI1:=hd (eO HI1.o hb2);have HI2:=hd (afw hown2 HB2.o.k2.lt);refine hK.out _ _ (HB3.o.held) (fun hHeld=> ?_);clear hK K
   try simp only[afl,siA,szA,ssA]
   refine ahv (rs:=[7,8]) (by kernel_rfl) (by simp) ?_;refine(ahj rfl (fun K hK=> ?_) (ahj rfl (fun K hK=> ?_) ahk))
   go_simp
   have hb3:aaS (w2).heap.size (w2) (afZ (w2) (Yk #[Yp Y1 0 0] 132)):=by go_grown
   have HA7:=hd (ae.new (w2) #[Yp Y1 0 0] 132);have HB4:=hd (HB3.o.below hb3);have HI1:=hd (eO HI1.o hb3);have HI2:=hd (eO HI2.o hb3);have hs7:w.heap.size+1+1<(w2).heap.size:=HB3.o.k2.lt;refine hK.out _ _ (HB4.o.held) (fun hHeld=> ?_);clear hK K
   try simp only[afl,siA,szA,ssA]
   generalize hW3:afZ (w2) (Yk #[Yp Y1 0 0] 132)=w3 at*;refine ahv (rs:=[8]) (by kernel_rfl) (by simp) ?_;refine(ahj rfl (fun K hK=> ?_) ahk)
   go_simp
   have hb4:aaS (w3).heap.size (w3) (afZ (w3) (Yk #[Yp Y1 0 0] 132)):=by go_grown
   have HA8:=hd (ae.new (w3) #[Yp Y1 0 0] 132);have HB5:=hd (HB4.o.below hb4);have kY:=HA7;have HA7:=hd (HA7.o.below hb4 HA7.o.lt);have HI1:=hd (eO HI1.o hb4);have HI2:=hd (eO HI2.o hb4);have hs8:w.heap.size+1+1<(w3).heap.size:=HB4.o.k2.lt;have hne:w2.heap.size≠w3.heap.size:=ahl kY.o.lt;refine hK.out _ _ (HB5.o.held) (fun hHeld=> ?_);clear hK K
   try simp only[afl,siA,szA,ssA]
   generalize hW4:afZ (w3) (Yk #[Yp Y1 0 0] 132)=w4 at*;generalize w2.heap.size=a7 at*;generalize w3.heap.size=a8 at*;rotate_left
   go_simp
   have hb3:aaS (w2).heap.size (w2) (afZ (w2) (Yk #[Yp Y1 0 0] 132)):=by go_grown
   have HA8:=hd (ae.new (w2) #[Yp Y1 0 0] 132);have HB4:=hd (HB3.o.below hb3);have HI1:=hd (eO HI1.o hb3);have HI2:=hd (eO HI2.o hb3);have hs8:w.heap.size+1+1<(w2).heap.size:=HB3.o.k2.lt;refine hK.out _ _ (HB4.o.held) (fun hHeld=> ?_);clear hK K
   try simp only[afl,siA,szA,ssA]
   generalize hW3:afZ (w2) (Yk #[Yp Y1 0 0] 132)=w3 at*;refine ahv (rs:=[7]) (by kernel_rfl) (by simp) ?_;refine(ahj rfl (fun K hK=> ?_) ahk)
   go_simp
   have hb4:aaS (w3).heap.size (w3) (afZ (w3) (Yk #[Yp Y1 0 0] 132)):=by go_grown
   have HA7:=hd (ae.new (w3) #[Yp Y1 0 0] 132);have HB5:=hd (HB4.o.below hb4);have kW:=HA8;have HA8:=hd (HA8.o.below hb4 HA8.o.lt);have HI1:=hd (eO HI1.o hb4);have HI2:=hd (eO HI2.o hb4);have hs7:w.heap.size+1+1<(w3).heap.size:=HB4.o.k2.lt;have hne:w3.heap.size≠w2.heap.size:=ahm kW.o.lt;refine hK.out _ _ (HB5.o.held) (fun hHeld=> ?_);clear hK K
   try simp only[afl,siA,szA,ssA]
   generalize hW4:afZ (w3) (Yk #[Yp Y1 0 0] 132)=w4 at*;generalize w3.heap.size=a7 at*;generalize w2.heap.size=a8 at*;rotate_left
   go_simp
   have hb2:aaS (w1).heap.size (w1) (afZ (w1) (Yk #[Yp Y1 0 0] 132)):=by go_grown
   have HA7:=hd (ae.new (w1) #[Yp Y1 0 0] 132);have HB3:=hd (HB2.o.below hb2);have HI1:=hd (eO HI1.o hb2);have hs7:w.heap.size+1+1<(w1).heap.size:=HB2.o.k2.lt;refine hK.out _ _ (HB3.o.held) (fun hHeld=> ?_);clear hK K
   try simp only[afl,siA,szA,ssA]
   generalize hW2:afZ (w1) (Yk #[Yp Y1 0 0] 132)=w2 at*;refine ahv (rs:=[6,8]) (by kernel_rfl) (by simp) ?_;refine(ahj rfl (fun K hK=> ?_) (ahj rfl (fun K hK=> ?_) ahk))
   go_simp
   refine(HOE.o _ HB3.o.low).mono ?_;rintro x w3 ⟨hb3,y2,rfl,hown2⟩;obtain⟨j1,j2,rfl⟩:=ai hown2;have HB4:=hd (HB3.o.below hb3);have kY:=HA7;have HA7:=hd (HA7.o.below hb3 HA7.o.lt);have HI1:=hd (eO HI1.o hb3);have HI2:=hd (afw hown2 HB3.o.k2.lt);refine hK.out _ _ (HB4.o.held) (fun hHeld=> ?_);clear hK K
   try simp only[afl,siA,szA,ssA]
   refine ahv (rs:=[8]) (by kernel_rfl) (by simp) ?_;refine(ahj rfl (fun K hK=> ?_) ahk)
   go_simp
   have hb4:aaS (w3).heap.size (w3) (afZ (w3) (Yk #[Yp Y1 0 0] 132)):=by go_grown
   have HA8:=hd (ae.new (w3) #[Yp Y1 0 0] 132);have HB5:=hd (HB4.o.below hb4);have kY:=HA7;have HA7:=hd (HA7.o.below hb4 HA7.o.lt);have HI1:=hd (eO HI1.o hb4);have HI2:=hd (eO HI2.o hb4);have hs8:w.heap.size+1+1<(w3).heap.size:=HB4.o.k2.lt;have hne:w1.heap.size≠w3.heap.size:=ahl kY.o.lt;refine hK.out _ _ (HB5.o.held) (fun hHeld=> ?_);clear hK K
   try simp only[afl,siA,szA,ssA]
   generalize hW4:afZ (w3) (Yk #[Yp Y1 0 0] 132)=w4 at*;generalize w1.heap.size=a7 at*;generalize w3.heap.size=a8 at*;rotate_left
   go_simp
   have hb3:aaS (w2).heap.size (w2) (afZ (w2) (Yk #[Yp Y1 0 0] 132)):=by go_grown
   have HA8:=hd (ae.new (w2) #[Yp Y1 0 0] 132);have HB4:=hd (HB3.o.below hb3);have kY:=HA7;have HA7:=hd (HA7.o.below hb3 HA7.o.lt);have HI1:=hd (eO HI1.o hb3);have hs8:w.heap.size+1+1<(w2).heap.size:=HB3.o.k2.lt;have hne:w1.heap.size≠w2.heap.size:=ahl kY.o.lt;refine hK.out _ _ (HB4.o.held) (fun hHeld=> ?_);clear hK K
   try simp only[afl,siA,szA,ssA]
   generalize hW3:afZ (w2) (Yk #[Yp Y1 0 0] 132)=w3 at*;refine ahv (rs:=[6]) (by kernel_rfl) (by simp) ?_;refine(ahj rfl (fun K hK=> ?_) ahk)
   go_simp
   refine(HOE.o _ HB4.o.low).mono ?_;rintro x w4 ⟨hb4,y2,rfl,hown2⟩;obtain⟨j1,j2,rfl⟩:=ai hown2;have HB5:=hd (HB4.o.below hb4);have kY:=HA7;have HA7:=hd (HA7.o.below hb4 HA7.o.lt);have kW:=HA8;have HA8:=hd (HA8.o.below hb4 HA8.o.lt);have HI1:=hd (eO HI1.o hb4);have HI2:=hd (afw hown2 HB4.o.k2.lt);refine hK.out _ _ (HB5.o.held) (fun hHeld=> ?_);clear hK K
   try simp only[afl,siA,szA,ssA]
   generalize w1.heap.size=a7 at*;generalize w2.heap.size=a8 at*;rotate_left
   go_simp
   have hb2:aaS (w1).heap.size (w1) (afZ (w1) (Yk #[Yp Y1 0 0] 132)):=by go_grown
   have HA8:=hd (ae.new (w1) #[Yp Y1 0 0] 132);have HB3:=hd (HB2.o.below hb2);have HI1:=hd (eO HI1.o hb2);have hs8:w.heap.size+1+1<(w1).heap.size:=HB2.o.k2.lt;refine hK.out _ _ (HB3.o.held) (fun hHeld=> ?_);clear hK K
   try simp only[afl,siA,szA,ssA]
   generalize hW2:afZ (w1) (Yk #[Yp Y1 0 0] 132)=w2 at*;refine ahv (rs:=[6,7]) (by kernel_rfl) (by simp) ?_;refine(ahj rfl (fun K hK=> ?_) (ahj rfl (fun K hK=> ?_) ahk))
   go_simp
   refine(HOE.o _ HB3.o.low).mono ?_;rintro x w3 ⟨hb3,y2,rfl,hown2⟩;obtain⟨j1,j2,rfl⟩:=ai hown2;have HB4:=hd (HB3.o.below hb3);have kW:=HA8;have HA8:=hd (HA8.o.below hb3 HA8.o.lt);have HI1:=hd (eO HI1.o hb3);have HI2:=hd (afw hown2 HB3.o.k2.lt);refine hK.out _ _ (HB4.o.held) (fun hHeld=> ?_);clear hK K
   try simp only[afl,siA,szA,ssA]
   refine ahv (rs:=[7]) (by kernel_rfl) (by simp) ?_;refine(ahj rfl (fun K hK=> ?_) ahk)
   go_simp
   have hb4:aaS (w3).heap.size (w3) (afZ (w3) (Yk #[Yp Y1 0 0] 132)):=by go_grown
   have HA7:=hd (ae.new (w3) #[Yp Y1 0 0] 132);have HB5:=hd (HB4.o.below hb4);have kW:=HA8;have HA8:=hd (HA8.o.below hb4 HA8.o.lt);have HI1:=hd (eO HI1.o hb4);have HI2:=hd (eO HI2.o hb4);have hs7:w.heap.size+1+1<(w3).heap.size:=HB4.o.k2.lt;have hne:w3.heap.size≠w1.heap.size:=ahm kW.o.lt;refine hK.out _ _ (HB5.o.held) (fun hHeld=> ?_);clear hK K
   try simp only[afl,siA,szA,ssA]
   generalize hW4:afZ (w3) (Yk #[Yp Y1 0 0] 132)=w4 at*;generalize w3.heap.size=a7 at*;generalize w1.heap.size=a8 at*;rotate_left
   go_simp
   have hb3:aaS (w2).heap.size (w2) (afZ (w2) (Yk #[Yp Y1 0 0] 132)):=by go_grown
   have HA7:=hd (ae.new (w2) #[Yp Y1 0 0] 132);have HB4:=hd (HB3.o.below hb3);have kW:=HA8;have HA8:=hd (HA8.o.below hb3 HA8.o.lt);have HI1:=hd (eO HI1.o hb3);have hs7:w.heap.size+1+1<(w2).heap.size:=HB3.o.k2.lt;have hne:w2.heap.size≠w1.heap.size:=ahm kW.o.lt;refine hK.out _ _ (HB4.o.held) (fun hHeld=> ?_);clear hK K
   try simp only[afl,siA,szA,ssA]
   generalize hW3:afZ (w2) (Yk #[Yp Y1 0 0] 132)=w3 at*;refine ahv (rs:=[6]) (by kernel_rfl) (by simp) ?_;refine(ahj rfl (fun K hK=> ?_) ahk)
   go_simp
   refine(HOE.o _ HB4.o.low).mono ?_;rintro x w4 ⟨hb4,y2,rfl,hown2⟩;obtain⟨j1,j2,rfl⟩:=ai hown2;have HB5:=hd (HB4.o.below hb4);have kY:=HA7;have HA7:=hd (HA7.o.below hb4 HA7.o.lt);have kW:=HA8;have HA8:=hd (HA8.o.below hb4 HA8.o.lt);have HI1:=hd (eO HI1.o hb4);have HI2:=hd (afw hown2 HB4.o.k2.lt);refine hK.out _ _ (HB5.o.held) (fun hHeld=> ?_);clear hK K
   try simp only[afl,siA,szA,ssA]
   generalize w2.heap.size=a7 at*;generalize w1.heap.size=a8 at*;rotate_left
   go_simp
   have hb1:aaS (V0).heap.size (V0) (afZ (V0) (Yk #[Yp Y1 0 0] 132)):=by go_grown
   have HA7:=hd (ae.new (V0) #[Yp Y1 0 0] 132);have HB2:=hd (HB1.o.below hb1);have hs7:w.heap.size+1+1<(V0).heap.size:=HB1.o.k2.lt;refine hK.out _ _ (HB2.o.held) (fun hHeld=> ?_);clear hK K
   try simp only[afl,siA,szA,ssA]
   generalize hW1:afZ (V0) (Yk #[Yp Y1 0 0] 132)=w1 at*;refine ahv (rs:=[3,8]) (by kernel_rfl) (by simp) ?_;refine(ahj rfl (fun K hK=> ?_) (ahj rfl (fun K hK=> ?_) ahk))
   go_simp
   refine(HIE.o _ HB2.o.low).mono ?_;rintro x w2 ⟨hb2,y1,rfl,hown1⟩;obtain⟨i1,i2,rfl⟩:=ai hown1;have HB3:=hd (HB2.o.below hb2);have kY:=HA7;have HA7:=hd (HA7.o.below hb2 HA7.o.lt);have HI1:=hd (afw hown1 HB2.o.k2.lt);refine hK.out _ _ (HB3.o.held) (fun hHeld=> ?_);clear hK K
   try simp only[afl,siA,szA,ssA]
   refine ahv (rs:=[6,8]) (by kernel_rfl) (by simp) ?_;refine(ahj rfl (fun K hK=> ?_) (ahj rfl (fun K hK=> ?_) ahk))
   go_simp
   refine(HOE.o _ HB3.o.low).mono ?_;rintro x w3 ⟨hb3,y2,rfl,hown2⟩;obtain⟨j1,j2,rfl⟩:=ai hown2;have HB4:=hd (HB3.o.below hb3);have kY:=HA7;have HA7:=hd (HA7.o.below hb3 HA7.o.lt);have HI1:=hd (eO HI1.o hb3);have HI2:=hd (afw hown2 HB3.o.k2.lt);refine hK.out _ _ (HB4.o.held) (fun hHeld=> ?_);clear hK K
   try simp only[afl,siA,szA,ssA]
   refine ahv (rs:=[8]) (by kernel_rfl) (by simp) ?_;refine(ahj rfl (fun K hK=> ?_) ahk)
   go_simp
   have hb4:aaS (w3).heap.size (w3) (afZ (w3) (Yk #[Yp Y1 0 0] 132)):=by go_grown
   have HA8:=hd (ae.new (w3) #[Yp Y1 0 0] 132);have HB5:=hd (HB4.o.below hb4);have kY:=HA7;have HA7:=hd (HA7.o.below hb4 HA7.o.lt);have HI1:=hd (eO HI1.o hb4);have HI2:=hd (eO HI2.o hb4);have hs8:w.heap.size+1+1<(w3).heap.size:=HB4.o.k2.lt;have hne:V0.heap.size≠w3.heap.size:=ahl kY.o.lt;refine hK.out _ _ (HB5.o.held) (fun hHeld=> ?_);clear hK K
   try simp only[afl,siA,szA,ssA]
   generalize hW4:afZ (w3) (Yk #[Yp Y1 0 0] 132)=w4 at*;generalize V0.heap.size=a7 at*;generalize w3.heap.size=a8 at*;rotate_left
   go_simp
   have hb3:aaS (w2).heap.size (w2) (afZ (w2) (Yk #[Yp Y1 0 0] 132)):=by go_grown
   have HA8:=hd (ae.new (w2) #[Yp Y1 0 0] 132);have HB4:=hd (HB3.o.below hb3);have kY:=HA7;have HA7:=hd (HA7.o.below hb3 HA7.o.lt);have HI1:=hd (eO HI1.o hb3);have hs8:w.heap.size+1+1<(w2).heap.size:=HB3.o.k2.lt;have hne:V0.heap.size≠w2.heap.size:=ahl kY.o.lt;refine hK.out _ _ (HB4.o.held) (fun hHeld=> ?_);clear hK K
   try simp only[afl,siA,szA,ssA]
   generalize hW3:afZ (w2) (Yk #[Yp Y1 0 0] 132)=w3 at*;refine ahv (rs:=[6]) (by kernel_rfl) (by simp) ?_;refine(ahj rfl (fun K hK=> ?_) ahk)
   go_simp
   refine(HOE.o _ HB4.o.low).mono ?_;rintro x w4 ⟨hb4,y2,rfl,hown2⟩;obtain⟨j1,j2,rfl⟩:=ai hown2;have HB5:=hd (HB4.o.below hb4);have kY:=HA7;have HA7:=hd (HA7.o.below hb4 HA7.o.lt);have kW:=HA8;have HA8:=hd (HA8.o.below hb4 HA8.o.lt);have HI1:=hd (eO HI1.o hb4);have HI2:=hd (afw hown2 HB4.o.k2.lt);refine hK.out _ _ (HB5.o.held) (fun hHeld=> ?_);clear hK K
   try simp only[afl,siA,szA,ssA]
   generalize V0.heap.size=a7 at*;generalize w2.heap.size=a8 at*;rotate_left
   go_simp
   have hb2:aaS (w1).heap.size (w1) (afZ (w1) (Yk #[Yp Y1 0 0] 132)):=by go_grown
   have HA8:=hd (ae.new (w1) #[Yp Y1 0 0] 132);have HB3:=hd (HB2.o.below hb2);have kY:=HA7;have HA7:=hd (HA7.o.below hb2 HA7.o.lt);have hs8:w.heap.size+1+1<(w1).heap.size:=HB2.o.k2.lt;have hne:V0.heap.size≠w1.heap.size:=ahl kY.o.lt;refine hK.out _ _ (HB3.o.held) (fun hHeld=> ?_);clear hK K
   try simp only[afl,siA,szA,ssA]
   generalize hW2:afZ (w1) (Yk #[Yp Y1 0 0] 132)=w2 at*;refine ahv (rs:=[3]) (by kernel_rfl) (by simp) ?_;refine(ahj rfl (fun K hK=> ?_) ahk)
   go_simp
   refine(HIE.o _ HB3.o.low).mono ?_;rintro x w3 ⟨hb3,y1,rfl,hown1⟩;obtain⟨i1,i2,rfl⟩:=ai hown1;have HB4:=hd (HB3.o.below hb3);have kY:=HA7;have HA7:=hd (HA7.o.below hb3 HA7.o.lt);have kW:=HA8;have HA8:=hd (HA8.o.below hb3 HA8.o.lt);have HI1:=hd (afw hown1 HB3.o.k2.lt);refine hK.out _ _ (HB4.o.held) (fun hHeld=> ?_);clear hK K
   try simp only[afl,siA,szA,ssA]
   refine ahv (rs:=[6]) (by kernel_rfl) (by simp) ?_;refine(ahj rfl (fun K hK=> ?_) ahk)
   go_simp
   refine(HOE.o _ HB4.o.low).mono ?_;rintro x w4 ⟨hb4,y2,rfl,hown2⟩;obtain⟨j1,j2,rfl⟩:=ai hown2;have HB5:=hd (HB4.o.below hb4);have kY:=HA7;have HA7:=hd (HA7.o.below hb4 HA7.o.lt);have kW:=HA8;have HA8:=hd (HA8.o.below hb4 HA8.o.lt);have HI1:=hd (eO HI1.o hb4);have HI2:=hd (afw hown2 HB4.o.k2.lt);refine hK.out _ _ (HB5.o.held) (fun hHeld=> ?_);clear hK K
   try simp only[afl,siA,szA,ssA]
   generalize V0.heap.size=a7 at*;generalize w1.heap.size=a8 at*;rotate_left
   go_simp
   have hb1:aaS (V0).heap.size (V0) (afZ (V0) (Yk #[Yp Y1 0 0] 132)):=by go_grown
   have HA8:=hd (ae.new (V0) #[Yp Y1 0 0] 132);have HB2:=hd (HB1.o.below hb1);have hs8:w.heap.size+1+1<(V0).heap.size:=HB1.o.k2.lt;refine hK.out _ _ (HB2.o.held) (fun hHeld=> ?_);clear hK K
   try simp only[afl,siA,szA,ssA]
   generalize hW1:afZ (V0) (Yk #[Yp Y1 0 0] 132)=w1 at*;refine ahv (rs:=[3,7]) (by kernel_rfl) (by simp) ?_;refine(ahj rfl (fun K hK=> ?_) (ahj rfl (fun K hK=> ?_) ahk))
   go_simp
   refine(HIE.o _ HB2.o.low).mono ?_;rintro x w2 ⟨hb2,y1,rfl,hown1⟩;obtain⟨i1,i2,rfl⟩:=ai hown1;have HB3:=hd (HB2.o.below hb2);have kW:=HA8;have HA8:=hd (HA8.o.below hb2 HA8.o.lt);have HI1:=hd (afw hown1 HB2.o.k2.lt);refine hK.out _ _ (HB3.o.held) (fun hHeld=> ?_);clear hK K
   try simp only[afl,siA,szA,ssA]
   refine ahv (rs:=[6,7]) (by kernel_rfl) (by simp) ?_;refine(ahj rfl (fun K hK=> ?_) (ahj rfl (fun K hK=> ?_) ahk))
   go_simp
   refine(HOE.o _ HB3.o.low).mono ?_;rintro x w3 ⟨hb3,y2,rfl,hown2⟩;obtain⟨j1,j2,rfl⟩:=ai hown2;have HB4:=hd (HB3.o.below hb3);have kW:=HA8;have HA8:=hd (HA8.o.below hb3 HA8.o.lt);have HI1:=hd (eO HI1.o hb3);have HI2:=hd (afw hown2 HB3.o.k2.lt);refine hK.out _ _ (HB4.o.held) (fun hHeld=> ?_);clear hK K
   try simp only[afl,siA,szA,ssA]
   refine ahv (rs:=[7]) (by kernel_rfl) (by simp) ?_;refine(ahj rfl (fun K hK=> ?_) ahk)
   go_simp
   have hb4:aaS (w3).heap.size (w3) (afZ (w3) (Yk #[Yp Y1 0 0] 132)):=by go_grown
   have HA7:=hd (ae.new (w3) #[Yp Y1 0 0] 132);have HB5:=hd (HB4.o.below hb4);have kW:=HA8;have HA8:=hd (HA8.o.below hb4 HA8.o.lt);have HI1:=hd (eO HI1.o hb4);have HI2:=hd (eO HI2.o hb4);have hs7:w.heap.size+1+1<(w3).heap.size:=HB4.o.k2.lt;have hne:w3.heap.size≠V0.heap.size:=ahm kW.o.lt;refine hK.out _ _ (HB5.o.held) (fun hHeld=> ?_);clear hK K
   try simp only[afl,siA,szA,ssA]
   generalize hW4:afZ (w3) (Yk #[Yp Y1 0 0] 132)=w4 at*;generalize w3.heap.size=a7 at*;generalize V0.heap.size=a8 at*;rotate_left
   go_simp
   have hb3:aaS (w2).heap.size (w2) (afZ (w2) (Yk #[Yp Y1 0 0] 132)):=by go_grown
   have HA7:=hd (ae.new (w2) #[Yp Y1 0 0] 132);have HB4:=hd (HB3.o.below hb3);have kW:=HA8;have HA8:=hd (HA8.o.below hb3 HA8.o.lt);have HI1:=hd (eO HI1.o hb3);have hs7:w.heap.size+1+1<(w2).heap.size:=HB3.o.k2.lt;have hne:w2.heap.size≠V0.heap.size:=ahm kW.o.lt;refine hK.out _ _ (HB4.o.held) (fun hHeld=> ?_);clear hK K
   try simp only[afl,siA,szA,ssA]
   generalize hW3:afZ (w2) (Yk #[Yp Y1 0 0] 132)=w3 at*;refine ahv (rs:=[6]) (by kernel_rfl) (by simp) ?_;refine(ahj rfl (fun K hK=> ?_) ahk)
   go_simp
   refine(HOE.o _ HB4.o.low).mono ?_;rintro x w4 ⟨hb4,y2,rfl,hown2⟩;obtain⟨j1,j2,rfl⟩:=ai hown2;have HB5:=hd (HB4.o.below hb4);have kY:=HA7;have HA7:=hd (HA7.o.below hb4 HA7.o.lt);have kW:=HA8;have HA8:=hd (HA8.o.below hb4 HA8.o.lt);have HI1:=hd (eO HI1.o hb4);have HI2:=hd (afw hown2 HB4.o.k2.lt);refine hK.out _ _ (HB5.o.held) (fun hHeld=> ?_);clear hK K
   try simp only[afl,siA,szA,ssA]
   generalize w2.heap.size=a7 at*;generalize V0.heap.size=a8 at*;rotate_left
   go_simp
   have hb2:aaS (w1).heap.size (w1) (afZ (w1) (Yk #[Yp Y1 0 0] 132)):=by go_grown
   have HA7:=hd (ae.new (w1) #[Yp Y1 0 0] 132);have HB3:=hd (HB2.o.below hb2);have kW:=HA8;have HA8:=hd (HA8.o.below hb2 HA8.o.lt);have hs7:w.heap.size+1+1<(w1).heap.size:=HB2.o.k2.lt;have hne:w1.heap.size≠V0.heap.size:=ahm kW.o.lt;refine hK.out _ _ (HB3.o.held) (fun hHeld=> ?_);clear hK K
   try simp only[afl,siA,szA,ssA]
   generalize hW2:afZ (w1) (Yk #[Yp Y1 0 0] 132)=w2 at*;refine ahv (rs:=[3]) (by kernel_rfl) (by simp) ?_;refine(ahj rfl (fun K hK=> ?_) ahk)
   go_simp
   refine(HIE.o _ HB3.o.low).mono ?_;rintro x w3 ⟨hb3,y1,rfl,hown1⟩;obtain⟨i1,i2,rfl⟩:=ai hown1;have HB4:=hd (HB3.o.below hb3);have kY:=HA7;have HA7:=hd (HA7.o.below hb3 HA7.o.lt);have kW:=HA8;have HA8:=hd (HA8.o.below hb3 HA8.o.lt);have HI1:=hd (afw hown1 HB3.o.k2.lt);refine hK.out _ _ (HB4.o.held) (fun hHeld=> ?_);clear hK K
   try simp only[afl,siA,szA,ssA]
   refine ahv (rs:=[6]) (by kernel_rfl) (by simp) ?_;refine(ahj rfl (fun K hK=> ?_) ahk)
   go_simp
   refine(HOE.o _ HB4.o.low).mono ?_;rintro x w4 ⟨hb4,y2,rfl,hown2⟩;obtain⟨j1,j2,rfl⟩:=ai hown2;have HB5:=hd (HB4.o.below hb4);have kY:=HA7;have HA7:=hd (HA7.o.below hb4 HA7.o.lt);have kW:=HA8;have HA8:=hd (HA8.o.below hb4 HA8.o.lt);have HI1:=hd (eO HI1.o hb4);have HI2:=hd (afw hown2 HB4.o.k2.lt);refine hK.out _ _ (HB5.o.held) (fun hHeld=> ?_);clear hK K
   try simp only[afl,siA,szA,ssA]
   generalize w1.heap.size=a7 at*;generalize V0.heap.size=a8 at*;rotate_left
   all_goals
    have hsz:=HB5.o.k2.lt;have g7:w.heap.size+1+1<a7:=hs7;have g8:w.heap.size+1+1<a8:=hs8;have g78:a7≠a8:=hne;have f7:=HA7.o.free 0;have c7:=HA7.o.d1;have l7:=HA7.o.lt;refine ahv (rs:=[9]) (by kernel_rfl) (by simp) ?_;refine ahj rfl (fun K hK=> ?_) ahk
    go_simp
    have HB8:=hd (HB5.o.set (i:=0) (x:=Yp i1 (ahh cs l).length i2) g7);have HC7:=hd (ae.set1 (u:=Yp Y1 0 0) (v:=Yp i1 (ahh cs l).length i2) HA7.o);have HC8:=hd (HA8.o.far ⟨a7,0,Y1⟩ (Yp i1 (ahh cs l).length i2) (by show a7≠a8;exact g78));have HJ1:=hd (rZ (x:=Yp i1 (ahh cs l).length i2) HI1.o HA7.o (by decide));have HJ2:=hd (rZ (x:=Yp i1 (ahh cs l).length i2) HI2.o HA7.o (by decide));refine hK.out _ _ (HB8.o.held) (fun hHeld=> ?_);clear hK K
    try simp only[afl,siA,szA,ssA]
    generalize w4.setCell ⟨a7,0,Y1⟩ (Yp i1 (ahh cs l).length i2)=y8 at*;have f8:=HC8.o.free 0;have c8:=HC8.o.d1;have l8:=HC8.o.lt;refine ahv (rs:=[10]) (by kernel_rfl) (by simp) ?_;refine ahj rfl (fun K hK=> ?_) ahk
    go_simp
    have HB9:=hd (HB8.o.set (i:=0) (x:=Yp j1 os.length j2) g8);have HD8:=hd (ae.set1 (u:=Yp Y1 0 0) (v:=Yp j1 os.length j2) HC8.o);have HD7:=hd (HC7.o.far ⟨a8,0,Y1⟩ (Yp j1 os.length j2) (by show a8≠a7;exact g78.symm));have HL1:=hd (rZ (x:=Yp j1 os.length j2) HJ1.o HC8.o (by decide));have HL2:=hd (rZ (x:=Yp j1 os.length j2) HJ2.o HC8.o (by decide));refine hK.out _ _ (HB9.o.held) (fun hHeld=> ?_);clear hK K;refine wpAnyH_done (by kernel_rfl) ?_ _;simp only[Qd];go_wp2_with fail;go_meet;exact⟨a7,a8,Yp i1 (ahh cs l).length i2,Yp j1 os.length j2,rfl,rfl,HB9.o.low,HB9.o.k0,HB9.o.k1,HB9.o.k2,HD7.o,HD8.o,HL1.o,by rw[aeB];exact HL2.o,g7,g8,g78⟩
  case rest=>
   obtain⟨b5,b6,iv,xv,rfl,rfl,hS⟩:=hcut;refine hK _ _ ?_;clear hK K HK0 HK1 HK2 HB0 v0 v1 v2 hv0 hv1 hv2 HIE HOE;have HS:=hd hS;clear hS;have HT1:=hd (HT.o.below HS.o.low)
   refine fV fun K hK=> ?_
   have d0:=HS.o.k0.d1;have d1:=HS.o.k1.cell 2;have d5:=HS.o.k5.d1;have d6:=HS.o.k6.d1;have dp:=(HT1.o.blk.cell 0).trans (show _=Y2 sv from rfl);simp at d1;refine Code.wp_mono (Q:=Qd K _) Dl ?_;refine wp_region_held_drew (S:=fun w'=>w'.cell? ⟨w.heap.size,0,Y1⟩=Y2 (Ym (Y2 ⟨p,0,Y1⟩))/\w'.cell? ⟨w.heap.size+1,2,Y1⟩=Y2 wt/\w'.cell? ⟨b5,0,Y1⟩=Y2 iv/\w'.cell? ⟨b6,0,Y1⟩=Y2 xv/\w'.cell? ⟨p,0,Y1⟩=Y2 sv) (by kernel_rfl) ⟨d0,d1,d5,d6,dp⟩ (fun hHeld=> ?_);refine pU 0 (Ym (Y2 ⟨p,0,Y1⟩)) ?_ ?_
   · intro w hSw
     try dsimp only at hSw
     go_simp
   simp only[afl,siA,szA,ssA];refine pU 1 (Ym (Y2 ⟨p,0,Y1⟩)) ?_ ?_
   · intro w hSw
     try dsimp only at hSw
     go_simp
   simp only[afl,siA,szA,ssA];refine pU 2 (Ym (Y2 ⟨p,0,Y1⟩)) ?_ ?_
   · intro w hSw
     try dsimp only at hSw
     go_simp
   simp only[afl,siA,szA,ssA];refine pU 3 sv ?_ ?_
   · intro w hSw
     try dsimp only at hSw
     go_simp
   simp only[afl,siA,szA,ssA];refine pU 4 iv ?_ ?_
   · intro w hSw
     try dsimp only at hSw
     go_simp
   simp only[afl,siA,szA,ssA];refine pU 6 (Ym (Y2 ⟨w.heap.size+1,2,Y1⟩)) ?_ ?_
   · intro w hSw
     try dsimp only at hSw
     go_simp
   simp only[afl,siA,szA,ssA];refine pU 7 wt ?_ ?_
   · intro w hSw
     try dsimp only at hSw
     go_simp
   simp only[afl,siA,szA,ssA];refine pU 9 xv ?_ ?_
   · intro w hSw
     try dsimp only at hSw
     go_simp
   simp only[afl,siA,szA,ssA];have hlI:=HIL.o.1
   have hlO:(os.map agx).length<=1000000:=by rw[aeB];omega
   refine ahv (rs:=[5]) (by kernel_rfl) (by simp) ?_;refine ahj rfl (fun K hK=> ?_) ahk
   go_simp
   refine(show aaT Zc 93 #[iv,Yg Yh 0] (abA wc) _ from Tb.wC (ahh cs l) 0 hlI iv (abA wc) (afw HS.o.o5 (aeR _))).mono ?_;rintro x w1 ⟨hb1,y1,rfl,hown1⟩;obtain⟨y1a,y1c,rfl⟩:=ai hown1;have HS1:=hd (HS.o.below ((Zh _ wc).drew.trans hb1));have HT2:=hd (HT.o.below HS1.o.low);have e0:=HS1.o.k0.d1;have e1:=HS1.o.k1.cell 2;have e5:=HS1.o.k5.d1;have e6:=HS1.o.k6.d1;have ep:=(HT2.o.blk.cell 0).trans (show _=Y2 sv from rfl);simp at e1;have HO1:=hd hown1;clear hb1 hown1;refine hK.out _ _ ⟨e0,e1,e5,e6,ep⟩ (fun hHeld=> ?_);clear hK K
   try simp only[afl,siA,szA,ssA]
   refine ahv (rs:=[8]) (by kernel_rfl) (by simp) ?_;refine ahj rfl (fun K hK=> ?_) ahk
   go_simp
   have hwh:=Tb.AQ o w1;rw[HWT.o]at hwh;refine hwh.mono ?_;rintro x w2 ⟨hb2,y2,rfl,hown2⟩;obtain⟨y2a,y2c,rfl⟩:=ai hown2;have HS2:=hd (HS1.o.below hb2);have HT3:=hd (HT.o.below HS2.o.low);have f0:=HS2.o.k0.d1;have f1:=HS2.o.k1.cell 2;have f5:=HS2.o.k5.d1;have f6:=HS2.o.k6.d1;have fp:=(HT3.o.blk.cell 0).trans (show _=Y2 sv from rfl);simp at f1;have HO2:=hd hown2;have VW:=hd (eO HO1.o hb2);clear hb2 hown2 hwh;refine hK.out _ _ ⟨f0,f1,f5,f6,fp⟩ (fun hHeld=> ?_);clear hK K
   try simp only[afl,siA,szA,ssA]
   refine ahv (rs:=[10]) (by kernel_rfl) (by simp) ?_;refine ahj rfl (fun K hK=> ?_) ahk
   go_simp
   have hdo:=Tb.wC (os.map agx) 0 hlO xv w2 (afw (by simpa using HS2.o.o6) (aeR _));rw[aeB]at hdo;refine(show aaT Zc 93 #[xv,Yg Yh 0] w2 _ from hdo).mono ?_;rintro x w3 ⟨hb3,y3,rfl,hown3⟩;obtain⟨y3a,y3c,rfl⟩:=ai hown3;have HS3:=hd (HS2.o.below hb3);have HT4:=hd (HT.o.below HS3.o.low);have g0:=HS3.o.k0.d1;have g1:=HS3.o.k1.cell 2;have g5:=HS3.o.k5.d1;have g6:=HS3.o.k6.d1;have gp:=(HT4.o.blk.cell 0).trans (show _=Y2 sv from rfl);simp at g1;have HO3:=hd hown3;have Vo:=hd (eO HO2.o hb3);have UL:=hd (eO VW.o hb3);clear hb3 hown3 hdo;refine hK.out _ _ ⟨g0,g1,g5,g6,gp⟩ (fun hHeld=> ?_);clear hK K
   try simp only[afl,siA,szA,ssA]
   refine ahv (rs:=[11]) (by kernel_rfl) (by simp) ?_;refine ahj rfl (fun K hK=> ?_) ahk
   go_simp
   have HW4:Yf (aaS w3.heap.size w3 (w3.alloc (Yk #[Yp y1a (ahh cs l).length y1c,Yp y2a (ahn o).length y2c,Yp y3a os.length y3c] 172))):=by show aaS _ _ _;go_grown
   have HBL:=hd (ae.new w3 #[Yp y1a (ahh cs l).length y1c,Yp y2a (ahn o).length y2c,Yp y3a os.length y3c] 172);have HS4:=hd (HS3.o.below HW4.o);have HT5:=hd (HT.o.below HS4.o.low);have h0:=HS4.o.k0.d1;have h1:=HS4.o.k1.cell 2;have h5:=HS4.o.k5.d1;have h6:=HS4.o.k6.d1;have hp:=(HT5.o.blk.cell 0).trans (show _=Y2 sv from rfl);simp at h1;refine hK.out _ _ ⟨h0,h1,h5,h6,hp⟩ (fun hHeld=> ?_);clear hK K
   try simp only[afl,siA,szA,ssA]
   refine ahv (rs:=[12]) (by kernel_rfl) (by simp) ?_;refine ahj rfl (fun K hK=> ?_) ahk
   go_simp
   have HDW:Yf ((ahn o).length<=1):=by show _<=_;cases o<;>simp[ahn]
   have HCC:=hd (Tb.GL [Yp y1a (ahh cs l).length y1c,Yp y2a (ahn o).length y2c,Yp y3a os.length y3c] [(ahh cs l).length,(ahn o).length,os.length] [((ahh cs l).map fun e=>(e,0)).flatMap aho,(ahn o).flatMap aho,((os.map agx).map fun e=>(e,0)).flatMap aho] rfl rfl rfl (by have:=HIL.o.2;simp only[ahp,ahq];omega) (by have:=HDW.o;have:=Tb.JP hc1 hlen;have:=Tb.Uf hc1 l;simp only[ahp,ahq];omega) w3.heap.size 3 (w3.alloc (Yk #[Yp y1a (ahh cs l).length y1c,Yp y2a (ahn o).length y2c,Yp y3a os.length y3c] 172)) HBL.o.lt (fun k h=>by
    match k,h with
    |0,_=>exact(HBL.o.cell 0)
    |1,_=>exact(HBL.o.cell 1)
    |2,_=>exact(HBL.o.cell 2)) (fun k h=>by
    match k,h with
    |0,_=>exact afw (eO UL.o HW4.o) (aeR _)
    |1,_=>exact afw (eO Vo.o HW4.o) (aeR _)
    |2,_=>exact afw (eO HO3.o HW4.o) (aeR _)) (fun xs hxs u hu=>by
    simp only[aeQ,List.not_mem_nil,or_false]at hxs
    rcases hxs with rfl|rfl|rfl<;>exact Tb.Oo hu))
   refine HCC.o.mono ?_;rintro x w5 ⟨hb5,y5,rfl,hown5⟩;obtain⟨y5a,y5c,rfl⟩:=ai hown5;have HS5:=hd (HS4.o.below hb5);have HT6:=hd (HT.o.below HS5.o.low);have i0:=HS5.o.k0.d1;have i1:=HS5.o.k1.cell 2;have i5:=HS5.o.k5.d1;have i6:=HS5.o.k6.d1;have ip:=(HT6.o.blk.cell 0).trans (show _=Y2 sv from rfl);simp at i1
   have HO5:Yf (w5.ownsRow 0 191 2 (Yp y5a ((ahh cs l).length+((ahn o).length+os.length)) y5c) (ahg cs l o os).length ((ahg cs l o os).flatMap aho)):=by show aaO _ _ _ _ _ _ _;have h:=afw (Tb.NB hown5) (aeR _);simpa using h
   clear hb5 hown5 HCC;refine hK.out _ _ ⟨i0,i1,i5,i6,ip⟩ (fun hHeld=> ?_);clear hK K
   try simp only[afl,siA,szA,ssA]
   refine ahv (rs:=[13]) (by kernel_rfl) (by simp) ?_;refine ahj rfl (fun K hK=> ?_) ahk
   go_simp
   have HCK:=hd (Tb.vg cs HO.o.cols sv (ahg cs l o os) HDO.o (by unfold ahg;simp only[aaN,aeB];have:=HDW.o;have:=Tb.Uf hc1 l;omega) _ w5 HT6.o.cols HO5.o);refine HCK.o.mono ?_;rintro x w6 ⟨hb6,hx6⟩;have HS6:=hd (HS5.o.below hb6);rcases hck:Mg.bJ cs (ahg cs l o os)with c|un
   · rw[hck]at hx6;obtain rfl:=hx6;exact⟨rfl,HS6.o.low,by rw[hck];rfl⟩
   rw[hck]at hx6;obtain rfl:=hx6;have Aw:=hd hck;have HT7:=hd (HT.o.below HS6.o.low);have j0:=HS6.o.k0.d1;have j1:=HS6.o.k1.cell 2;have j5:=HS6.o.k5.d1;have j6:=HS6.o.k6.d1;have jp:=(HT7.o.blk.cell 0).trans (show _=Y2 sv from rfl);simp at j1;clear hb6 hck HCK;refine hK.out _ _ ⟨j0,j1,j5,j6,jp⟩ (fun hHeld=> ?_);clear hK K;refine wpAnyH_done (by kernel_rfl) ?_ _;refine hK _ _ ?_;have HS7:=hd (HS6.o.below ((Zh _ w6).alloc (nlr _) (Yk #[Yp Y1 0 0] 193)));have HK7:=hd (ae.new w6 #[Yp Y1 0 0] 193);clear HS HS1 HS2 HS3 HS4 HS5 HT1 HT2 HT3 HT4 HT5 HT6 HT7 HO1 HO2 HO3 VW UL Vo HO5 HW4 HBL HDW d0 d1 d5 d6 dp e0 e1 e5 e6 ep f0 f1 f5 f6 fp g0 g1 g5 g6 gp h0 h1 h5 h6 hp i0 i1 i5 i6 ip j0 j1 j5 j6 jp hHeld
   refine fV fun K hK=> ?_
   go_wp2_with fail;have HLT:Yf (w.heap.size+1+1<w6.heap.size/\b5<w6.heap.size/\b6<w6.heap.size/\w.heap.size<=w6.heap.size/\(∀g∈own iv,g<w6.heap.size)/\∀g∈own xv,g<w6.heap.size):=⟨HS6.o.k2.lt,HS6.o.k5.lt,HS6.o.k6.lt,HS6.o.low.size,aQ HS6.o.o5,aQ HS6.o.o6⟩;generalize hV4:w6.alloc (Yk #[Yp Y1 0 0] 193)=V4 at*
   have HV4:Yf (V4.heap.size=w6.heap.size+1):=by rw[<-hV4];exact ZC _ _
   generalize hb7:w6.heap.size=b7 at*;refine Bw ?_
   refine fV fun K hK=> ?_
   have d0:=HS7.o.k0.d1;have d1:=HS7.o.k1.cell 2;simp at d1;have hl0:=HS7.o.k0.lt;have hl1:=HS7.o.k1.lt;go_wp2_with fail;have hch:=Bd (Y2 ⟨p,0,Y1⟩) o V4;rw[HWT.o]at hch;refine hch.mono ?_;rintro x w4 ⟨rfl,rfl⟩;clear hch;go_wp2_with fail
   have hbb:aaS V4.heap.size V4 ((V4.alloc (Yk #[Ym (Y2 ⟨p,0,Y1⟩)] 94)).alloc (Yk #[wt] 98)):=by go_grown
   have HS8:=hd (HS7.o.below hbb);have HK8:=hd (HK7.o.below hbb HK7.o.lt);have HT0:=hd ((ae.new V4 #[Ym (Y2 ⟨p,0,Y1⟩)] 94).alloc (Yk #[wt] 98));have HTW:Yf (ae ((V4.alloc (Yk #[Ym (Y2 ⟨p,0,Y1⟩)] 94)).alloc (Yk #[wt] 98)) (V4.heap.size+1) #[wt] 98):=ae.UY (by simp)
   have h54:V4.heap.size+2=((V4.alloc (Yk #[Ym (Y2 ⟨p,0,Y1⟩)] 94)).alloc (Yk #[wt] 98)).heap.size:=by simp
   clear hbb HS7 HK7 hV4 hb7 d0 d1 hl0 hl1 HS6;generalize (V4.alloc (Yk #[Ym (Y2 ⟨p,0,Y1⟩)] 94)).alloc (Yk #[wt] 98)=V5 at*;refine qR (og (n:=0) (gf:=151) (lb:=#[Ym (Y2 ⟨V4.heap.size,0,Y1⟩),Ym (Y2 ⟨V4.heap.size+1,0,Y1⟩)]) rfl (enters_of Tryz.func151 (by kernel_rfl) rfl) ?_);intro W1 hrec hdef hb1 hs1;have uZ:=hd hrec;have FP:=hd hdef;have HB1:=hd hb1;have HS9:=hd (HS8.o.below hb1);clear hrec hdef;have hk8:=HK8.o.lt;show CallsIn Fence.wide (0-1) Zc 151 #[.func (.yield (V5.heap.size+1)) #[] #[],Ym (Y2 ⟨V4.heap.size,0,Y1⟩),Ym (Y2 ⟨V4.heap.size+1,0,Y1⟩)] W1 _
   skip
   have hv4:=HV4.o;have hlt:=HLT.o
   have KS:b7<W1.heap.size:=by omega
   have HTB:=hd (HT.o.below HS9.o.low);have hrise:=HO.o.rise;have HMP:=hd (AL hrise HTB.o.bz fun m hm=>hm);have HLW:Yf (w.heap.size+1+1<W1.heap.size/\b5<W1.heap.size/\b6<W1.heap.size/\(∀g∈own iv,g<W1.heap.size)/\∀g∈own xv,g<W1.heap.size):=⟨by omega,by omega,by omega,fun g hg=>ahr (hlt.2.2.2.2.1 g hg) KS,fun g hg=>ahr (hlt.2.2.2.2.2 g hg) KS⟩
   have HPE:Yf (∀dd∈ahg cs l o os,dd.1.ok 2000/\acm cs dd.1=true/\∃t,acD cs dd.1=.ok t):=fun dd hdd=>by
    obtain⟨q1,t,q2,_⟩:=Mg.lJ Aw.o dd hdd;exact⟨HDO.o dd hdd,q1,t,q2⟩
   have HOO:Yf (∀e,o=Y2 e->e.ok 2000/\acm cs e=true/\∃t,acD cs e=.ok t):=fun e he=>HPE.o (e,3) (by subst he;simp[ahg,ahn])
   have HOI:Yf (∀e∈ahh cs l,e.ok 2000/\acm cs e=true/\∃t,acD cs e=.ok t):=fun e he=>HPE.o (e,0) (ahf _ (ahf _ (List.mem_map.2 ⟨e,he,rfl⟩)))
   have HOR:Yf (∀e∈os.map agx,e.ok 2000/\acm cs e=true/\∃t,acD cs e=.ok t):=fun e he=>HPE.o (e,0) (aec _ (List.mem_map.2 ⟨e,he,rfl⟩))
   have HRW:Yf (∀e∈L,Mn.fI W1 e.2 (rowOf M e)/\Mg.jB cs (rowOf M e)):=fun e he=>by
    obtain⟨m,hm,q1,q2⟩:=HTB.o.bz.mem e he;rw[rP hrise hm q1];exact⟨q2,HO.o.rows m hm⟩
   refine(vK (0-1) (V5.heap.size+1) V4.heap.size (V4.heap.size+1) p cs HO.o.cols sv o HOO.o (rowOf M) L (V4.heap.size::(V4.heap.size+1)::p::(F++R))
     (fun Q C W=>∃fs fv es,C=own fv/\Fg w W1 W p #[Yp va l.length vc,.string tn,wt,Yp ua os.length uc,.bool lb,Yg Yh (ln:Nat)] b5 b6 b7 iv xv (ahh cs l) (os.map agx) cs o (Q.map (rowOf M)) fs fv es 0)
     (fun c W=>∃k,Mg.aG cs (ahh cs l) (os.map agx) o (M.map agU)=.error k/\lL 0 k=.panicked c/\aaS w.heap.size w W/\W1.heap.size<=W.heap.size/\W.heap[V5.heap.size]? =W1.heap[V5.heap.size]?) W1
     ⟨?gm,?gl,?ga,?gk,HTB.o.bz.kT,?yield,?gs,?ge,?gx⟩ (by omega) ((hb1.cell (p:=⟨V4.heap.size,0,Y1⟩) HT0.o.lt).trans ((HT0.o.cell 0).trans rfl)) (by omega) (by rw[HWT.o];exact(hb1.cell (p:=⟨V4.heap.size+1,0,Y1⟩) HTW.o.lt).trans ((HTW.o.cell 0).trans rfl)) d (if d=0 then 0 else 1) 6 ve vk F (by omega) (by by_cases h:d=0;exact .inl h;right;simp[h]) HTB.o.root HTB.o.blk.lt ((HTB.o.blk.cell 0).trans rfl) ((HTB.o.blk.cell 1).trans rfl) ((HTB.o.blk.cell 2).trans rfl) HTB.o.cols HRW.o ⟨by simp,by simp,by simp,fun k hk=>by simp[hk],fun g hg=>by simp[HTB.o.colr g hg],fun e he g hg=>by simp[HTB.o.rows e he g hg]⟩ ?start).mono ?after
   case start=>exact⟨[],Yp Y1 0 0,[],rfl,HS9.o,HK8.o.below hb1 (by omega),adi _ _ _ _,rfl,fun j h1=>by simp at h1,rfl,nlr _,fun k _ _ _=>rfl⟩
   case gm=>
    rintro Q C W W' ⟨fs,fv,es,hC,hF⟩ hb;exact⟨fs,fv,es,hC,hF.below hb⟩
   case gl=>
    rintro Q C W ⟨fs,fv,es,rfl,hF⟩ k hk;exact Tb.ky hF.ow k hk
   case ga=>
    rintro Q C W W' ⟨fs,fv,es,hC,hF⟩ ha;exact⟨fs,fv,es,hC,hF.apart HLW.o KS ha⟩
   case gk=>
    rintro Q C W ⟨fs,fv,es,hC,hF⟩;refine⟨hF.size,fun k hk=> ?_⟩;simp only[aeQ]at hk;rcases hk with rfl|rfl|hk
    · exact hF.kept _ (by omega) (by omega) (by omega)
    · exact hF.kept _ (by omega) (by omega) (by omega)
    have hkl:k<w.heap.size:=HT.o.lt k (by simpa using hk);rw[hF.sg.low.block k hkl,HS9.o.low.block k hkl]
   case gs=>
    rintro Q e S hQ hch C W ⟨fs,fv,es,hC,hF⟩;refine⟨fs,fv,es,hC,hF.sg,hF.k7,hF.ow,hF.len,hF.cells,?_,hF.size,hF.kept⟩;rw[aev];exact Mg.Hw hF.found hch
   case ge=>
    rintro Q e S c hQ hch C W ⟨fs,fv,es,hC,hF⟩;refine⟨c,?_,rfl,hF.sg.low,hF.size,hF.kept _ (by omega) (by omega) (by omega)⟩;rw[<-HMP.o,<-hQ,aev,YZ];exact ahs hF.found (.inl hch)
   case gx=>
    rintro c W W' ⟨k,h1,h2,h3,h4,h5⟩ ha;exact⟨k,h1,h2,h3.trans (ha.below (by have:=HS9.o.low.size;omega) (by have:=HS9.o.low.size;omega)),YB h4 ha.size,(ha.block _ (.inl (by omega)) (by omega)).trans h5⟩
   case yield=>
    rintro Q e S hQ hch m C W ⟨fs,fv,es,rfl,hF⟩ hs4
    have heL:e∈L:=by rw[<-hQ];simp
    have hrW:=(hF.kept (V5.heap.size+1) (by omega) (by omega) (by omega)).trans uZ.o;have hdW:=hF.kept V5.heap.size (by omega) (by omega) (by omega);obtain⟨z,ra,rn,rc,hez⟩:=HTB.o.bz.kT e heL;obtain⟨hrv,QF⟩:=HRW.o e heL;have HQ:=hd (hQ);have HCH:=hd hch;refine⟨_,_,_,_,run_yield hrW rfl,vE trivial ⟨_,ahi⟩ ?_⟩;simp only[jk]
    gi_wp2
    refine⟨_,run_beginRound hrW rfl,?_⟩;generalize hW2:W.putObj (V5.heap.size+1) _=W2
    have hs2:W2.heap.size=W.heap.size:=by rw[<-hW2];simp[World.putObj]
    have HR2:Yf (∃r:Loop,W1.heap[V5.heap.size+1]? =Y2 (.loop r)/\r.pending=Y1/\r.state=.ready/\W2.heap[V5.heap.size+1]? =Y2 (.loop {r with state:=.busy})):=⟨_,uZ.o,rfl,rfl,by rw[<-hW2];exact World.putObj_heap_same (by omega)⟩
    have HP:Yf (∀k,k≠V5.heap.size+1->W2.heap[k]? =W.heap[k]?):=fun k hk=>by rw[<-hW2];exact World.putObj_heap_other hk
    have HL7:Yf (w.heap.size+1+1<b7/\b5<b7/\b6<b7/\(∀g∈own iv,g<b7)/\∀g∈own xv,g<b7):=⟨hlt.1,hlt.2.1,hlt.2.2.1,hlt.2.2.2.2.1,hlt.2.2.2.2.2⟩
    have HF2:Yf (Fg w W1 W2 p #[Yp va l.length vc,.string tn,wt,Yp ua os.length uc,.bool lb,Yg Yh (ln:Nat)] b5 b6 b7 iv xv (ahh cs l) (os.map agx) cs o (Q.map (rowOf M)) fs fv es (V5.heap.size+1)):=by
     rw[<-hW2];exact hF.turn HL7.o (by omega) (by omega) _ _ (fun k h1 h2 h3=>(World.putObj_heap_other h3).trans (hF.kept k h1 h2 (by omega)))
    have HTW2:=hd (HT.o.below HF2.o.sg.low)
    have HRV2:Yf (Mn.fI W2 e.2 (rowOf M e)):=hrv.keep (by have:=hF.size;omega) fun g hg=>by
     have hgl:g<w.heap.size:=HT.o.low g (HT.o.rows e heL g hg);rw[HF2.o.sg.low.block g hgl,HS9.o.low.block g hgl]
    have UF:=hd QF;obtain⟨ek,er⟩:=e;injection hez with hz1 hz2;subst hz1 hz2;generalize hrow:rowOf M (Yg Yh z,Yp ra rn rc)=row at*;have Qp:=hd hrow;have e0:=HF2.o.sg.k0.d1;have e5:=HF2.o.sg.k5.d1;have ep:=(HTW2.o.blk.cell 0).trans (show _=Y2 sv from rfl);have g0:=HF2.o.sg.k0.lt;have g5:=HF2.o.sg.k5.lt;have gp:=HTW2.o.blk.lt;have HVL:=hd (Tb.rH cs HO.o.cols row UF.o sv (Yp ra rn rc) (ahh cs l) HOI.o HIL.o.1 iv (abA W2) HTW2.o.cols HRV2.o (afw HF2.o.sg.o5 (aeR _)));clear hrW hF hW2 hrv QF hQ hch hrow
    gi_wp2
    gi_cut [10]from 41 (fun s10 wx=>∃a ga gc,s10=Yp ga a.length gc/\aht cs row (ahh cs l)=.ok a/\wx.ownsRow W2.heap.size 39 3 (Yp ga a.length gc) a.length (a.flatMap ahu)/\aaS W2.heap.size W2 wx)
    case first=>
     refine sj (S:=fun w'=>w'.cell? ⟨w.heap.size,0,Y1⟩=Y2 (Ym (Y2 ⟨p,0,Y1⟩))/\w'.cell? ⟨p,0,Y1⟩=Y2 sv/\w'.cell? ⟨b5,0,Y1⟩=Y2 iv) (by kernel_rfl) ?hL6 (by kernel_rfl) ?hS6 (fun hHeld=> ?_)
     case hL6=>rintro⟨a,w,h⟩;exact h
     case hS6=>exact⟨e0,ep,e5⟩
     refine pU 0 (Ym (Y2 ⟨p,0,Y1⟩)) ?_ ?_
     · intro w hSw
       try dsimp only at hSw
       go_simp
     simp only[afl,siA,szA,ssA];refine pU 1 (Ym (Y2 ⟨p,0,Y1⟩)) ?_ ?_
     · intro w hSw
       try dsimp only at hSw
       go_simp
     simp only[afl,siA,szA,ssA];refine pU 2 (Ym (Y2 ⟨p,0,Y1⟩)) ?_ ?_
     · intro w hSw
       try dsimp only at hSw
       go_simp
     simp only[afl,siA,szA,ssA];refine pU 3 sv ?_ ?_
     · intro w hSw
       try dsimp only at hSw
       go_simp
     simp only[afl,siA,szA,ssA];refine pU 4 iv ?_ ?_
     · intro w hSw
       try dsimp only at hSw
       go_simp
     simp only[afl,siA,szA,ssA];refine pU 5 (Yp ra rn rc) ?_ ?_
     · intro w hSw
       try dsimp only at hSw
       go_simp
     simp only[afl,siA,szA,ssA];refine ahv (rs:=[6]) (by kernel_rfl) (by simp) ?_;refine ahj rfl (fun K hK=> ?_) ahk
     go_simp
     refine HVL.o.mono ?_;rintro x W3 ⟨hb3,hx⟩;have HB3:Yf (aaS W2.heap.size W2 W3):=((Zh _ W2).drew).trans hb3;have hs3:=HB3.o.size;rcases hva:aht cs row (ahh cs l)with k|a
     · rw[hva]at hx;obtain rfl:=hx;refine⟨rfl,_,⟨?_,?_,fun k hk=> .inl hk⟩,.inr ⟨_,rfl,k,?_,rfl,HF2.o.sg.low.trans (HB3.o.mono HF2.o.sg.low.size),?_,?_⟩⟩
       · omega
       · intro j h1 h2 _;rw[HB3.o.block j (by omega),HP.o j (by omega)]
       · rw[<-HMP.o,<-HQ.o,aev,YZ,Qp.o];exact ahs HF2.o.found (.inr ⟨HCH.o,.inl hva⟩)
       · omega
       rw[HB3.o.block _ (by omega),HP.o _ (by omega),hdW]
     rw[hva]at hx;obtain⟨v3,rfl,hown3⟩:=hx;obtain⟨ga,gc,rfl⟩:=ai hown3;have HO3:=hd hown3;have HVA:=hd hva;have HF3:=hd (HF2.o.below HB3.o);have HTW3:=hd (HT.o.below HF3.o.sg.low);have q0:=HF3.o.sg.k0.d1;have q5:=HF3.o.sg.k5.d1;have qp:=(HTW3.o.blk.cell 0).trans (show _=Y2 sv from rfl);clear hb3 hown3 hva;refine hK.out _ _ ⟨q0,qp,q5⟩ (fun hHeld=> ?_);clear hK K
     try simp only[afl,siA,szA,ssA]
     refine ahv (rs:=[7]) (by kernel_rfl) (by simp) ?_;refine ahj rfl (fun K hK=> ?_) ahk
     go_simp
     refine hK.out _ _ hHeld (fun hHeld=> ?_);clear hK K;refine wpAnyH_done (by kernel_rfl) ?_ _
     gi_wp2
     gi_meet
     exact⟨a,ga,gc,rfl,HVA.o,HO3.o,HB3.o⟩
    case rest=>
     obtain⟨a,ga,gc,rfl,hva,hO3,hb3⟩:=hcut;have HVA:=hd hva;have HO3:=hd hO3;have HB3:=hd hb3;clear hva hO3 hb3 HVL e0 e5 ep g0 g5 gp;have HF3:=hd (HF2.o.below HB3.o);have HTW3:=hd (HT.o.below HF3.o.sg.low);have Xx:=hd (HRV2.o.below HB3.o);have hs3:=HB3.o.size;have e0:=HF3.o.sg.k0.d1;have e6:=HF3.o.sg.k6.d1;have ep:=(HTW3.o.blk.cell 0).trans (show _=Y2 sv from rfl);have e7:=HF3.o.k7.d1;have g7:=HF3.o.k7.lt;obtain⟨fa,fc,rfl⟩:=ai HF3.o.ow
     have WZ:(os.map agx).length<=1000000:=by rw[aeB];omega
     have HVO:=hd (Tb.rH cs HO.o.cols row UF.o sv (Yp ra rn rc) (os.map agx) HOR.o WZ xv (abA wc) HTW3.o.cols Xx.o (afw HF3.o.sg.o6 (aeR _)))
     gi_wp2
     refine sj (S:=fun w'=>w'.cell? ⟨w.heap.size,0,Y1⟩=Y2 (Ym (Y2 ⟨p,0,Y1⟩))/\w'.cell? ⟨p,0,Y1⟩=Y2 sv/\w'.cell? ⟨b6,0,Y1⟩=Y2 xv) (by kernel_rfl) ?hL7 (by kernel_rfl) ?hS7 (fun hHeld=> ?_)
     case hL7=>rintro⟨a,w,h⟩;exact h
     case hS7=>exact⟨e0,ep,e6⟩
     refine pU 1 (Yp ga a.length gc) ?_ ?_
     · intro w hSw
       try dsimp only at hSw
       go_simp
     simp only[afl,siA,szA,ssA];refine pU 2 (Ym (Y2 ⟨p,0,Y1⟩)) ?_ ?_
     · intro w hSw
       try dsimp only at hSw
       go_simp
     simp only[afl,siA,szA,ssA];refine pU 3 (Ym (Y2 ⟨p,0,Y1⟩)) ?_ ?_
     · intro w hSw
       try dsimp only at hSw
       go_simp
     simp only[afl,siA,szA,ssA];refine pU 4 (Ym (Y2 ⟨p,0,Y1⟩)) ?_ ?_
     · intro w hSw
       try dsimp only at hSw
       go_simp
     simp only[afl,siA,szA,ssA];refine pU 5 sv ?_ ?_
     · intro w hSw
       try dsimp only at hSw
       go_simp
     simp only[afl,siA,szA,ssA];refine pU 6 xv ?_ ?_
     · intro w hSw
       try dsimp only at hSw
       go_simp
     simp only[afl,siA,szA,ssA];refine pU 7 (Yp ra rn rc) ?_ ?_
     · intro w hSw
       try dsimp only at hSw
       go_simp
     simp only[afl,siA,szA,ssA];obtain⟨j0,hj,hy0,hy1,hy2⟩:=info_parts Tryz.info195;refine ahv (rs:=[0,8]) (by kernel_rfl) (by simp) ?_;refine ahj rfl (fun K hK=> ?_) (ahj rfl (fun K hK=> ?_) ahk)
     go_simp
     refine hK.out _ _ ⟨e0,ep,e6⟩ (fun hHeld=> ?_);clear hK K
     try simp only[afl,siA,szA,ssA]
     refine ahv (rs:=[8]) (by kernel_rfl) (by simp) ?_;refine ahj rfl (fun K hK=> ?_) ahk
     go_simp
     refine HVO.o.mono ?_;rintro x W4 ⟨hb4,hx⟩;have HB4:Yf (aaS wc.heap.size wc W4):=((Zh _ wc).drew).trans hb4;have Xh:=HB4.o.size;have HF4:=hd (HF3.o.below HB4.o);rcases hvb:aht cs row (os.map agx)with k|b
     · rw[hvb]at hx;obtain rfl:=hx;refine⟨rfl,_,⟨?_,?_,fun k hk=> .inl hk⟩,.inr ⟨_,rfl,k,?_,rfl,HF4.o.sg.low,?_,?_⟩⟩
       · omega
       · intro j h1 h2 _;rw[HB4.o.block j (by omega),HB3.o.block j (by omega),HP.o j (by omega)]
       · rw[<-HMP.o,<-HQ.o,aev,YZ,Qp.o];exact ahs HF2.o.found (.inr ⟨HCH.o,.inr ⟨a,HVA.o,hvb⟩⟩)
       · omega
       rw[HB4.o.block _ (by omega),HB3.o.block _ (by omega),HP.o _ (by omega),hdW]
     rw[hvb]at hx;obtain⟨v4,rfl,jZ⟩:=hx;obtain⟨kb,kc,rfl⟩:=ai jZ;have HO4:=hd (afw jZ (show W1.heap.size+4<=_ by have:wc.heap.size=(abA wc).heap.size:=rfl;omega));have Vw:=hd (afw (eO HO3.o HB4.o) (show W1.heap.size+4<=_ by omega));have HVB:=hd hvb;have HTW4:=hd (HT.o.below HF4.o.sg.low);have x0:=HF4.o.sg.k0.d1;have x6:=HF4.o.sg.k6.d1;have xp:=(HTW4.o.blk.cell 0).trans (show _=Y2 sv from rfl);have x7:=HF4.o.k7.d1;have h7:=HF4.o.k7.lt;clear hb4 jZ hvb;refine hK.out _ _ ⟨x0,xp,x6⟩ (fun hHeld=> ?_);clear hK K
     try simp only[afl,siA,szA,ssA]
     refine pU 9 (Yj #[Yp ga a.length gc,Yp kb b.length kc]) ?_ ?_
     · intro w hSw
       try dsimp only at hSw
       go_simp
     try simp only[afl,siA,szA,ssA]
     refine ahv (rs:=[10]) (by kernel_rfl) (by simp) ?_;refine ahj rfl (fun K hK=> ?_) ahk
     go_simp
     refine hK.out _ _ ⟨gX x0,gX xp,gX x6⟩ (fun hHeld=> ?_);clear hK K
     try simp only[afl,siA,szA,ssA]
     rotate_left
     go_simp
     refine HVO.o.mono ?_;rintro x W4 ⟨hb4,hx⟩;have HB4:Yf (aaS wc.heap.size wc W4):=((Zh _ wc).drew).trans hb4;have Xh:=HB4.o.size;have HF4:=hd (HF3.o.below HB4.o);rcases hvb:aht cs row (os.map agx)with k|b
     · rw[hvb]at hx;obtain rfl:=hx;refine⟨rfl,_,⟨?_,?_,fun k hk=> .inl hk⟩,.inr ⟨_,rfl,k,?_,rfl,HF4.o.sg.low,?_,?_⟩⟩
       · omega
       · intro j h1 h2 _;rw[HB4.o.block j (by omega),HB3.o.block j (by omega),HP.o j (by omega)]
       · rw[<-HMP.o,<-HQ.o,aev,YZ,Qp.o];exact ahs HF2.o.found (.inr ⟨HCH.o,.inr ⟨a,HVA.o,hvb⟩⟩)
       · omega
       rw[HB4.o.block _ (by omega),HB3.o.block _ (by omega),HP.o _ (by omega),hdW]
     rw[hvb]at hx;obtain⟨v4,rfl,jZ⟩:=hx;obtain⟨kb,kc,rfl⟩:=ai jZ;have HO4:=hd (afw jZ (show W1.heap.size+4<=_ by have:wc.heap.size=(abA wc).heap.size:=rfl;omega));have Vw:=hd (afw (eO HO3.o HB4.o) (show W1.heap.size+4<=_ by omega));have HVB:=hd hvb;have HTW4:=hd (HT.o.below HF4.o.sg.low);have x0:=HF4.o.sg.k0.d1;have x6:=HF4.o.sg.k6.d1;have xp:=(HTW4.o.blk.cell 0).trans (show _=Y2 sv from rfl);have x7:=HF4.o.k7.d1;have h7:=HF4.o.k7.lt;clear hb4 jZ hvb;refine hK.out _ _ ⟨x0,xp,x6⟩ (fun hHeld=> ?_);clear hK K
     try simp only[afl,siA,szA,ssA]
     refine pU 9 (Yj #[Yp ga a.length gc,Yp kb b.length kc]) ?_ ?_
     · intro w hSw
       try dsimp only at hSw
       go_simp
     try simp only[afl,siA,szA,ssA]
     refine ahv (rs:=[0,10]) (by kernel_rfl) (by simp) ?_;refine ahj rfl (fun K hK=> ?_) (ahj rfl (fun K hK=> ?_) ahk)
     go_simp
     refine hK.out _ _ ⟨x0,xp,x6⟩ (fun hHeld=> ?_);clear hK K
     try simp only[afl,siA,szA,ssA]
     refine ahv (rs:=[10]) (by kernel_rfl) (by simp) ?_;refine ahj rfl (fun K hK=> ?_) ahk
     go_simp
     refine hK.out _ _ ⟨gX x0,gX xp,gX x6⟩ (fun hHeld=> ?_);clear hK K
     try simp only[afl,siA,szA,ssA]
     rotate_left
     go_simp
     refine hK.out _ _ ⟨gX x0,gX xp,gX x6⟩ (fun hHeld=> ?_);clear hK K
     try simp only[afl,siA,szA,ssA]
     refine ahv (rs:=[0]) (by kernel_rfl) (by simp) ?_;refine ahj rfl (fun K hK=> ?_) ahk
     go_simp
     refine hK.out _ _ hHeld (fun hHeld=> ?_);clear hK K
     try simp only[afl,siA,szA,ssA]
     rotate_left
     all_goals
      refine ahv (rs:=[11]) (by kernel_rfl) (by simp) ?_;refine ahj rfl (fun K hK=> ?_) ahk;rw[if_pos (by rfl)]
      have hel:es.length<=200:=by
       have h1:=Mg.yP HF4.o.found;have h2:=HF4.o.len;have h3:=congrArg aeA HQ.o;have h4:=HTB.o.bz.len;have h5:=HO.o.few;simp at h1 h3;omega
      refine UB _ _ 193 rfl (W1.heap.size+4) 195 j0 (Yj #[Yp Y1 0 0,Yp Y1 0 0]) 2 48 Tryz.underlying193 hj hy0 hy1 hy2 rfl (by decide) (Yp fa es.length fc) es.length (ah es) rfl (HF4.o.ow.alloc _) ⟨W4.heap.size,0,Y1⟩ 1 1 [Yp ga a.length gc,Yp kb b.length kc] rfl rfl (Tb.Cu W4 _ _ _) (by intro u hu;simp at hu;rcases hu with rfl|rfl<;>rfl) (by simp only[maxLen];omega) (by omega) (by simp;omega) ?_;intro v5 w5 hown5 ni FQ;obtain⟨Nv,Pv,hs5,hk5,ND⟩:=HF4.o.mid HLW.o KS ni;have HF5:=hd (HF4.o.add HL7.o KS (r:=row) ni hown5 Vw.o HO4.o (Mg.IX HF4.o.found HCH.o HVA.o HVB.o));obtain⟨va5,vc5,rfl⟩:=ai hown5;have HSG5:=hd Nv;have HK75:=hd Pv;have HK5:=hd hk5;have TI:=hd ND;have Uq:=hd FQ;have HOW5:=hd hown5;have HT5:=hd (HT.o.below Nv.low);have z0:=Nv.k0.d1;have z6:=Nv.k6.d1;have zp:=(HT5.o.blk.cell 0).trans (show _=Y2 sv from rfl);have z7:=Pv.d1;have zf:=Pv.free 0;have zl:=Pv.lt;clear Nv Pv hk5 ND FQ hown5 ni;refine hK.out _ _ ⟨z0,zp,z6⟩ (fun hHeld=> ?_);clear hK K
      try simp only[afl,siA,szA,ssA]
      refine ahv (rs:=[12]) (by kernel_rfl) (by simp) ?_;refine ahj rfl (fun K hK=> ?_) ahk
      go_simp
      have hpw:p<w.heap.size:=hp;refine hK.out _ _ ⟨cell_far (by show b7≠w.heap.size;omega) z0,cell_far (by show b7≠p;omega) zp,cell_far (by show b7≠b6;omega) z6⟩ (fun hHeld=> ?_);clear hK K;refine wpAnyH_done (by kernel_rfl) ?_ _;obtain⟨r,hr1,hp1,Tm,hr2⟩:=HR2.o
      have hnv:V5.heap.size+1∉own (Yp fa es.length fc):=fun hx=>by have:=TI.o _ hx;omega
      have hr4:(w5.setCell ⟨b7,0,Y1⟩ (Yp va5 (es.length+1) vc5)).heap[V5.heap.size+1]? =Y2 (.loop {r with state:=.busy}):=by
       rw[Zb _ _ _ _ (by show V5.heap.size+1≠b7;omega),HK5.o _ (by omega) hnv,HB4.o.block _ (by omega),HB3.o.block _ (by omega),hr2]
      refine⟨_,_,run_endRound Y1 hr4,own (Yp va5 (es.length+1) vc5),⟨?_,?_,?_⟩,.inl ⟨rfl,fs++[(a,b)],Yp va5 (es.length+1) vc5,es++[(Yp ga a.length gc,Yp kb b.length kc)],rfl,?_⟩⟩
      · simp[World.putObj];omega
      · intro j h1 h2 h3;rw[World.putObj_heap_other (by omega),Zb _ _ _ _ (by show j≠b7;omega),HK5.o j (by omega) h3,HB4.o.block j (by omega),HB3.o.block j (by omega),HP.o j (by omega)]
      · intro k hk;rcases Uq.o k hk with h|h
        · exact .inl h
        rw[ZC]at h;right;omega
      rw[aev,YZ,List.map_nil,Qp.o];refine HF5.o.turn HL7.o (by omega) (by omega) _ 0 (fun k h1 h2 h3=> ?_);by_cases hkn:k=V5.heap.size+1
      · subst hkn;rw[World.putObj_heap_same (by simp;omega),hr1]
        cases r
        cases hp1
        cases Tm
        rfl
      rw[World.putObj_heap_other hkn];exact HF5.o.kept k h1 h2 hkn
   case after=>
    rintro e0 W' h0;clear HK8 HT0 HTW HS8;rcases h0 with⟨rfl,C,fs,fv,es,rfl,hF⟩|⟨c,rfl,k,hk,SS,hlow,hsz,PI⟩
    · have HF:=hd hF;clear hF;have hlt:=HLT.o;have hr2:=(HF.o.kept (V5.heap.size+1) (by omega) (by omega) (by omega)).trans uZ.o;have hd2:=(HF.o.kept V5.heap.size (by omega) (by omega) (by omega)).trans FP.o;refine⟨_,_,run_endLoop hr2 (by simp[jk]),?_⟩
      have ht8:=fun(ob:Obj)=>HF.o.turn ⟨hlt.1,hlt.2.1,hlt.2.2.1,hlt.2.2.2.2.1,hlt.2.2.2.2.2⟩ (l:=V5.heap.size+1) (by omega) (by omega) ob (V5.heap.size+1) (fun k h1 h2 h3=>(World.putObj_heap_other h3).trans (HF.o.kept k h1 h2 (by omega)))
      generalize hW8:W'.putObj (V5.heap.size+1) _=W8;have HF8:=hd (hW8▸ht8 _)
      have HD8:Yf (W8.heap[V5.heap.size]? =Y2 (.deferred (Y2 []))):=by rw[<-hW8];exact(World.putObj_heap_other (by omega)).trans hd2
      clear ht8 hW8 hr2 hd2 HF;refine JJ (n:=0) (wpIn_wide.2 ?_);have k7:=HF8.o.k7.d1;have l7:=HF8.o.k7.lt;have l1:=HF8.o.sg.k1.lt;go_wp2_with fail
      have VU:es.length<=1000000:=by
       have q1:=(Mg.ji HF8.o.found).1;have q2:=HO.o.few;have q3:=HF8.o.len;rw[HMP.o,aeB]at q1;omega
      have Tf:=HF8.o.X7 (fun r hr=>by obtain⟨e,he,rfl⟩:=List.mem_map.1 hr;exact(HRW.o e he).2) HOR.o;rw[aeB]at Tf;refine(IP os (by omega) (Mg.QU cs (os.map agx)) (w.heap.size+1) (W1.heap.size+4) _ _ _ _ _ _ W8 es fs fv HF8.o.len VU HF8.o.ow HF8.o.sg.k1 (eO HOS.o HF8.o.sg.low) (by omega) (fun g hg=>by have:=aQ HOS.o g hg;omega) Tf).mono ?_;rintro x W9 ⟨rfl,hT9,zs,hz1,hz2,hz3,hz4⟩;have HG:=hd (HF8.o.sorted HLW.o KS (df:=V5.heap.size) (by omega) HD8.o hT9 (fun z hz=>hz2.mem.1 hz) hz4);have HZ1:=hd hz1;have HZ2:=hd hz2;have HZ3:=hd hz3;obtain⟨fao,QL,rfl⟩:=ai HF8.o.ow;have HWD:=hd (Ra HF8.o.found (fun z hz=>hz2.mem.1 hz))
      have HFS:Yf (Mg.aG cs (ahh cs l) (os.map agx) o (M.map agU)=.ok fs):=by have h:=HF8.o.found;rw[HMP.o]at h;exact h
      have HEL:=hd HF8.o.len
      have HKS:Yf (∀z∈zs,∃a n c,z.1.2=Yp a n c):=fun z hz=>by
       obtain⟨j,hj,rfl⟩:=List.mem_iff_getElem.1 (hz2.mem.1 hz);simp only[List.length_zip]at hj;simp only[List.getElem_zip];exact Ki (HF8.o.cells j (by omega) (by omega)).2
      have hcap:es.length<=QL:=Rz HF8.o.ow
      have HFB:Yf (∀g∈own (Yp fao es.length QL),g≠b7):=fun g hg=>by have:=HF8.o.ow.lt g (by simpa[own]using hg);omega
      have HL7:Yf (w.heap.size+1+1<b7/\b5<b7/\b6<b7/\(∀g∈own iv,g<b7)/\∀g∈own xv,g<b7):=⟨hlt.1,hlt.2.1,hlt.2.2.1,hlt.2.2.2.2.1,hlt.2.2.2.2.2⟩;clear hz1 hz2 hz3 hz4 hT9 Tf HF8 HD8;obtain⟨ia,ic,rfl⟩:=ai HG.o.sg.o5;have k4:=HG.o.sg.k1.cell 4;have k5:=HG.o.sg.k5.d1;have k9:=HG.o.sg.k1.cell 5;have k8:=HG.o.k7.d1;have f8:=HG.o.k7.free 0;have m1:=HG.o.sg.k1.lt;have m5:=HG.o.sg.k5.lt;have m7:=HG.o.k7.lt;simp at k4 k9;clear k7 l7 l1;have hil:=HIL.o
      have hb57:b7≠b5:=by have:=HL7.o;omega
      obtain⟨j0,hj,hy0,hy1,hy2⟩:=info_parts Tb.Tryz.info39;have HZS:Yf ((es.zip fs).map agU=fs):=List.map_snd_zip (by have:=HEL.o;omega);clear HEL
      cases lb
      go_wp2_with fail;have hN2:es.length<=1000000:=VU;have hN:zs.length=es.length:=HZ3.o
      have HYX:Yf ((zs.map agU).flatMap agx=zs.flatMap (fun z:(Y3×Y3)×(List abZ×List abZ)=>z.2.1)):=by
       exact(Er agx _).symm
      have HYW:=HWD;have HKY:=HKS;have HGX:=HG;clear k4 k5 k8 k9 f8 m1 m5 m7 HFB HG HWD HKS;obtain⟨WX,rfl⟩:∃x,x=W9:=⟨_,rfl⟩;obtain⟨ys,hys⟩:∃ys,ys=zs:=⟨_,rfl⟩;rw[<-hys]at hN HYW HKY HGX
      have HYX:Yf ((zs.map agU).flatMap agx=ys.flatMap (fun z:(Y3×Y3)×(List abZ×List abZ)=>z.2.1)):=by show _=_;rw[hys];exact HYX.o
      clear hys;generalize es.length=N at*;rotate_left;go_wp2_with fail
      have hmn:(min (ln:Int) (es.length:Int)).toNat=min ln es.length:=by omega
      have hmx:max (min (ln:Int) (es.length:Int)) 0=((min ln es.length:Nat):Int):=by omega
      try simp only[hmx]
      rw[hmn]
      have HKY:Yf (∀z∈zs.take (min ln es.length),∃a n c,z.1.2=Yp a n c):=fun z hz=>HKS.o z (aes hz)
      have hN2:min ln es.length<=1000000:=by omega
      have hN:(zs.take (min ln es.length)).length=min ln es.length:=by rw[adO,HZ3.o];omega
      have HYX:Yf (((zs.map agU).take ln).flatMap agx=(zs.take (min ln es.length)).flatMap (fun z:(Y3×Y3)×(List abZ×List abZ)=>z.2.1)):=by
       show _=_;rw[<-Oy,HZ3.o];exact(Er agx _).symm
      have HYW:Yf (∀z∈zs.take (min ln es.length),z.2.1.length=(ahh cs l).length):=fun z hz=>HWD.o z (aes hz)
      have HGX:=hd (HG.o.cut (min ln es.length) (by have:=HZ3.o;omega) HL7.o (by omega) (by omega) HFB.o)
      have hWX:(W9.setCell ⟨b7,0,Y1⟩ (Yp fao (min ln es.length) QL)).heap.size=W9.heap.size:=by simp
      generalize W9.setCell ⟨b7,0,Y1⟩ (Yp fao (min ln es.length) QL)=WX at*;rw[<-hWX];generalize zs.take (min ln es.length)=ys at*;generalize min ln es.length=N at*;clear k4 k5 k8 k9 f8 m1 m5 m7 HFB HG hmn hmx hWX HWD HKS;rotate_left
      all_goals
       have WS:V5.heap.size<WX.heap.size:=(geA.1 HGX.o.dfr).1;have hlw:=HGX.o.sg.low.size;go_loopw [77] (fun i wr=>∃(k:Nat) (v:Y3),i=Yg Yh k/\k<=N/\Yf (aaS WX.heap.size WX wr)/\Yf (ae wr WX.heap.size #[Yg Yh ((ahh cs l).length:Nat),v,Yg Yh 0] 29)/\Yf (wr.ownsRow (WX.heap.size+1) 39 3 v ((ys.take k).flatMap (fun z:(Y3×Y3)×(List abZ×List abZ)=>z.2.1)).length (((ys.take k).flatMap (fun z:(Y3×Y3)×(List abZ×List abZ)=>z.2.1)).flatMap ahu))) (fun i _=>N-(intOf i).toNat)
       case atStart=>exact⟨0,_,rfl,aeR _,(Zh _ _).alloc (nlr _) _,ae.new _ _ _,adi _ _ _ _⟩
       case round=>
        obtain⟨k,v,rfl,hk,HB,HK,HOv⟩:=hrel;obtain⟨ka,kc,rfl⟩:=ai HOv.o;have HGk:=hd (HGX.o.below HB.o WS);have hks:=HB.o.size;have hkl:=HK.o.lt;by_cases hlt2:k<N
        · have hky:k<ys.length:=by omega
          obtain⟨ao',cap',he,hP⟩:=HGk.o.rows;obtain⟨g,hfg,hgl,c0,c1⟩:=hP k (by simpa using hky);injection he with he1 he2 he3;rw[<-he1]at hfg;have hC:=HGk.o.cells (ys[k]) (acw hky);have hw:=HYW.o (ys[k]) (acw hky);obtain⟨y2a,y2n,y2c,VL⟩:=HKY.o (ys[k]) (acw hky);have HT2:=hd (Lf (fun z:(Y3×Y3)×(List abZ×List abZ)=>z.2.1) ys k hky);simp only[List.getElem_map]at c0 c1
          have hfl:((ys.take k).flatMap (fun z:(Y3×Y3)×(List abZ×List abZ)=>z.2.1)).length<=1000000000000:=by
           have q1:=JW (fun z:(Y3×Y3)×(List abZ×List abZ)=>z.2.1) (ahh cs l).length (ys.take k) (fun z hz=>Nat.le_of_eq (HYW.o z (aes hz)))
           have q2:(ys.take k).length<=1000000:=by rw[adO];omega
           exact YB q1 (YB (Nat.mul_le_mul q2 hil.1) (by decide))
          generalize ys[k]=z at*;obtain⟨⟨z1,z2⟩,c,kk⟩:=z;simp only at c0 c1 hC hw HT2 VL;subst VL;obtain⟨gw,cw,rfl,hge,hgwl,hcw,_,hcell⟩:=Tb.Gl hC (by omega)
          have hcl:c.length<=1000000:=by omega
          clear hw;generalize ((ys.take k).flatMap (fun z:(Y3×Y3)×(List abZ×List abZ)=>z.2.1))=acc at*;have HCL:=hd hcell;clear hcell hC hP he1 he2 he3;subst hfg;have a1:=HK.o.cell 1;simp at a1;have HO2:=hd (HOv.o.alloc (Yk #[Yp (Y2 ⟨gw,0,Y1⟩) c.length cw,Yp y2a y2n y2c] 195));have HB2:=hd (HB.o.alloc HB.o.size (Yk #[Yp (Y2 ⟨gw,0,Y1⟩) c.length cw,Yp y2a y2n y2c] 195));have HK2:=hd (HK.o.alloc (Yk #[Yp (Y2 ⟨gw,0,Y1⟩) c.length cw,Yp y2a y2n y2c] 195));go_wp2_with(first|(at_builtin;refine bR rfl _ _ 27 rfl (WX.heap.size+1) 39 j0 (Yj #[Yg Yh 0,Yg Yh 0,Yi ⟨#[]⟩]) 3 32 Tryz.underlying27 hj hy0 hy1 hy2 rfl (by decide) _ _ _ rfl HO2.o ⟨gw,0,Y1⟩ c.length cw (c.flatMap ahu) rfl (Mg.TN c) ?c1 ?c2 ?c3 ?c4 ?c5 ?_)|fail)
          case c1=>intro j u hu;first|(rw[Addr.add_lit,Ze];exact gX (HCL.o j u hu))|exact HCL.o j u hu
          case c2=>first|exact Oq|(intro u x hx hu;exact Oq u (List.mem_flatMap.2 ⟨x,hx,hu⟩))
          case c3=>simp only[maxLen];omega
          case c4=>omega
          try(case c5=>first|omega|(simp;omega))
          intro v2 w3 hown hgrow _;have hb3:=hgrow.block WX.heap.size (by simp;omega) (fun e=>by have:=(HO2.o.lt _ e.symm).1;omega);have HB3:=hd (Tb.eu HB2.o hgrow (fun k hk=>by have:=(HO2.o.lt k hk).1;omega) HB2.o.size)
          have HK3:Yf (ae w3 WX.heap.size #[Yg Yh ((ahh cs l).length:Nat),Yp ka acc.length kc,Yg Yh 0] 29):=by
           show ae _ _ _ _;have h:=HK2.o;unfold ae at*;rw[hb3];exact h
          obtain⟨va2,vc2,rfl⟩:=ai hown
          have HO3:Yf (w3.ownsRow (WX.heap.size+1) 39 3 (Yp va2 (acc.length+c.length) vc2) (acc++c).length ((acc++c).flatMap ahu)):=by
           show aaO _ _ _ _ _ _ _;rw[aaN,List.flatMap_append];exact hown
          have n1:=HK3.o.cell 1;have f1:=HK3.o.free 1;have n3:=HK3.o.lt;simp at n1;clear hown hgrow hb3 a1;go_wp2_with fail;go_roundw
          case rel=>exact⟨k+1,_,rfl,by omega,HB3.o.setCell (nlr _) _,hd (by simpa using HK3.o.set 1 (Yp va2 (acc.length+c.length) vc2)),by show aaO _ _ _ _ _ _ _;rw[HT2.o];exact aW HO3.o _ (by show WX.heap.size<_;omega)⟩
          case measure=>simp[intOf];omega
        have hkN:k=N:=by omega
        have hTK:ys.take k=ys:=List.take_of_length_le (by omega);generalize hnn:((ys.take k).flatMap (fun z:(Y3×Y3)×(List abZ×List abZ)=>z.2.1)).length=nn at*;rw[hTK]at hnn;have HNN:=hd hnn;clear hnn;have hOf:=HOv.o;rw[hTK]at hOf;have HOF:=hd hOf;clear hOf hTK;obtain⟨c0,c1,c2⟩:=HK.o.d3;obtain⟨d0,d1,d2⟩:=HGk.o.sg.k2.d3;obtain⟨f0,f1,f2⟩:=HGk.o.sg.k2.f3;have l2:=HGk.o.sg.k2.lt;go_wp2_with fail;have K9:=((HGk.o.sg.k2.set 0 (Yg Yh ((ahh cs l).length:Nat))).set 1 (Yp ka nn kc)).set 2 (Yg Yh 0);simp at K9;have VO:=((HGk.o.sg.low.setCell (p:=⟨w.heap.size+1+1,0,Y1⟩) (by show _<=w.heap.size+1+1;omega) (Yg Yh ((ahh cs l).length:Nat))).setCell (p:=⟨w.heap.size+1+1,1,Y1⟩) (by show _<=w.heap.size+1+1;omega) (Yp ka nn kc)).setCell (p:=⟨w.heap.size+1+1,2,Y1⟩) (by show _<=w.heap.size+1+1;omega) (Yg Yh 0);have l2w:=HGX.o.sg.k2.lt;have V8:=aW (aW (aW HOF.o (p:=⟨w.heap.size+1+1,0,Y1⟩) (Yg Yh ((ahh cs l).length:Nat)) (by show w.heap.size+1+1<_;omega)) (p:=⟨w.heap.size+1+1,1,Y1⟩) (Yp ka nn kc) (by show w.heap.size+1+1<_;omega)) (p:=⟨w.heap.size+1+1,2,Y1⟩) (Yg Yh 0) (by show w.heap.size+1+1<_;omega)
        have Tt:V5.heap.size≠w.heap.size+1+1:=by have:=HL7.o.1;omega
        have HDW:(((wr.setCell ⟨w.heap.size+1+1,0,Y1⟩ (Yg Yh ((ahh cs l).length:Nat))).setCell ⟨w.heap.size+1+1,1,Y1⟩ (Yp ka nn kc)).setCell ⟨w.heap.size+1+1,2,Y1⟩ (Yg Yh 0)).heap[V5.heap.size]? =Y2 (.deferred (Y2 [])):=by
         rw[Zb _ _ _ _ (by show V5.heap.size≠w.heap.size+1+1;exact Tt),Zb _ _ _ _ (by show V5.heap.size≠w.heap.size+1+1;exact Tt),Zb _ _ _ _ (by show V5.heap.size≠w.heap.size+1+1;exact Tt)];exact HGk.o.dfr
        generalize ((wr.setCell ⟨w.heap.size+1+1,0,Y1⟩ (Yg Yh ((ahh cs l).length:Nat))).setCell ⟨w.heap.size+1+1,1,Y1⟩ (Yp ka nn kc)).setCell ⟨w.heap.size+1+1,2,Y1⟩ (Yg Yh 0)=WA at*;refine⟨by simp,.inl ⟨_,_,rfl,run_takeDeferred HDW,?_⟩⟩;have hwl9:=VO.size;have hsz9:V5.heap.size<WA.heap.size:=(geA.1 HDW).1;have K10:=K9.below (jQ (o:=.deferred Y1) (nlr V5.heap.size)) (by omega);have LW:=VO.trans ((jQ (o:=.deferred Y1) (nlr V5.heap.size)).mono (by omega));have OW:=Qr V8 (l:=V5.heap.size) (.deferred Y1) (by omega);generalize WA.putObj V5.heap.size (.deferred Y1)=W10 at*;obtain⟨r0,r1,r2⟩:=K10.d3;refine⟨Yj #[Yg Yh ((ahh cs l).length:Nat),Yp ka nn kc,Yg Yh 0],?_,LW,?_⟩
        · simp[aaW,Tryz.results38,go_sem,r0,r1,r2]
        rw[Aw.o];dsimp only;rw[HFS.o];dsimp only;refine⟨zs.map agU,_,So.dR.map (f:=agU) (lt:=fun a b=>decide (Mg.Aa (os.map agU) a b<0)) HZ1.o,?_,rfl,?_⟩
        · have h:=So.eP.map (lt:=fun a b=>decide (Mg.Aa (os.map agU) a b<0)) (Mg.M9 _).swo (f:=agU) HZ2.o;rw[HZS.o]at h;exact h
        first|rw[if_pos rfl,HYX.o,HNN.o]|rw[if_neg (by decide),HYX.o,HNN.o]
        exact afw OW (by omega)
    have hd2:=PI.trans FP.o;refine⟨by simp,.inl ⟨_,_,rfl,run_takeDeferred hd2,?_⟩⟩;have hw1:=HS9.o.low.size;have hlt:=HLT.o;refine⟨hlow.trans (jQ (by omega)),?_⟩;rw[Aw.o];dsimp only;rw[hk];exact SS.symm
end Tw
end
section
namespace Tx
open Tb Tw Bt
theorem K7{tn:Y6}{cs:abS}{M:aN}{lk:Int}(h:kU w b lk p ge ce tn cs M nx F R)(e:Px.E)(lb:Bool)(ln:Nat)(va ua:Option Addr)(vn vc un uc:Nat)(c:Nat)
   (hIN:∀W1,aaS w.heap.size w W1->aaT Zc 38 #[Ym (Y2 ⟨p,0,Y1⟩),Yj #[Yp va vn vc,Yi ⟨tn.toArray⟩,ev? (Y2 e),Yp ua un uc,.bool lb,Yg Yh (ln:Nat)]] W1 fun x W2=>x=lL 0 c/\aaS W1.heap.size W1 W2):
   aaT Zc 22 #[Ym (Y2 ⟨b,2,Y1⟩),Yo 109 (Yj #[Yp va vn vc,Yi ⟨tn.toArray⟩,ev? (Y2 e),Yp ua un uc,.bool lb,Yg Yh (ln:Nat)])] w fun x w'=>x=lL 0 c/\aaS w.heap.size w w':=by
 have htaCreate:=oP (Yp va vn vc) (Yi ⟨tn.toArray⟩) (ev? (Y2 e)) (Yp ua un uc) (.bool lb) (Yg Yh (ln:Nat));have htaDrop:=sQ (Yp va vn vc) (Yi ⟨tn.toArray⟩) (ev? (Y2 e)) (Yp ua un uc) (.bool lb) (Yg Yh (ln:Nat));have htaInsert:=pJ (Yp va vn vc) (Yi ⟨tn.toArray⟩) (ev? (Y2 e)) (Yp ua un uc) (.bool lb) (Yg Yh (ln:Nat));have htaDelete:=pq (Yp va vn vc) (Yi ⟨tn.toArray⟩) (ev? (Y2 e)) (Yp ua un uc) (.bool lb) (Yg Yh (ln:Nat));have htaUpdate:=oh (Yp va vn vc) (Yi ⟨tn.toArray⟩) (ev? (Y2 e)) (Yp ua un uc) (.bool lb) (Yg Yh (ln:Nat));have htaSelect:=pF (Yp va vn vc) (Yi ⟨tn.toArray⟩) (ev? (Y2 e)) (Yp ua un uc) (.bool lb) (Yg Yh (ln:Nat));have HO:=hd h;have hbl:=h.blk.lt;have HIN:=hd hIN
 have HTS:Yf (∀W1,aaS w.heap.size w W1->_):=fun W1 hW=>pY (HO.o.below hW)
 obtain⟨tt,ty,hwc⟩:∃t y,ev? (Y2 e)=Yo t y:=jc e;clear h hIN;generalize ev? (Y2 e)=wt at*;subst hwc;generalize (⟨tn.toArray⟩:ByteArray)=T at*;have hB0:aaS w.heap.size w ((w.alloc (Yk #[Yg Yh 0,Yp Y1 0 0,Yg Yh 0] 29)).alloc (Yk #[Yp va vn vc,.string T,Yo tt ty,Yp ua un uc,.bool lb,Yg Yh (ln:Nat)] 109)):=((Zh _ _).alloc (nlr _) _).alloc (by simp) _;have HKA:=hd ((ae.new w #[Yg Yh 0,Yp Y1 0 0,Yg Yh 0] 29).alloc (Yk #[Yp va vn vc,.string T,Yo tt ty,Yp ua un uc,.bool lb,Yg Yh (ln:Nat)] 109));have HKS:Yf (ae ((w.alloc (Yk #[Yg Yh 0,Yp Y1 0 0,Yg Yh 0] 29)).alloc (Yk #[Yp va vn vc,.string T,Yo tt ty,Yp ua un uc,.bool lb,Yg Yh (ln:Nat)] 109)) (w.heap.size+1) #[Yp va vn vc,.string T,Yo tt ty,Yp ua un uc,.bool lb,Yg Yh (ln:Nat)] 109):=(by have h:=ae.new (w.alloc (Yk #[Yg Yh 0,Yp Y1 0 0,Yg Yh 0] 29)) #[Yp va vn vc,.string T,Yo tt ty,Yp ua un uc,.bool lb,Yg Yh (ln:Nat)] 109;rw[ZC]at h;exact h);have HBV:=hd hB0
 have hsv:((w.alloc (Yk #[Yg Yh 0,Yp Y1 0 0,Yg Yh 0] 29)).alloc (Yk #[Yp va vn vc,.string T,Yo tt ty,Yp ua un uc,.bool lb,Yg Yh (ln:Nat)] 109)).heap.size=w.heap.size+2:=by simp
 clear hB0;go_enter Tryz.func22,Tryz.ntmps22;go_wp2_with fail;generalize ((w.alloc (Yk #[Yg Yh 0,Yp Y1 0 0,Yg Yh 0] 29)).alloc (Yk #[Yp va vn vc,.string T,Yo tt ty,Yp ua un uc,.bool lb,Yg Yh (ln:Nat)] 109))=V at*;have HD:Yf (aaS V.heap.size V (abA V)):=(Zh _ V).drew;have HTB:=hd (HTS.o (abA V) HBV.o.drew);have s0:=HKS.o.cell 0;have s1:=HKS.o.cell 1;have s2:=HKS.o.cell 2;have s3:=HKS.o.cell 3;have s4:=HKS.o.cell 4;have s5:=HKS.o.cell 5;simp at s0 s1 s2 s3 s4 s5;have hl1:=HKS.o.lt;have r0:=HKS.o.drew.cell 0;have r1:=HKS.o.drew.cell 1;have r2:=HKS.o.drew.cell 2;have r3:=HKS.o.drew.cell 3;have r4:=HKS.o.drew.cell 4;have r5:=HKS.o.drew.cell 5;simp at r0 r1 r2 r3 r4 r5;refine wp_region_any (by kernel_rfl) ?_;refine wpAny_take (i:=0) (v:=(Ym (Y2 ⟨b,2,Y1⟩))) rfl (by kernel_rfl) (by kernel_rfl) (by kernel_rfl) (fun _ _ _ h=>h) (Or.inl ⟨by rfl,?_⟩) ?_
 · intro w
   go_simp
 simp only[afl,siA,szA,ssA];refine wpAny_take (i:=1) (v:=(Ym (Y2 ⟨w.heap.size+1,1,Y1⟩))) rfl (by kernel_rfl) (by kernel_rfl) (by kernel_rfl) (fun _ _ _ h=>h) (Or.inl ⟨by rfl,?_⟩) ?_
 · intro w
   go_simp
 simp only[afl,siA,szA,ssA];show wpAny _ _ _ _ _ _ _ (abA V);refine wpAny_ready (rs:=[2,4]) (by kernel_rfl) (by simp) ?_;refine AllReady.cons rfl (fun K hK=> ?_) (AllReady.cons rfl (fun K hK=> ?_) AllReady.nil)
 · go_simp
   refine hK _ _ ?_;clear hK K
   try simp only[afl,siA,szA,ssA]
   refine wpAny_ready (rs:=[3,4]) (by kernel_rfl) (by simp) ?_;refine AllReady.cons rfl (fun K hK=> ?_) (AllReady.cons rfl (fun K hK=> ?_) AllReady.nil)
   · go_simp
     refine HTB.o.mono ?_;rintro x w1 ⟨rfl,hb1⟩;have HB1:Yf (aaS V.heap.size V w1):=HD.o.trans hb1;have K1:=HKS.o.below HB1.o HKS.o.lt;have t0:=K1.cell 0;have t1:=K1.cell 1;have t2:=K1.cell 2;have t3:=K1.cell 3;have t4:=K1.cell 4;have t5:=K1.cell 5;simp at t0 t1 t2 t3 t4 t5;have HI1:=hd (HIN.o w1 (HBV.o.trans (HB1.o.mono HBV.o.size)));have hl3:=K1.lt;clear hb1 K1;refine hK _ _ ?_;clear hK K
     try simp only[afl,siA,szA,ssA]
     refine wpAny_ready (rs:=[4]) (by kernel_rfl) (by simp) ?_;refine AllReady.cons rfl (fun K hK=> ?_) AllReady.nil
     go_simp
     refine hK _ _ ?_;clear hK K
     try simp only[afl,siA,szA,ssA]
     refine wpAny_ready (rs:=[5]) (by kernel_rfl) (by simp) ?_;refine AllReady.cons rfl (fun K hK=> ?_) AllReady.nil
     go_simp
     refine HI1.o.mono ?_;rintro x W2 ⟨rfl,hb2⟩;exact⟨rfl,rfl,HBV.o.trans ((HB1.o.trans (hb2.mono HB1.o.size)).mono HBV.o.size)⟩
   go_simp
   refine hK _ _ ?_;clear hK K
   try simp only[afl,siA,szA,ssA]
   refine wpAny_ready (rs:=[3]) (by kernel_rfl) (by simp) ?_;refine AllReady.cons rfl (fun K hK=> ?_) AllReady.nil
   go_simp
   refine HTB.o.mono ?_;rintro x w1 ⟨rfl,hb1⟩;have HB1:Yf (aaS V.heap.size V w1):=HD.o.trans hb1;have K1:=HKS.o.below HB1.o HKS.o.lt;have t0:=K1.cell 0;have t1:=K1.cell 1;have t2:=K1.cell 2;have t3:=K1.cell 3;have t4:=K1.cell 4;have t5:=K1.cell 5;simp at t0 t1 t2 t3 t4 t5;have HI1:=hd (HIN.o w1 (HBV.o.trans (HB1.o.mono HBV.o.size)));have hl3:=K1.lt;clear hb1 K1;refine hK _ _ ?_;clear hK K
   try simp only[afl,siA,szA,ssA]
   refine wpAny_ready (rs:=[5]) (by kernel_rfl) (by simp) ?_;refine AllReady.cons rfl (fun K hK=> ?_) AllReady.nil
   go_simp
   refine HI1.o.mono ?_;rintro x W2 ⟨rfl,hb2⟩;exact⟨rfl,rfl,HBV.o.trans ((HB1.o.trans (hb2.mono HB1.o.size)).mono HBV.o.size)⟩
 go_simp
 refine hK _ _ ?_;clear hK K
 try simp only[afl,siA,szA,ssA]
 refine wpAny_ready (rs:=[2]) (by kernel_rfl) (by simp) ?_;refine AllReady.cons rfl (fun K hK=> ?_) AllReady.nil
 go_simp
 refine hK _ _ ?_;clear hK K
 try simp only[afl,siA,szA,ssA]
 refine wpAny_ready (rs:=[3]) (by kernel_rfl) (by simp) ?_;refine AllReady.cons rfl (fun K hK=> ?_) AllReady.nil
 go_simp
 refine HTB.o.mono ?_;rintro x w1 ⟨rfl,hb1⟩;have HB1:Yf (aaS V.heap.size V w1):=HD.o.trans hb1;have K1:=HKS.o.below HB1.o HKS.o.lt;have t0:=K1.cell 0;have t1:=K1.cell 1;have t2:=K1.cell 2;have t3:=K1.cell 3;have t4:=K1.cell 4;have t5:=K1.cell 5;simp at t0 t1 t2 t3 t4 t5;have HI1:=hd (HIN.o w1 (HBV.o.trans (HB1.o.mono HBV.o.size)));have hl3:=K1.lt;clear hb1 K1;refine hK _ _ ?_;clear hK K
 try simp only[afl,siA,szA,ssA]
 refine wpAny_ready (rs:=[5]) (by kernel_rfl) (by simp) ?_;refine AllReady.cons rfl (fun K hK=> ?_) AllReady.nil
 go_simp
 refine HI1.o.mono ?_;rintro x W2 ⟨rfl,hb2⟩;exact⟨rfl,rfl,HBV.o.trans ((HB1.o.trans (hb2.mono HB1.o.size)).mono HBV.o.size)⟩
end Tx
end
end Go.Proofs.YthhhfcdakfbpkaaGreatDoor
