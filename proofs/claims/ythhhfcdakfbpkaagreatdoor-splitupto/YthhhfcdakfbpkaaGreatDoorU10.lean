/- Parts of the proof -/
import Derived.Test.YthhhfcdakfbpkaaGreatDoorU3
import Derived.Deep.CutRange
import Derived.Test.YthhhfcdakfbpkaaGreatDoorU4
import Derived.Test.YthhhfcdakfbpkaaGreatDoorU7
import Derived.Deep.RegionWith
import Derived.RangeFuncIn
import Derived.RangeFuncLeaves
import Derived.RangeFuncRecord
import Derived.Below
import Derived.Laws.World
import Derived.Test.YthhhfcdakfbpkaaGreatDoorU1
import Derived.RangeFuncNested
import Derived.RangeFuncBound
import Derived.RangeFuncCalls
import Derived.Shelf.Abstract
import Derived.Shelf.RegionOpen
import Derived.WalkKit
import Derived.OwnWalkIn
import Derived.TacticsInMore
import Derived.LoopNIn
import Derived.LoopIn
import Derived.Lib.AppendZeros
import Derived.Lib.SliceRun
import Derived.Laws.AppendOwnNone
import Derived.Test.YthhhfcdakfbpkaaGreatDoorU6
import Derived.Deep.RegionHeld
import Derived.OrdersIn
import Derived.Deep.RegionHeld3
import Derived.Stop.RegionWithIn
import Derived.Sort.CutIn
open Go.Value renaming int -> Yg, string -> Yi, agg -> Yj, pointer -> Ym, tuple -> Yn, iface -> Yo, slice -> Yp, nilIface -> Yq, ownBlock -> aaR
open Go.IntKind renaming i64 -> Yh
open Go.Obj renaming cells -> Yk
open Go.Ending renaming returned -> Yl
open List renaming cons_append -> YI, eq_nil_of_length_eq_zero -> aed, take_succ_eq_append_getElem -> aeq, take_append_drop -> aej, drop_eq_getElem_cons -> YM, getElem_mem -> acw, flatMap_append -> aeN, length_append -> aaN, take_length -> afI, map_take -> afB, map_append -> aev, map_cons -> YZ, map_nil -> Y0, flatMap_cons -> YU, flatMap_nil -> aaJ, append_nil -> aaK, take_of_length_le -> acU, size_toArray -> afe, length_cons -> Yw, length_nil -> aeC, push_toArray -> agG, append_toArray -> agH, nil_append -> YK, mem_append_right -> aec, rel_of_pairwise_cons -> aeT, mem_cons -> aeQ, getElem_of_mem -> aeg, of_mem_zip -> agP, getElem_append_left -> ael, getElem_append_right -> aem, getElem_cons_zero -> agQ, length_take -> adO, sum_append -> agR, not_mem_nil -> afA, length_zip -> agW, getElem_zip -> agX, filter_map -> agY
open Go.Proofs.Tryz renaming prog -> Zc, func73 -> agl, ntmps73 -> agm, func84 -> ags, ntmps84 -> agt, func85 -> agu, ntmps85 -> agv, underlying172 -> agw, underlying132 -> agy, func169 -> agA, ntmps169 -> agB, func106 -> agI, ntmps106 -> agJ, func152 -> agK, ntmps152 -> agL, func105 -> agN, func151 -> agO
open Go.Addr renaming add_lit -> Zn
open Nat renaming zero_add -> Ze, le_trans -> YB, zero_le -> aeR, lt_or_eq_of_le -> acg, le_of_lt_succ -> ach, add_assoc -> YT, reduceAdd -> agC, reduceSub -> agD, lt_or_ge -> aeW, sub_self -> adT
open Go.Proofs.YthhhfcdakfbpkaaGreatDoor.Px renaming E -> ZU
open Go.Proofs.YthhhfcdakfbpkaaGreatDoor.Mg renaming V -> abZ, ay -> abS, fF -> agn, jB -> agp, knows -> acm, typ -> acD, value -> acn, isNull -> ace, Has -> agT
open Go.Proofs.YthhhfcdakfbpkaaGreatDoor.Mn renaming bA -> agq, fI -> agr
open Go.RowKit.Below renaming refl -> Zh, heap_setCell -> Zb
open Go.World renaming ownsRow_nil -> adi, ownsRow -> aaO, drew -> abA, size_alloc -> ZC, cell?_of_block -> Y8, cell?_setCell_far -> agV
open Prod renaming fst -> agx, snd -> agU
open Array renaming replicate -> agz, replicate_succ -> agE, replicate_zero -> agF, getElem?_setIfInBounds_ne -> afs
open Go.Proofs.YthhhfcdakfbpkaaGreatDoor.Bt renaming own -> agM
open Bool renaming eq_iff_iff -> Zd, or_eq_true -> YC, and_eq_true -> YD, or_eq_false_iff -> YF, and_eq_false_imp -> agS
open Option renaming none -> Y1, some -> Y2
open Go renaming Value -> Y3, World -> Y4, TypeId -> Y5, Calls -> aaT, maxLen -> aaV, info_parts -> aaX, Addr -> abR, Ending -> aaY
open Go.RowKit renaming Below -> aaS, intOf -> aeJ
namespace Go.Proofs.YthhhfcdakfbpkaaGreatDoor
set_option linter.unusedSimpArgs false
set_option linter.unusedVariables false
set_option maxRecDepth 100000
set_option maxHeartbeats 16000000
open Go.RowKit
variable {B b b5 b6 b7 c d df l n p s y:Nat}{W W' W1 w w':Y4}{T:Y5}{fv iv sv u v ve vk xv:Y3}{xs:List Y3}{cs sc:Array Y3}{a:Act}{nx:Int}{F R:List Nat}
section
namespace Mg
open Lx (Bs)
open Px (E)
def vals(cs:ay)(row:List V):List E->Except Nat (List V)
 |[]=> .ok []
 |e::r=>match value cs row e with
  |.error c=> .error c
  |.ok v=>match vals cs row r with
   |.error c=> .error c
   |.ok l=> .ok (v::l)
theorem FL{cs:ay}{row:List V}{e:E}{s:List E}(he:value cs row e=.error c):∀{r:List E} {l:List V},vals cs row r=.ok l->vals cs row (r++e::s)=.error c
 |[],l,_=>by simp[vals,he]
 |a::r,l,h=>by
  simp only[vals]at h
  cases ha:value cs row a with
  |error d=>rw[ha]at h;cases h
  |ok v=>
   rw[ha]at h;simp only at h
   cases hr:vals cs row r with
   |error d=>rw[hr]at h;cases h
   |ok m=>simp only[YI,vals,ha,FL he hr]
theorem BB{cs:ay}{row:List V}{v:V}{e:E}(he:value cs row e=.ok v):∀{r:List E} {l:List V},vals cs row r=.ok l->vals cs row (r++[e])=.ok (l++[v])
 |[],l,h=>by simp only[vals]at h;cases h;simp[vals,he]
 |a::r,l,h=>by
  simp only[vals]at h
  cases ha:value cs row a with
  |error d=>rw[ha]at h;cases h
  |ok w=>
   rw[ha]at h;simp only at h
   cases hr:vals cs row r with
   |error d=>rw[hr]at h;cases h
   |ok m=>
    rw[hr]at h;simp only at h
    cases h
    simp only[YI,vals,ha,BB he hr]
theorem Fv{cs:ay}{row:List V}:∀{r:List E} {l:List V},vals cs row r=.ok l->l.length=r.length
 |[],l,h=>by simp only[vals]at h;cases h;rfl
 |a::r,l,h=>by
  simp only[vals]at h
  cases ha:value cs row a with
  |error d=>rw[ha]at h;cases h
  |ok w=>
   rw[ha]at h;simp only at h
   cases hr:vals cs row r with
   |error d=>rw[hr]at h;cases h
   |ok m=>
    rw[hr]at h;simp only at h
    cases h
    simp[Fv hr]
def vC(v:V):List Y3:=[Yg Yh v.kind,Yg Yh v.int,Yi ⟨v.text.toArray⟩]
theorem TN(l:List V):(l.flatMap vC).length=l.length*3:=by
 induction l with
 |nil=>rfl
 |cons a r ih=>simp[vC,ih];omega
theorem SF:∀(l:List V) (k:Nat) (h:k<l.length),(l.flatMap vC)[k*3]? =Y2 (Yg Yh l[k].kind)/\(l.flatMap vC)[k*3+1]? =Y2 (Yg Yh l[k].int)/\(l.flatMap vC)[k*3+2]? =Y2 (Yi ⟨l[k].text.toArray⟩)
 |a::r,0,_=>by simp[vC]
 |a::r,k+1,h=>by
  have:=SF r k (by simpa using h);rw[show(k+1)*3=k*3+1+1+1 by omega];simpa[vC]using this
def mf(cs:ay)(d:E×Nat):Bool:=match typ cs d.1 with
 |.error _=>false
 |.ok t=>fits t d.2
def bJ(cs:ay)(ds:List (E×Nat)):Except Nat Unit:=if ds.all (fun d=>knows cs d.1)=true then(if ds.all (mf cs)=true then .ok ()else .error 10)else .error 9
theorem Lb{cs:ay}{ds:List (E×Nat)}{d:E×Nat}(h:d∈ds)(hk:knows cs d.1=false):bJ cs ds=.error 9:=by
 unfold bJ;rw[if_neg];intro ha;have:=List.all_eq_true.1 ha d h;rw[hk]at this
 cases this
theorem x9{cs:ay}{ds:List (E×Nat)}{d:E×Nat}(hall:ds.all (fun d=>knows cs d.1)=true)(h:d∈ds)(hk:mf cs d=false):bJ cs ds=.error 10:=by
 unfold bJ;rw[if_pos hall,if_neg];intro ha;have:=List.all_eq_true.1 ha d h;rw[hk]at this
 cases this
theorem Oz{cs:ay}{ds:List (E×Nat)}(h1:ds.all (fun d=>knows cs d.1)=true)(h2:ds.all (mf cs)=true):bJ cs ds=.ok ():=by
 unfold bJ;rw[if_pos h1,if_pos h2]
theorem lJ{cs:ay}{ds:List (E×Nat)}(h:bJ cs ds=.ok ()):∀d∈ds,knows cs d.1=true/\∃t,typ cs d.1=.ok t/\fits t d.2=true:=by
 unfold bJ at h
 split at h
 · rename_i h1
   split at h
   · rename_i h2;intro d hd;refine⟨List.all_eq_true.1 h1 d hd,?_⟩;have:=List.all_eq_true.1 h2 d hd;unfold mf at this
     split at this
     · cases this
     rename_i t ht;exact⟨t,ht,this⟩
   cases h
 cases h
theorem jS{t:Nat}{o:List Nat}(h:gK t o=.error c):c=10:=by
 unfold gK at h
 split at h
 · cases h
 injection h with h;exact h.symm
theorem R7{cs:ay}:∀{e:E} {c:Nat},typ cs e=.error c->c=10:=by
 intro e
 induction e with
 |bool _=>intro c h;simp[typ]at h
 |num _=>intro c h;simp[typ]at h
 |str _=>intro c h;simp[typ]at h
 |nm n=>intro c h;simp only[typ]at h;split at h<;>cases h
 |null=>intro c h;simp[typ]at h
 |un k e ih=>
  intro c h;simp only[typ]at h
  split at h
  · rename_i c' hc;injection h with h;subst h;exact ih hc
  unfold zi at h
  split at h
  · exact jS h
  split at h
  · exact jS h
  cases h
 |bin k a b iha ihb=>
  intro c h;simp only[typ]at h
  split at h
  · rename_i c' hc;injection h with h;subst h;exact iha hc
  split at h
  · rename_i c' hc;injection h with h;subst h;exact ihb hc
  unfold vI at h
  split at h
  · exact jS h
  split at h
  · exact jS h
  split at h
  · exact jS h
  split at h
  · rename_i c' hc;injection h with h;subst h;exact jS hc
  cases h
end Mg
end
namespace Tb
theorem kL(c:Int)(w:Y4):aaT Zc 73 #[.bool true,Yg Yh c] w fun x w'=>x=Yl (Yn #[])/\w'=w:=by
 go_enter agl,agm;go_wp2
 go_end0
 exact⟨rfl,rfl⟩
theorem Tryz.info39:(Tryz.prog.info? 39).map (fun i=>(i.zero,i.size,i.bytes))=Y2 (Y2 (Yj #[Yg Yh 0,Yg Yh 0,Yi ⟨#[]⟩]),3,32):=by kernel_rfl
theorem Sj(w:Y4)(a b c:Y3)(t:Y5):∀j u,([a,b,c]:List Y3)[j]? =Y2 u->(w.alloc (Yk #[a,b,c] t)).cell? ((⟨w.heap.size,0,Y1⟩:abR).add j)=Y2 u:=by
 intro j u hu;rw[Zn,Ze,(ae.new w #[a,b,c] t).cell];simpa using hu
end Tb
section
namespace Tb
open Bt
theorem dI(h:w.ownsRow b T s v n xs):∃ao cap,v=Yp ao n cap/\∀j u,xs[j]? =Y2 u->∃g,ao=Y2 ⟨g,0,Y1⟩/\g<w.heap.size/\w.cell? ⟨g,j,Y1⟩=Y2 u:=by
 have hl:=h.1;rcases h.2 with⟨rfl,rfl⟩|⟨g,cap,cur,rfl,hb,hg,h1,h2,h3,h4⟩
 · refine⟨Y1,0,rfl,fun j u hu=> ?_⟩;have:xs=[]:=aed (by simpa using hl);subst this;simp at hu
 refine⟨_,_,rfl,fun j u hu=>⟨g,rfl,(geA.1 hg).1,?_⟩⟩;have:=h.cells (g:=g) rfl j u hu;simpa only[Zn,Ze]using this
theorem D6:∀(es:List ZU) (k:Nat) (h:k<es.length),(es.flatMap nP)[k]? =Y2 (ev es[k])
 |e::r,0,_=>by simp[nP]
 |e::r,k+1,h=>by simpa[nP]using D6 r k (by simpa using h)
theorem jG{α:Type}(es:List α)(k:Nat)(h:k<es.length):es.take (k+1)=es.take k++[es[k]]/\es=es.take k++es[k]::es.drop (k+1):=by
 refine⟨aeq h,?_⟩;have:=aej k es;rw[YM h]at this;exact this.symm
def XE(w:Y4)(r:Except Nat (List abZ))(x:aaY)(w':Y4):Prop:=aaS w.heap.size w w'/\match r with
 |.ok l=>∃v,x=Yl v/\w'.ownsRow w.heap.size 39 3 v l.length (l.flatMap Mg.vC)
 |.error c=>x=lL 0 c
theorem eu{w1 w3:Y4}{r:Option Nat}(h:aaS B w w1)(hg:w1.grownBy w3 r)(hr:∀k,r=Y2 k->B<=k)(hB:B<=w1.heap.size):aaS B w w3:=
 ⟨hg.os.trans h.os,hg.tape.trans h.tape,hg.output.trans h.output,YB h.size hg.size,fun k hk=>(hg.block k (nlA hk hB) (fun e=>by have:=hr k e.symm;omega)).trans (h.block k hk)⟩
theorem rH(cs:abS)(hcs:agn cs)(row:List abZ)(hr:agp cs row)(sv rv:Y3)(es:List ZU)(hes:∀e∈es,e.ok 2000/\acm cs e=true/\∃t,acD cs e=.ok t)(hn:es.length<=1000000)(v:Y3)(w:Y4)(hC:agq w sv cs)(hR:agr w rv row)
   (hE:w.ownsRow 0 98 1 v es.length (es.flatMap nP)):aaT Zc 80 #[sv,v,rv] w (XE w (Mg.vals cs row es)):=by
 obtain⟨i0,hi,hz0,hz1,hz2⟩:=aaX Tryz.info39;obtain⟨ao,cap,rfl,hEE⟩:=dI hE;have HE:=hd hEE;have HES:=hd hes;have HCS:=hd hcs;have HRO:=hd hr;have HCA:=hd hC;have HRV:=hd hR;clear hE hEE hes hcs hr hC hR;go_enter Tryz.func80,Tryz.ntmps80;go_wp2_with fail;go_loopw [7,12] (fun v i wr=>∃(k:Nat) (l:List abZ),i=Yg Yh k/\k<=es.length/\Yf (aaS w.heap.size w wr)/\Yf (l.length=k/\Mg.vals cs row (es.take k)=.ok l)/\Yf (wr.ownsRow w.heap.size 39 3 v l.length (l.flatMap Mg.vC))) (fun _ i _=>es.length-(aeJ i).toNat)
 case atStart=>exact⟨0,[],rfl,aeR _,Zh _ _,⟨rfl,rfl⟩,adi _ _ _ _⟩
 case round=>
  obtain⟨k,l,rfl,hk,HW,HV,HO⟩:=hrel;obtain⟨va,vc,rfl⟩:=ai HO.o;by_cases hlt:k<es.length
  · obtain⟨g,hao,hg,c0⟩:=HE.o k _ (D6 es k hlt);obtain⟨et,ex,hev⟩:=jc es[k];have d0:=(HW.o.cell (p:=⟨g,k,Y1⟩) hg).trans c0;have hg2:=nlA hg HW.o.size;obtain⟨ho,hkn,t,ht⟩:=HES.o es[k] (acw hlt);have hvl:=Mn.BI cs HCS.o row HRO.o sv rv es[k] t ho hkn ht wr (HCA.o.below (HW.o.mono (nlr _))) (HRV.o.below HW.o);obtain⟨HC1,HC2⟩:=jG es k hlt;have HCU:=hd (And.intro HC1 HC2);generalize es[k]=e at*;rw[hev]at d0 hvl;have HVL:=hd hvl;clear hvl hev c0 ho hkn ht HC1 HC2;subst hao;go_wp2_with fail;refine HVL.o.mono ?_;rintro x w1 ⟨hb,hx⟩;have HW1:=hd (HW.o.trans (hb.mono HW.o.size));have HO1:=hd (eO HO.o hb);have HX:=hd hx
    cases hv:acn cs row e with
    |error c=>
     rw[hv]at HX;obtain rfl:=HX.o
     have hall:Mg.vals cs row es=.error c:=by rw[HCU.o.2];exact Mg.FL hv HV.o.2
     exact⟨rfl,HW1.o,by rw[hall];rfl⟩
    |ok u=>
     rw[hv]at HX;obtain rfl:=HX.o
     have HSN:Yf (Mg.vals cs row (es.take (k+1))=.ok (l++[u])):=by show _=_;rw[HCU.o.1];exact Mg.BB hv HV.o.2
     have hll:l.length<=1000000:=by have:=HV.o.1;omega
     obtain⟨uk,uz,ut⟩:=u;unfold Mn.vV;have HO2:=hd (HO1.o.alloc (Yk #[Yg Yh uk,Yg Yh uz,Yi ⟨ut.toArray⟩] 39))
     go_wp2_with(first
      |(at_builtin;refine bR rfl _ _ 27 rfl w.heap.size 39 i0 (Yj #[Yg Yh 0,Yg Yh 0,Yi ⟨#[]⟩]) 3 32 Tryz.underlying27 hi hz0 hz1 hz2 rfl (by decide) _ _ _ rfl HO2.o ⟨w1.heap.size,0,Y1⟩ 1 1 [Yg Yh uk,Yg Yh uz,Yi ⟨ut.toArray⟩] rfl rfl ?c1 ?c2 ?c3 ?c4 ?c5 ?_)
      |fail)
     case c1=>exact Sj w1 _ _ _ _
     case c2=>intro u hu;simp at hu;rcases hu with rfl|rfl|rfl<;>rfl
     case c3=>simp only[aaV];omega
     case c4=>omega
     case c5=>have:=HW1.o.size;simp;omega
     intro v' w3 hown hgrow _;have HB3:=hd (eu (HW1.o.alloc HW1.o.size _) hgrow (fun k hk=>(HO2.o.lt k hk).1) (by have:=HW1.o.size;simp;omega))
     have HO3:Yf (w3.ownsRow w.heap.size 39 3 v' (l++[(⟨uk,uz,ut⟩:abZ)]).length ((l++[(⟨uk,uz,ut⟩:abZ)]).flatMap Mg.vC)):=by
      show aaO _ _ _ _ _ _ _;rw[aeN,aaN];exact hown
     obtain⟨va',vc',rfl⟩:=ai hown;go_wp2_with fail;go_roundw
     case rel=>exact⟨k+1,_,rfl,by omega,HB3,⟨by simp[HV.o.1],HSN.o⟩,HO3⟩
     case measure=>simp[aeJ];omega
  obtain rfl:k=es.length:=by omega
  go_wp2_with fail;go_ret;refine⟨HW.o,?_⟩;have:=HV.o.2;rw[afI]at this;rw[this];exact⟨_,rfl,HO.o⟩
end Tb
end
namespace Tb
theorem bD(c:Int)(w:Y4):aaT Zc 73 #[.bool true,Yg Yh c] w fun x w'=>x=Yl (Yn #[])/\w'=w:=by
 go_enter agl,agm;go_wp2
 go_end0
 exact⟨rfl,rfl⟩
structure Fw(w:Y4)(b:Nat)(cs:Array Y3)(T:Y5):Prop where
 blk:ae w b cs T
 bz:cs[2]? =Y2 (Yp Y1 0 0)
 kids:cs[3]? =Y2 (Yp Y1 0 0)
 cnt:cs[4]? =Y2 (Yg Yh 0)
theorem Fw.below(h:Fw w b cs T)(hb:aaS w.heap.size w w'):Fw w' b cs T:=⟨h.blk.below hb h.blk.lt,h.bz,h.kids,h.cnt⟩
end Tb
namespace Tb
structure Uy(w:Y4)(p g cap:Nat)(nm:ByteArray)(cs:Array Y3):Prop where
 blk:ae w p cs 128
 cols:cs[0]? =Y2 (Yp (Y2 ⟨g,0,Y1⟩) 1 cap)
 hg:g<w.heap.size
 name:w.cell? ⟨g,0,Y1⟩=Y2 (.string nm)
 type:w.cell? ⟨g,1,Y1⟩=Y2 (Yg Yh 1)
theorem Tryz.info191:(Tryz.prog.info? 191).map (fun i=>(i.zero,i.size,i.bytes))=Y2 (Y2 (Yj #[Yq,Yg Yh 0]),2,24):=by kernel_rfl
theorem Cu(w:Y4)(a b:Y3)(t:Y5):∀j u,([a,b]:List Y3)[j]? =Y2 u->(w.alloc (Yk #[a,b] t)).cell? ((⟨w.heap.size,0,Y1⟩:abR).add j)=Y2 u:=by
 intro j u hu;rw[Zn,Ze,(ae.new w #[a,b] t).cell];simpa using hu
end Tb
section
namespace Tb
open Bt
theorem lD(c:Nat)(w:Y4):aaT Zc 73 #[.bool false,Yg Yh (c:Int)] w fun x w'=>x=lL 0 c/\w'=w:=by
 go_enter agl,agm;go_wp2;exact⟨rfl,rfl,rfl⟩
theorem Jw(w:Y4):aaT Zc 73 #[.bool false,Yg Yh 9] w fun x w'=>x=lL 0 9/\w'=w:=lD 9 w
def Sc(f:Bool)(c:Nat)(x:aaY):Prop:=match f with
 |true=>x=Yl (Yn #[])
 |false=>x=lL 0 c
theorem KV(f:Bool)(c:Nat)(w:Y4):aaT Zc 73 #[.bool f,Yg Yh (c:Int)] w fun x w'=>w'=w/\Sc f c x:=by
 cases f
 · exact(lD c w).mono fun x w' h=>⟨h.2,h.1⟩
 exact(kL c w).mono fun x w' h=>⟨h.2,h.1⟩
def gU(d:ZU×Nat):List Y3:=[ev d.1,Yg Yh (d.2:Nat)]
theorem tY:∀(ds:List (ZU×Nat)) (k:Nat) (h:k<ds.length),(ds.flatMap gU)[k*2]? =Y2 (ev ds[k].1)/\(ds.flatMap gU)[k*2+1]? =Y2 (Yg Yh (ds[k].2:Nat))
 |d::r,0,_=>by simp[gU]
 |d::r,k+1,h=>by
  have:=tY r k (by simpa using h);rw[show(k+1)*2=k*2+1+1 by omega];simpa[gU]using this
def Vt(w:Y4)(r:Except Nat Unit)(x:aaY)(w':Y4):Prop:=aaS w.heap.size w w'/\match r with
 |.ok _=>x=Yl (Yn #[])
 |.error c=>x=lL 0 c
theorem zS{α:Type}{l:List α}{p:α->Bool}{k:Nat}{a:α}(h:l.take (k+1)=l.take k++[a])(h1:(l.take k).all p=true)(h2:p a=true):(l.take (k+1)).all p=true:=by
 rw[h,List.all_append,h1];simp[h2]
theorem vg(cs:abS)(hcs:agn cs)(sv:Y3)(ds:List (ZU×Nat))(hds:∀d∈ds,d.1.ok 2000)(hn:ds.length<=1000000)(v:Y3)(w:Y4)(hC:agq w sv cs)(hE:w.ownsRow 0 191 2 v ds.length (ds.flatMap gU)):
   aaT Zc 78 #[sv,v] w (Vt w (Mg.bJ cs ds)):=by
 obtain⟨ao,cap,rfl,hEE⟩:=dI hE;have HE:=hd hEE;have HDS:=hd hds;have HCS:=hd hcs;have HCA:=hd hC;clear hE hEE hds hcs hC;go_enter Tryz.func78,Tryz.ntmps78;go_wp2_with fail;go_loopw [10] (fun i wr=>∃k:Nat,i=Yg Yh k/\k<=ds.length/\Yf (aaS w.heap.size w wr)/\Yf ((ds.take k).all (fun d=>acm cs d.1)=true)) (fun i _=>ds.length-(aeJ i).toNat)
 case atStart=>exact⟨0,rfl,aeR _,Zh _ _,by show _=_;simp⟩
 case round=>
  obtain⟨k,rfl,hk,HW,HA⟩:=hrel;by_cases hlt:k<ds.length
  · obtain⟨g,hao,hg,c0⟩:=HE.o _ _ (tY ds k hlt).1;obtain⟨g',hao',hg',c1⟩:=HE.o _ _ (tY ds k hlt).2;rw[hao]at hao';injection hao' with hgg;injection hgg with hgg;subst hgg;obtain⟨et,ex,hev⟩:=jc ds[k].1;have d0:=(HW.o.cell (p:=⟨g,k*2,Y1⟩) hg).trans c0;have d1:=(HW.o.cell (p:=⟨g,k*2+1,Y1⟩) hg).trans c1;have hg2:=nlA hg HW.o.size;have HW1:Yf (aaS w.heap.size w (wr.alloc (Yk #[Yo et ex,Yg Yh (ds[k].2:Nat)] 191))):=HW.o.alloc HW.o.size _;have hkn:=Mn.Lj cs HCS.o.1 sv ds[k].1 _ (HCA.o.below HW1.o);obtain⟨HC1,HC2⟩:=jG ds k hlt;have HCU:=hd (And.intro HC1 HC2);have HME:=hd (acw hlt);generalize ds[k]=d at*;obtain⟨e,t⟩:=d;simp only at hev d0 d1 hkn HW1;rw[hev]at d0 hkn;have HKN:=hd hkn;clear hkn hev c0 c1 HC1 HC2;subst hao
    cases hkk:acm cs e with
    |false=>
     rw[hkk]at HKN;have HF:Yf (Mg.bJ cs ds=.error 9):=Mg.Lb HME.o hkk;go_wp2_with fail;refine HKN.o.mono ?_;rintro x w1 ⟨rfl,hb⟩;have HW2:Yf (aaS w.heap.size w w1):=HW1.o.trans (hb.mono HW1.o.size);clear hb;go_wp2_with fail;refine(Jw _).mono ?_;rintro x w1 ⟨rfl,rfl⟩;exact⟨rfl,HW2.o,by rw[HF.o];rfl⟩
    |true=>
     rw[hkk]at HKN;have HS:=hd (zS (p:=fun d=>acm cs d.1) HCU.o.1 HA.o hkk);clear hkk;go_wp2_with fail;refine HKN.o.mono ?_;rintro x w1 ⟨rfl,hb⟩;have HW2:Yf (aaS w.heap.size w w1):=HW1.o.trans (hb.mono HW1.o.size);clear hb;go_wp2_with fail;refine(kL _ _).mono ?_;rintro x w1 ⟨rfl,rfl⟩;go_wp2_with fail;go_roundw
     case rel=>exact⟨k+1,rfl,by omega,HW2,HS⟩
     case measure=>simp[aeJ];omega
  obtain rfl:k=ds.length:=by omega
  have Rp:Yf (ds.all (fun d=>acm cs d.1)=true):=by have:=HA.o;rwa [afI]at this
  clear HA;go_wp2_with fail;go_loopw [22] (fun i wr'=>∃k:Nat,i=Yg Yh k/\k<=ds.length/\Yf (aaS w.heap.size w wr')/\Yf ((ds.take k).all (Mg.mf cs)=true)) (fun i _=>ds.length-(aeJ i).toNat)
  case atStart=>exact⟨0,rfl,aeR _,HW,by show _=_;simp⟩
  case round=>
   obtain⟨k,rfl,hk,HV,HA⟩:=hrel;by_cases hlt:k<ds.length
   · obtain⟨g,hao,hg,c0⟩:=HE.o _ _ (tY ds k hlt).1;obtain⟨g',hao',hg',c1⟩:=HE.o _ _ (tY ds k hlt).2;rw[hao]at hao';injection hao' with hgg;injection hgg with hgg;subst hgg;obtain⟨et,ex,hev⟩:=jc ds[k].1;have d0:=(HV.o.cell (p:=⟨g,k*2,Y1⟩) hg).trans c0;have d1:=(HV.o.cell (p:=⟨g,k*2+1,Y1⟩) hg).trans c1;have hg2:=nlA hg HV.o.size;have HBX:=hd (ae.new wr #[Yo et ex,Yg Yh (ds[k].2:Nat)] 191);have HV1:Yf (aaS w.heap.size w (abA (wr.alloc (Yk #[Yo et ex,Yg Yh (ds[k].2:Nat)] 191)))):=(HV.o.alloc HV.o.size _).drew;have hty:=Mn.PH cs HCS.o sv ds[k].1 (HDS.o _ (acw hlt)) (List.all_eq_true.1 Rp.o _ (acw hlt)) _ (HCA.o.below HV1.o);obtain⟨HC1,HC2⟩:=jG ds k hlt;have HCU:=hd (And.intro HC1 HC2);have HME:=hd (acw hlt);generalize ds[k]=d at*;obtain⟨e,t⟩:=d;simp only at hev d0 d1 hty HV1 HBX;rw[hev]at d0 hty;have HTY:=hd hty;have hlx:=HBX.o.lt;have b0:=HBX.o.cell 0;have b1:=HBX.o.cell 1;simp at b0 b1;clear hty hev c0 c1 HC1 HC2;subst hao;go_wp2_with fail
     go_region_with (first
      |(go_at_call 145
        refine HTY.o.mono ?_;rintro x w1 ⟨hb1,hx1⟩;have HB1:=hd (HV1.o.trans (hb1.mono HV1.o.size));have K1:=HBX.o.drew.below hb1 hlx;rcases hta:acD cs e with c|u
        · rw[hta]at hx1;obtain rfl:=hx1;have hc:=Mg.R7 hta;subst hc;exact⟨rfl,HB1.o,by rw[Mg.x9 Rp.o HME.o (by simp[Mg.mf,hta])];rfl⟩
        rw[hta]at hx1;obtain rfl:=hx1;have HTA:=hd hta;have q0:=K1.cell 0;have q1:=K1.cell 1;have hl1:=K1.lt;simp at q0 q1
        clear hb1 hta K1)
      |(go_at_call 144
        refine(Mn.FU u t _).mono ?_;rintro x w1 ⟨rfl,rfl⟩
        have HFT:Yf (Mg.mf cs (e,t)=Mg.fits u t):=by show _=_;simp[Mg.mf,HTA.o]
        generalize Mg.fits u t=f at*)
      |(go_at_call 73
        refine(KV f 10 _).mono ?_;rintro x w2 ⟨rfl,hx2⟩
        cases f
        · obtain rfl:=hx2;exact⟨rfl,HB1.o,by rw[Mg.x9 Rp.o HME.o HFT.o];rfl⟩
        obtain rfl:=hx2))
     all_goals
      go_wp2_with fail;go_roundw
      case rel=>exact⟨k+1,rfl,by omega,HB1,zS HCU.o.1 HA.o HFT.o⟩
      case measure=>simp[aeJ];omega
   obtain rfl:k=ds.length:=by omega
   have HD:Yf (ds.all (Mg.mf cs)=true):=by have:=HA.o;rwa [afI]at this
   go_wp2_with fail
   go_end0
   exact⟨HV.o,by rw[Mg.Oz Rp.o HD.o]⟩
end Tb
end
namespace Tb
theorem Gl{base:Nat}{e:Y5}{size:Nat}(h:w.ownsRow base e size v n xs)(hn:n≠0):∃g cap,v=Yp (Y2 ⟨g,0,Y1⟩) n cap/\base<=g/\g<w.heap.size/\n<=cap/\cap<=aaV/\∀j u,xs[j]? =Y2 u->w.cell? ⟨g,j,Y1⟩=Y2 u:=by
 rcases h.2 with⟨_,h0⟩|⟨g,cap,cur,rfl,hb,hg,h1,h2,_⟩
 · exact absurd h0 hn
 refine⟨g,cap,rfl,hb,(geA.1 hg).1,h1,h2,fun j u hu=> ?_⟩;have:=h.cells (g:=g) rfl j u hu;simpa only[Zn,Ze]using this
theorem Tryz.info27:(Tryz.prog.info? 27).map (fun i=>(i.zero,i.size,i.bytes))=Y2 (Y2 (Yp Y1 0 0),1,24):=by kernel_rfl
theorem BN(w:Y4)(a:Y3)(t:Y5):∀j u,([a]:List Y3)[j]? =Y2 u->(w.alloc (Yk #[a] t)).cell? ((⟨w.heap.size,0,Y1⟩:abR).add j)=Y2 u:=by
 intro j u hu;rw[Zn,Ze,(ae.new w #[a] t).cell];simpa using hu
structure XW(w:Y4)(gv:Nat)(z:Int):Prop where
 lt:gv<w.heap.size
 c0:w.cell? ⟨gv,0,Y1⟩=Y2 (Yg Yh 16)
 c1:w.cell? ⟨gv,1,Y1⟩=Y2 (Yg Yh z)
 c2:w.cell? ⟨gv,2,Y1⟩=Y2 (Yi ⟨#[]⟩)
end Tb
namespace Tq
theorem Mj(w:Y4):aaT Zc 84 #[Yq] w fun x w'=>x=Yl (Yp Y1 0 0)/\w'=w:=by
 go_enter ags,agt;go_wp2_with fail;go_ret;exact⟨rfl,rfl⟩
theorem Hu(tp:Option abR)(w:Y4):aaT Zc 85 #[.pointer tp,Yq] w fun x w'=>x=Yl (.func (.func 151) #[] #[Ym (Y2 ⟨w.heap.size,0,Y1⟩),Ym (Y2 ⟨w.heap.size+1,0,Y1⟩)])/\w'=(w.alloc (Yk #[.pointer tp] 94)).alloc (Yk #[Yq] 98):=by
 go_enter agu,agv;go_wp2_with fail;go_ret;exact⟨by simp,rfl⟩
theorem Tryz.info98:(Tryz.prog.info? 98).map (fun i=>(i.zero,i.size,i.bytes))=Y2 (Y2 Yq,1,16):=by kernel_rfl
end Tq
section
namespace Tb
open Bt
theorem wC(es:List ZU)(t:Nat)(hn:es.length<=1000000)(v:Y3)(w:Y4)(hE:w.ownsRow 0 98 1 v es.length (es.flatMap nP)):
   aaT Zc 93 #[v,Yg Yh (t:Int)] w fun x w'=>aaS w.heap.size w w'/\∃u,x=Yl u/\w'.ownsRow w.heap.size 191 2 u es.length ((es.map fun e=>(e,t)).flatMap gU):=by
 obtain⟨i0,hi,hz0,hz1,hz2⟩:=aaX Tryz.info191;obtain⟨ao,cap,rfl,hEE⟩:=dI hE;have HE:=hd hEE;clear hE hEE;go_enter Tryz.func93,Tryz.ntmps93;go_wp2_with fail;go_loopw [5,10] (fun v i wr=>∃(k:Nat),i=Yg Yh k/\k<=es.length/\Yf (aaS w.heap.size w wr)/\Yf (wr.ownsRow w.heap.size 191 2 v k (((es.map fun e=>(e,t)).take k).flatMap gU))) (fun _ i _=>es.length-(aeJ i).toNat)
 case atStart=>exact⟨0,rfl,aeR _,Zh _ _,adi _ _ _ _⟩
 case round=>
  obtain⟨k,rfl,hk,HW,HO⟩:=hrel;obtain⟨va,vc,rfl⟩:=ai HO.o;by_cases hlt:k<es.length
  · obtain⟨g,hao,hg,c0⟩:=HE.o k _ (D6 es k hlt);obtain⟨et,ex,hev⟩:=jc es[k];have d0:=(HW.o.cell (p:=⟨g,k,Y1⟩) hg).trans c0;have hg2:=nlA hg HW.o.size;obtain⟨HC1,HC2⟩:=jG es k hlt;have HCU:=hd HC1;generalize es[k]=e at*;rw[hev]at d0;have HEV:=hd hev;clear hev c0 HC1 HC2;subst hao;have HO2:=hd (HO.o.alloc (Yk #[Yo et ex,Yg Yh (t:Int)] 191))
    go_wp2_with(first
     |(at_builtin;refine bR rfl _ _ 172 rfl w.heap.size 191 i0 (Yj #[Yq,Yg Yh 0]) 2 24 agw hi hz0 hz1 hz2 rfl (by decide) _ _ _ rfl HO2.o ⟨wr.heap.size,0,Y1⟩ 1 1 [Yo et ex,Yg Yh (t:Int)] rfl rfl ?c1 ?c2 ?c3 ?c4 ?c5 ?_)
     |fail)
    case c1=>exact Cu wr _ _ _
    case c2=>intro u hu;simp at hu;rcases hu with rfl|rfl<;>rfl
    case c3=>simp only[aaV];omega
    case c4=>omega
    case c5=>have:=HW.o.size;simp;omega
    intro v' w3 hown hgrow _;have HB3:=hd (eu (HW.o.alloc HW.o.size _) hgrow (fun k hk=>(HO2.o.lt k hk).1) (by have:=HW.o.size;simp;omega))
    have HO3:Yf (w3.ownsRow w.heap.size 191 2 v' (k+1) (((es.map fun e=>(e,t)).take (k+1)).flatMap gU)):=by
     show aaO _ _ _ _ _ _ _;rw[<-afB,HCU.o,aev,aeN,afB];simp only[YZ,Y0,YU,aaJ,aaK];rw[show gU (e,t)=[Yo et ex,Yg Yh (t:Int)]from by simp[gU,HEV.o]];exact hown
    obtain⟨va',vc',rfl⟩:=ai hown;go_wp2_with fail;go_roundw
    case rel=>exact⟨k+1,rfl,by omega,HB3,HO3⟩
    case measure=>simp[aeJ];omega
  obtain rfl:k=es.length:=by omega
  have HO4:Yf (wr.ownsRow w.heap.size 191 2 (Yp va es.length vc) es.length ((es.map fun e=>(e,t)).flatMap gU)):=by have:=HO.o;rwa [acU (by simp)]at this
  go_wp2_with fail;go_ret;exact⟨HW.o,_,rfl,HO4.o⟩
def gL:Option ZU->List (ZU×Nat)
 |none=>[]
 |some e=>[(e,3)]
theorem AQ(o:Option ZU)(w:Y4):aaT Zc 84 #[ev? o] w fun x w'=>aaS w.heap.size w w'/\∃u,x=Yl u/\w'.ownsRow w.heap.size 191 2 u (gL o).length ((gL o).flatMap gU):=by
 cases o with
 |none=>
  refine(Tq.Mj w).mono ?_;rintro x w1 ⟨rfl,rfl⟩;exact⟨Zh _ _,_,rfl,adi _ _ _ _⟩
 |some e=>
  obtain⟨et,ex,hev⟩:=jc e;have Ce:ev? (Y2 e)=Yo et ex:=hev
  have HB0:Yf (aaS w.heap.size w (w.alloc (Yk #[Yo et ex,Yg Yh 3] 191))):=by show aaS _ _ _;go_grown
  have HO:Yf ((w.alloc (Yk #[Yo et ex,Yg Yh 3] 191)).ownsRow w.heap.size 191 2 (Yp (Y2 ⟨w.heap.size,0,Y1⟩) 1 1) (gL (Y2 e)).length ((gL (Y2 e)).flatMap gU)):=by
   show aaO _ _ _ _ _ _ _;refine⟨rfl,.inr ⟨w.heap.size,1,_,rfl,nlr _,heap_alloc_new w _,nlr _,by simp[aaV],rfl,?_⟩⟩;simp[gL,gU,hev]
  rw[Ce];go_enter ags,agt;go_wp2_with fail;go_ret;exact⟨HB0.o,_,rfl,HO.o⟩
theorem mD:∀(os:List (ZU×Bool)) (k:Nat) (h:k<os.length),(os.flatMap dA)[k*2]? =Y2 (ev os[k].1)/\(os.flatMap dA)[k*2+1]? =Y2 (.bool os[k].2)
 |d::r,0,_=>by simp[dA]
 |d::r,k+1,h=>by
  have:=mD r k (by simpa using h);rw[show(k+1)*2=k*2+1+1 by omega];simpa[dA]using this
theorem zV(os:List (ZU×Bool))(hn:os.length<=1000000)(v:Y3)(w:Y4)(hE:w.ownsRow 0 227 2 v os.length (os.flatMap dA)):
   aaT Zc 91 #[v] w fun x w'=>aaS w.heap.size w w'/\∃u,x=Yl u/\w'.ownsRow w.heap.size 98 1 u os.length ((os.map agx).flatMap nP):=by
 obtain⟨i0,hi,hz0,hz1,hz2⟩:=aaX Tq.Tryz.info98;obtain⟨ao,cap,rfl,hEE⟩:=dI hE;have HE:=hd hEE;clear hE hEE;go_enter Tryz.func91,Tryz.ntmps91;go_wp2_with fail;go_loopw [3,8] (fun v i wr=>∃(k:Nat),i=Yg Yh k/\k<=os.length/\Yf (aaS w.heap.size w wr)/\Yf (wr.ownsRow w.heap.size 98 1 v k (((os.map agx).take k).flatMap nP))) (fun _ i _=>os.length-(aeJ i).toNat)
 case atStart=>exact⟨0,rfl,aeR _,Zh _ _,adi _ _ _ _⟩
 case round=>
  obtain⟨k,rfl,hk,HW,HO⟩:=hrel;obtain⟨va,vc,rfl⟩:=ai HO.o;by_cases hlt:k<os.length
  · obtain⟨g,hao,hg,c0⟩:=HE.o _ _ (mD os k hlt).1;obtain⟨g',hao',hg',c1⟩:=HE.o _ _ (mD os k hlt).2;rw[hao]at hao';injection hao' with hgg;injection hgg with hgg;subst hgg;obtain⟨et,ex,hev⟩:=jc os[k].1;have d0:=(HW.o.cell (p:=⟨g,k*2,Y1⟩) hg).trans c0;have d1:=(HW.o.cell (p:=⟨g,k*2+1,Y1⟩) hg).trans c1;have hg2:=nlA hg HW.o.size;obtain⟨HC1,HC2⟩:=jG os k hlt;have HCU:=hd HC1;generalize os[k]=o at*;obtain⟨e,dsc⟩:=o;simp only at hev d0 d1;rw[hev]at d0;have HEV:=hd hev;clear hev c0 c1 HC1 HC2;subst hao;have HO2:=hd ((HO.o.alloc (Yk #[Yo et ex,.bool dsc] 227)).alloc (Yk #[Yo et ex] 98));have HW2:Yf (aaS w.heap.size w ((wr.alloc (Yk #[Yo et ex,.bool dsc] 227)).alloc (Yk #[Yo et ex] 98))):=(HW.o.alloc HW.o.size _).alloc (HW.o.alloc HW.o.size _).size _
    go_wp2_with(first
     |(at_builtin;refine bR rfl _ _ 132 rfl w.heap.size 98 i0 Yq 1 16 agy hi hz0 hz1 hz2 rfl (by decide) _ _ _ rfl HO2.o ⟨wr.heap.size+1,0,Y1⟩ 1 1 [Yo et ex] rfl rfl ?c1 ?c2 ?c3 ?c4 ?c5 ?_)
     |fail)
    try(case c1=>have:=BN (wr.alloc (Yk #[Yo et ex,.bool dsc] 227)) (Yo et ex) 98;rwa [ZC]at this)
    case c2=>first|rfl|(intro u hu;simp at hu;subst hu;rfl)
    case c3=>simp only[aaV];omega
    case c4=>omega
    case c5=>first|exact HW2.o.size|(have:=HW2.o.size;simp at this⊢;omega)
    intro v' w3 hown hgrow _;have HB3:=hd (eu HW2.o hgrow (fun k hk=>(HO2.o.lt k hk).1) HW2.o.size)
    have HO3:Yf (w3.ownsRow w.heap.size 98 1 v' (k+1) (((os.map agx).take (k+1)).flatMap nP)):=by
     show aaO _ _ _ _ _ _ _;rw[<-afB,HCU.o,aev,aeN,afB];simp only[YZ,Y0,YU,aaJ,aaK];rw[show nP e=[Yo et ex]from by simp[nP,HEV.o]];exact hown
    obtain⟨va',vc',rfl⟩:=ai hown;go_wp2_with fail;go_roundw
    case rel=>exact⟨k+1,rfl,by omega,HB3,HO3⟩
    case measure=>simp[aeJ];omega
  obtain rfl:k=os.length:=by omega
  have HO4:Yf (wr.ownsRow w.heap.size 98 1 (Yp va os.length vc) os.length ((os.map agx).flatMap nP)):=by have:=HO.o;rwa [acU (by simp)]at this
  go_wp2_with fail;go_ret;exact⟨HW.o,_,rfl,HO4.o⟩
end Tb
end
section
namespace Mg
def iL(cs:ay)(r:List ZU):List (ZU×Nat):=(r.zip cs).map fun x=>(x.1,x.2.2%4)
def bF(cs:ay)(l:List (List ZU)):List (ZU×Nat):=l.flatMap (iL cs)
theorem qK{cs:ay}{r:List ZU}(h:r.length=cs.length):(iL cs r).length=r.length:=by simp[iL,h]
theorem LJ{cs:ay}{r:List ZU}(h:r.length=cs.length)(j:Nat)(hj:j<r.length)(hj2:j<cs.length):(iL cs r).take (j+1)=(iL cs r).take j++[(r[j],cs[j].2%4)]:=by
 have hl:j<(iL cs r).length:=by rw[qK h];exact hj
 rw[aeq hl];simp[iL]
def iF:ay->List V->Except Nat Unit
 |c::cs,v::r=>if isNull v=true/\4<=c.2 then .error 11 else iF cs r
 |_,_=> .ok ()
theorem Bo:∀{cs:ay} {r:List V} {k:Nat} (h1:k<cs.length) (h2:k<r.length),isNull r[k]=true->4<=cs[k].2->iF cs r=.error 11
 |c::cs,v::r,0,_,_,h,h'=>by
  unfold iF;rw[if_pos ⟨by simpa using h,by simpa using h'⟩]
 |c::cs,v::r,k+1,h1,h2,h,h'=>by
  unfold iF
  split
  · rfl
  exact Bo (k:=k) (by simpa using h1) (by simpa using h2) (by simpa using h) (by simpa using h')
 |[],_,_,h1,_,_,_=>by simp at h1
 |_::_,[],_,_,h2,_,_=>by simp at h2
theorem zx:∀{cs:ay} {r:List V},(∀(k:Nat) (h1:k<cs.length) (h2:k<r.length),¬(isNull r[k]=true/\4<=cs[k].2))->iF cs r=.ok ()
 |[],_,_=>by simp[iF]
 |_::_,[],_=>by simp[iF]
 |c::cs,v::r,h=>by
  unfold iF;rw[if_neg (show¬(isNull v=true/\4<=c.2)from h 0 (by simp) (by simp))]
  exact zx fun k h1 h2=>h (k+1) (by simpa using h1) (by simpa using h2)
end Mg
namespace Tb
open Bt
theorem IK(cs:abS)(hcs:agn cs)(sv:Y3)(p k:Nat)(hk:k<cs.length)(w:Y4)(hp:p<w.heap.size)(hpc:w.cell? ⟨p,0,Y1⟩=Y2 sv)(hC:agq w sv cs):
   aaT Zc 146 #[Ym (Y2 ⟨p,0,Y1⟩),Yg Yh k] w fun x w'=>x=Yl (Yg Yh ((cs[k].2%4:Nat):Int))/\w'=w:=by
 obtain⟨ao,cap,rfl,hCC⟩:=hC;obtain⟨g,rfl,hg,c0,c1⟩:=hCC k hk;have hc:=hcs.2 cs[k] (acw hk);have hlen:=hcs.1;generalize cs[k]=c at*;obtain⟨cn,ct⟩:=c;simp only at hc c0 c1⊢
 have j1:(k:Int)<(cs.length:Int):=by omega
 clear hCC hcs;generalize cs.length=n at*;rcases hc with rfl|rfl|rfl|rfl|rfl|rfl
 all_goals
  go_enter Tryz.func146,Tryz.ntmps146;go_wp2_with fail;go_ret;exact⟨rfl,rfl⟩
theorem xU(cs:abS)(hcs:agn cs)(row:List abZ)(hr:row.length=cs.length)(sv rv:Y3)(p:Nat)(w:Y4)(hp:p<w.heap.size)(hpc:w.cell? ⟨p,0,Y1⟩=Y2 sv)(hC:agq w sv cs)(hR:agr w rv row):
   aaT Zc 81 #[Ym (Y2 ⟨p,0,Y1⟩),rv] w (Vt w (Mg.iF cs row)):=by
 obtain⟨ao,cap,rfl,hCC⟩:=hC;obtain⟨ro,rcap,rfl,hRR⟩:=hR;have HC:=hd hCC;have HR:=hd hRR;have HCS:=hd hcs;have HLN:=hd hr
 have hlen:row.length<=1000:=by have:=hcs.1;omega
 clear hCC hRR hcs hr;go_enter Tryz.func81,Tryz.ntmps81;go_wp2_with fail;go_loopw [8] (fun i wr=>∃k:Nat,i=Yg Yh k/\k<=row.length/\Yf (aaS w.heap.size w wr)/\Yf (∀(j:Nat) (h1:j<cs.length) (h2:j<row.length),j<k->¬(ace row[j]=true/\4<=cs[j].2))) (fun i _=>row.length-(aeJ i).toNat)
 case atStart=>exact⟨0,rfl,aeR _,Zh _ _,fun j _ _ h=>by omega⟩
 case round=>
  obtain⟨k,rfl,hk,HW,HZ⟩:=hrel;by_cases hlt:k<row.length
  · have hkc:k<cs.length:=by rw[<-HLN.o];exact hlt
    obtain⟨g,hro,hg,r0,r1,r2⟩:=HR.o k hlt;obtain⟨gc,hao,hgc,c0,c1⟩:=HC.o k hkc;have HBAD:=hd (Mg.Bo hkc hlt)
    have HNX:Yf (¬(ace row[k]=true/\4<=cs[k].2)->∀(j:Nat) (h1:j<cs.length) (h2:j<row.length),j<k+1->¬(ace row[j]=true/\4<=cs[j].2)):=by
     intro hz j j1 j2 hj;rcases acg (ach hj)with h|rfl
     · exact HZ.o j j1 j2 h
     exact hz
    have hct:=HCS.o.2 cs[k] (acw hkc);have x0:=(HW.o.cell (p:=⟨g,k*3,Y1⟩) hg).trans r0;have x1:=(HW.o.cell (p:=⟨g,k*3+1,Y1⟩) hg).trans r1;have x2:=(HW.o.cell (p:=⟨g,k*3+2,Y1⟩) hg).trans r2;have lg:=nlA hg HW.o.size;have hin:=Mn.Oj row[k]
    have j1:(k:Int)<(cs.length:Int):=by omega
    generalize row[k]=v at*;generalize cs[k]=c at*;obtain⟨v0,v1,v2⟩:=v;obtain⟨cn,ct⟩:=c;unfold Mn.vV at hin;simp only at x0 x1 x2 c0 c1 hct HBAD HNX hin;have HIN:=hd hin;have HW1:Yf (aaS w.heap.size w (wr.alloc (Yk #[Yg Yh v0,Yg Yh v1,Yi ⟨v2.toArray⟩] 39))):=HW.o.alloc HW.o.size _;have lp1:=nlA hp HW1.o.size
    have HPC:Yf (∀W,aaS w.heap.size w W->W.cell? ⟨p,0,Y1⟩=Y2 (Yp ao cs.length cap)/\W.cell? ⟨gc,k*2+1,Y1⟩=Y2 (Yg Yh (ct:Nat))/\p<W.heap.size/\gc<W.heap.size):=fun W hW=>⟨(hW.cell (p:=⟨p,0,Y1⟩) hp).trans hpc,(hW.cell (p:=⟨gc,k*2+1,Y1⟩) hgc).trans c1,nlA hp hW.size,nlA hgc hW.size⟩
    clear r0 r1 r2 c0 c1 hin;subst hro hao;generalize ace ⟨v0,v1,v2⟩=nl at*;go_wp2_with fail;refine(HIN.o _).mono ?_;rintro x w1 ⟨rfl,hb1⟩;have HW2:=hd (HW1.o.trans (hb1.mono HW1.o.size));obtain⟨y0,y1,y2,y3⟩:=HPC.o w1 HW2.o;clear hb1
    cases nl
    · have HN:=hd (HNX.o (by simp));go_wp2_with fail;refine(kL _ _).mono ?_;rintro x w1 ⟨rfl,rfl⟩;go_wp2_with fail;go_roundw
      case rel=>exact⟨k+1,rfl,by omega,HW2,HN⟩
      case measure=>simp[aeJ];omega
    rcases(show(ct=1\/ct=2\/ct=3)\/(ct=5\/ct=6\/ct=7) by omega)with h|h
    · have HN:=hd (HNX.o (by simp;omega));rcases h with rfl|rfl|rfl
      all_goals
       go_wp2_with fail;refine(kL _ _).mono ?_;rintro x w1 ⟨rfl,rfl⟩;go_wp2_with fail;go_roundw
       case rel=>exact⟨k+1,rfl,by omega,HW2,HN⟩
       case measure=>simp[aeJ];omega
    have HB:=hd (HBAD.o rfl (by omega));rcases h with rfl|rfl|rfl
    all_goals
     go_wp2_with fail;refine(lD 11 _).mono ?_;rintro x w1 ⟨rfl,rfl⟩;exact⟨rfl,HW2.o,by rw[HB.o];rfl⟩
  obtain rfl:k=row.length:=by omega
  have HG:=hd (Mg.zx fun j h1 h2=>HZ.o j h1 h2 h2);go_wp2_with fail
  go_end0
  exact⟨HW.o,by rw[HG.o]⟩
end Tb
end
section
namespace Tb
open Bt
def rM(w:Y4)(v:Y3)(l:List (List ZU)):Prop:=∃vs,w.ownsRow 0 132 1 v l.length vs/\∀(k:Nat) (h:k<l.length),∃u,vs[k]? =Y2 u/\w.ownsRow 0 98 1 u l[k].length (l[k].flatMap nP)
theorem rM.below{l:List (List ZU)}(h:rM w v l)(hb:aaS w.heap.size w w'):rM w' v l:=by
 obtain⟨vs,h1,h2⟩:=h;refine⟨vs,eO h1 hb,fun k hk=> ?_⟩;obtain⟨u,h3,h4⟩:=h2 k hk;exact⟨u,h3,eO h4 hb⟩
def Xa(w:Y4)(r:Except Nat (List (ZU×Nat)))(x:aaY)(w':Y4):Prop:=aaS w.heap.size w w'/\match r with
 |.ok ds=>∃u,x=Yl u/\w'.ownsRow w.heap.size 191 2 u ds.length (ds.flatMap gU)
 |.error c=>x=lL 0 c
def qE(cs:abS)(l:List (List ZU)):Except Nat (List (ZU×Nat)):=if l.all (fun r=>r.length==cs.length)=true then .ok (Mg.bF cs l)else .error 9
theorem NT{cs:abS}{l:List (List ZU)}{r:List ZU}(h:r∈l)(hr:r.length≠cs.length):qE cs l=.error 9:=by
 unfold qE;rw[if_neg];intro ha;have:=List.all_eq_true.1 ha r h;simp at this;exact hr this
theorem sI(cs:abS)(hcs:agn cs)(sv:Y3)(l:List (List ZU))(hl:l.length<=1000000)(hn:(Mg.bF cs l).length<=1000000)(hn2:∀r∈l,r.length<=1000000)(p:Nat)(v:Y3)(w:Y4)(hp:p<w.heap.size)(hpc:w.cell? ⟨p,0,Y1⟩=Y2 sv)(hC:agq w sv cs)(hR:rM w v l):
   aaT Zc 79 #[Ym (Y2 ⟨p,0,Y1⟩),v] w (Xa w (qE cs l)):=by
 obtain⟨i0,hi,hz0,hz1,hz2⟩:=aaX Tryz.info191;obtain⟨vs,hv1,hv2⟩:=hR;obtain⟨ao,cap,rfl,hVV⟩:=dI hv1;have HVS:=hd hVV;have HV2:=hd hv2;have HCA:=hd hC;obtain⟨so,sc,rfl,_⟩:=hC;have HCS:=hd hcs
 have HTK:Yf (∀k,(Mg.bF cs (l.take k)).length<=1000000):=fun k=>by
  refine YB ?_ hn
  conv=>rhs;rw[<-aej k l]
  unfold Mg.bF;rw[aeN,aaN];omega
 have HN2:=hd hn2;go_enter Tryz.func79,Tryz.ntmps79;go_wp2_with fail;go_loopw [5,12] (fun v i wr=>∃(k n:Nat),i=Yg Yh k/\k<=l.length/\Yf (n=(Mg.bF cs (l.take k)).length)/\Yf (aaS w.heap.size w wr)/\Yf ((l.take k).all (fun r=>r.length==cs.length)=true)/\Yf (wr.ownsRow w.heap.size 191 2 v n ((Mg.bF cs (l.take k)).flatMap gU))) (fun _ i _=>l.length-(aeJ i).toNat)
 case atStart=>exact⟨0,0,rfl,aeR _,by show _=_;simp[Mg.bF],Zh _ _,by show _=_;simp,adi _ _ _ _⟩
 case round=>
  obtain⟨k,n,rfl,hk,HN,HW,HAL,HO⟩:=hrel;obtain⟨va,vc,rfl⟩:=ai HO.o;by_cases hlt:k<l.length
  · obtain⟨u,hu1,hu2⟩:=HV2.o k hlt;obtain⟨g,hao,hg,c0⟩:=HVS.o k u hu1;obtain⟨uo,uc,rfl,hUU⟩:=dI hu2;have d0:=(HW.o.cell (p:=⟨g,k,Y1⟩) hg).trans c0;have hg2:=nlA hg HW.o.size;have e0:=(HW.o.cell (p:=⟨p,0,Y1⟩) hp).trans hpc;have hp2:=nlA hp HW.o.size;have HUU:=hd hUU;have HME:=hd (acw hlt);have HCU:=hd (jG l k hlt).1;have hT1:=HTK.o (k+1)
    have hn1:n<=1000000:=by have:=HTK.o k;have:=HN.o;omega
    have hrl:=HN2.o l[k] (acw hlt);generalize l[k]=r at*;subst hao;by_cases hrc:r.length=cs.length
    · have q1:(((r.length:Int))==((cs.length:Int)))=true:=by simp[hrc]
      have HLE:Yf (n+r.length=(Mg.bF cs (l.take (k+1))).length/\Mg.bF cs (l.take (k+1))=Mg.bF cs (l.take k)++Mg.iL cs r):=by
       show _/\_;rw[HCU.o,HN.o];unfold Mg.bF;rw[aeN];simp[Mg.qK hrc]
      have hlim:n+r.length<=1000000:=by have:=HLE.o.1;omega
      have Wj:=hd (zS HCU.o HAL.o (by simp[hrc]));have HRC:=hd hrc;go_wp2_with fail;refine(kL _ _).mono ?_;rintro x wr ⟨rfl,rfl⟩;go_wp2_with fail;go_loopw [5,27] (fun v i wr'=>∃(j:Nat),i=Yg Yh j/\j<=r.length/\Yf (aaS w.heap.size w wr')/\Yf (wr'.ownsRow w.heap.size 191 2 v (n+j) ((Mg.bF cs (l.take k)++(Mg.iL cs r).take j).flatMap gU))) (fun _ i _=>r.length-(aeJ i).toNat)
      case atStart=>exact⟨0,rfl,aeR _,HW,by show aaO _ _ _ _ _ _ _;simpa using HO.o⟩
      case round=>
       obtain⟨j,rfl,hj,HV,HP⟩:=hrel;obtain⟨ua,uc',rfl⟩:=ai HP.o;by_cases hjl:j<r.length
       · have hjc:j<cs.length:=by rw[<-HRC.o];exact hjl
         obtain⟨gu,huo,hgu,x0⟩:=HUU.o j _ (D6 r j hjl);have y0:=(HV.o.cell (p:=⟨gu,j,Y1⟩) hgu).trans x0;have hgu2:=nlA hgu HV.o.size;obtain⟨et,ex,hev⟩:=jc r[j];have HJ:=hd (Mg.LJ HRC.o j hjl hjc);have HTA:=hd (IK cs HCS.o _ p j hjc wr (nlA hp HV.o.size) ((HV.o.cell (p:=⟨p,0,Y1⟩) hp).trans hpc) (HCA.o.below HV.o));generalize r[j]=e at*;generalize cs[j].2%4=ct at*;rw[hev]at y0;have HEV:=hd hev;subst huo;have HO2:=hd (HP.o.alloc (Yk #[Yo et ex,Yg Yh (ct:Int)] 191));go_wp2_with fail;refine HTA.o.mono ?_;rintro x wr ⟨rfl,rfl⟩
         go_wp2_with(first
          |(at_builtin;refine bR rfl _ _ 172 rfl w.heap.size 191 i0 (Yj #[Yq,Yg Yh 0]) 2 24 agw hi hz0 hz1 hz2 rfl (by decide) _ _ _ rfl HO2.o ⟨wr.heap.size,0,Y1⟩ 1 1 [Yo et ex,Yg Yh (ct:Int)] rfl rfl ?c1 ?c2 ?c3 ?c4 ?c5 ?_)
          |fail)
         case c1=>exact Cu wr _ _ _
         case c2=>intro u hu;simp at hu;rcases hu with rfl|rfl<;>rfl
         case c3=>simp only[aaV];omega
         case c4=>omega
         case c5=>have:=HV.o.size;simp;omega
         intro v' w3 hown hgrow _;have HB3:=hd (eu (HV.o.alloc HV.o.size _) hgrow (fun k hk=>(HO2.o.lt k hk).1) (by have:=HV.o.size;simp;omega))
         have HO3:Yf (w3.ownsRow w.heap.size 191 2 v' (n+(j+1)) ((Mg.bF cs (l.take k)++(Mg.iL cs r).take (j+1)).flatMap gU)):=by
          show aaO _ _ _ _ _ _ _;rw[HJ.o];simp only[aeN,YU,aaJ,aaK];rw[show gU (e,ct)=[Yo et ex,Yg Yh (ct:Int)]from by simp[gU,HEV.o]];rw[<-YT,<-laa]
          first|exact hown|simpa using hown
         obtain⟨va',vc',rfl⟩:=ai hown;go_wp2_with fail;go_roundw
         case rel=>exact⟨j+1,rfl,by omega,HB3,HO3⟩
         case measure=>simp[aeJ];omega
       obtain rfl:j=r.length:=by omega
       have HO4:Yf (wr.ownsRow w.heap.size 191 2 (Yp ua (n+r.length) uc') (n+r.length) ((Mg.bF cs (l.take (k+1))).flatMap gU)):=by
        show aaO _ _ _ _ _ _ _;rw[HLE.o.2];have:=HP.o
        rwa [acU (l:=Mg.iL cs r) (by rw[Mg.qK HRC.o];exact nlr _)]at this
       go_wp2_with fail;go_roundw
       case rel=>exact⟨k+1,n+r.length,rfl,by omega,HLE.o.1,HV,Wj,HO4⟩
       case measure=>simp[aeJ];omega
    have q1:(((r.length:Int))==((cs.length:Int)))=false:=by simp;omega
    have HB:=hd (NT HME.o hrc);go_wp2_with fail;refine(Jw _).mono ?_;rintro x wr ⟨rfl,rfl⟩;exact⟨rfl,HW.o,by rw[HB.o];rfl⟩
  obtain rfl:k=l.length:=by omega
  have HOK:Yf (qE cs l=.ok (Mg.bF cs l)):=by show _=_;have:=HAL.o;rw[afI]at this;unfold qE;rw[if_pos this]
  have HO4:Yf (wr.ownsRow w.heap.size 191 2 (Yp va n vc) (Mg.bF cs l).length ((Mg.bF cs l).flatMap gU)):=by
   show aaO _ _ _ _ _ _ _;have h1:=HO.o;have h2:=HN.o;rw[afI]at h1 h2;rw[<-h2];exact h1
  go_wp2_with fail;go_ret;exact⟨HW.o,by rw[HOK.o];exact⟨_,rfl,HO4.o⟩⟩
end Tb
end
section
open Go Go.RowKit
variable {F:Fence}{n:Nat}{P:Program}
def Ib(P:Program)(l:Nat)(R:aaY->Y4->Prop)(e:Exit)(a:Act)(w:Y4):Prop:=
 match e with
 |.panic chain=>a.defers=[]/\R (.panicked chain) w
 |e=>roundPost P l R e a w
theorem vE{f:FuncId}{tmps:Array Y3}{assign body:Code}{R:aaY->Y4->Prop}(hF:F.fn f)(hfn:∃fn,P.funcs[f]? =Y2 fn)
   (h:assign.wpIn (F.inRound l) n P (Exit.then (fun a₁ w₁=>∃w₂,(Instr.beginRound l).run P w₁=.ok () w₂/\body.wpIn (F.inRound l) n P (Ib P l R) a₁ w₂) (fun _ _ _=>False))
     {tmps:=tmps,defers:=[]} w):RoundIn F n P l f tmps assign body w R:=by
 refine⟨hF,fun c cs hr=> ?_⟩;obtain⟨b,hb⟩:∃b:Frame,b={(default:Frame)with fn:=f,kind:=.normal,roundOf:=Y2 l}:=⟨_,rfl⟩
 have hbf:b.fn=f:=by rw[hb]
 have hbr:b.roundOf=Y2 l:=by rw[hb]
 have hstart:Frame.round l f tmps assign body .normal=b.atR {tmps:=tmps,defers:=[]} [.code assign,.beginRound,.code body]:=by
  rw[hb];simp[Frame.round,Frame.atR]
 have hroom:(F.inRound l).room ((c::cs).length+1+n):=hr
 have hin:(F.inRound l).fn b.fn:=by rw[hbf];exact hF
 obtain⟨e1,a1,w1,q1,g1⟩:=h b [.beginRound,.code body] (c::cs) hbr hin hroom;rw[<-hstart]at g1
 cases e1 with
 |normal=>
  obtain⟨w2,Um,hbody⟩:=q1;have go1:=StepsIn.trans g1 (.one (fenced_calm (fr:=b.atR a1 [.beginRound,.code body]) hin hroom rfl) (stepR_beginRound hbr Um));obtain⟨e2,a2,w3,q2,g2⟩:=hbody b [] (c::cs) hbr hin hroom
  have hsome:b.roundOf.isSome=true:=by rw[hbr];rfl
  have hkind:b.kind=.normal:=by rw[hb]
  cases e2 with
  |normal=>
   obtain⟨v,w4,hend,hR⟩:=q2;exact⟨Yl v,w4,hR,go1.trans (StepsIn.trans g2 (.one (fenced_calm (fr:=b.atR a2 []) hin hroom rfl) (stepR_round_end hbr hkind hend)))⟩
  |ret=>
   obtain⟨v,w4,hend,hR⟩:=q2;obtain⟨k,hs⟩:=g2.2 hsome;exact⟨Yl v,w4,hR,go1.trans (StepsIn.trans hs (.one (fenced_calm (fr:=b.atR a2 (.code .ret::k)) hin hroom rfl) (stepR_round_ret hbr hkind hend)))⟩
  |exit id=>
   obtain⟨v,w4,hend,hR⟩:=q2;obtain⟨k,hk,hs⟩:=g2.2 hsome rfl;exact⟨Yl v,w4,hR,go1.trans (StepsIn.trans hs (.one (fenced_calm (fr:=b.atR a2 (.code (.exit id)::k)) hin hroom rfl) (stepR_round_exit hbr hkind hk hend)))⟩
  |goto t=>
   obtain⟨v,w4,hend,hR⟩:=q2;obtain⟨k,hk,hs⟩:=g2.2 hsome rfl;exact⟨Yl v,w4,hR,go1.trans (StepsIn.trans hs (.one (fenced_calm (fr:=b.atR a2 (.code (.goto t)::k)) hin hroom rfl) (stepR_round_goto hbr hkind hk hend)))⟩
  |panic chain=>
   obtain⟨hd,hR⟩:=q2;obtain⟨todo,hs⟩:=g2;obtain⟨fn,hfn⟩:=hfn;have hleave:Frame.leaving P {b.atR a2 todo with mode:=.panicking chain} w3 (.panicked chain):=⟨rfl,hd,fn,by show P.funcs[b.fn]? =_;rw[hbf];exact hfn⟩;exact⟨.panicked chain,w3,hR,go1.trans (StepsIn.trans hs (.one (fenced_leaving (F:=F.inRound l) hin hroom hleave) (step_leave_panicked hleave)))⟩
  |outgrown=>exact q2.elim
 |exit id=>exact q1.elim
 |goto t=>exact q1.elim
 |ret=>exact q1.elim
 |panic chain=>exact q1.elim
 |outgrown=>exact q1.elim
def uE(f:FuncId)(P:Program)(c:Code)(Q:Exit->Act->Y4->Prop)(a:Act)(w:Y4):Prop:=
 ∀(b:Frame) (k:List Item) (cs:List Frame),b.fn=f->b.roundOf=Y1->
   ∃e a' w',Q e a' w'/\ArrivesIn (Machine.fenced P Fence.wide) P (lone (b.atR a (.code c::k)) cs w) b k cs e a' w'
theorem JJ{f:FuncId}{c:Code}{Q:Exit->Act->Y4->Prop}(h:c.wpIn Fence.wide n P Q a w):uE f P c Q a w:=
 fun b k cs _ hr=>h b k cs hr trivial (room_wide _)
theorem yS{f:FuncId}{x y:Code}{Q:Exit->Act->Y4->Prop}(h:x.wpIn Fence.wide n P (Exit.then (fun a w=>uE f P y Q a w) Q) a w):uE f P (.seq x y) Q a w:=by
 intro b k cs hb hr;have h0:(lone (b.atR a (.code (.seq x y)::k)) cs w).fenced P Fence.wide:=fenced_wide _ _;obtain⟨e,a1,w1,q,g⟩:=h b (.code y::k) cs hr trivial (room_wide _)
 cases e with
 |normal=>
  obtain⟨e2,a2,w2,q2,g2⟩:=q b k cs hb hr;exact⟨e2,a2,w2,q2,.of_steps (.head h0 stepR_seq g) g2⟩
 |exit id=>exact⟨_,a1,w1,q,.of_steps (.one h0 stepR_seq) (.pass (x:=.code y) rfl (fun _ _=> .inl (by simp)) g)⟩
 |goto l=>exact⟨_,a1,w1,q,.of_steps (.one h0 stepR_seq) (.pass (x:=.code y) rfl (fun _ _=> .inl (by simp)) g)⟩
 |ret=>exact⟨_,a1,w1,q,.of_steps (.one h0 stepR_seq) (.pass (x:=.code y) rfl (fun _ _=> .inl (by simp)) g)⟩
 |panic ch=>exact⟨_,a1,w1,q,.of_steps (.one h0 stepR_seq) (.pass (x:=.code y) rfl (fun _ _=> .inl (by simp)) g)⟩
 |outgrown=>exact⟨_,a1,w1,q,.of_steps (.one h0 stepR_seq) (.pass (x:=.code y) rfl (fun _ _=> .inl (by simp)) g)⟩
theorem Bw{f:FuncId}{x y:Code}{Q:Exit->Act->Y4->Prop}(h:uE f P x (Exit.then (fun a w=>uE f P y Q a w) Q) a w):uE f P (.seq x y) Q a w:=by
 intro b k cs hb hr;have h0:(lone (b.atR a (.code (.seq x y)::k)) cs w).fenced P Fence.wide:=fenced_wide _ _;obtain⟨e,a1,w1,q,g⟩:=h b (.code y::k) cs hb hr
 cases e with
 |normal=>
  obtain⟨e2,a2,w2,q2,g2⟩:=q b k cs hb hr;exact⟨e2,a2,w2,q2,.of_steps (.head h0 stepR_seq g) g2⟩
 |exit id=>exact⟨_,a1,w1,q,.of_steps (.one h0 stepR_seq) (.pass (x:=.code y) rfl (fun _ _=> .inl (by simp)) g)⟩
 |goto l=>exact⟨_,a1,w1,q,.of_steps (.one h0 stepR_seq) (.pass (x:=.code y) rfl (fun _ _=> .inl (by simp)) g)⟩
 |ret=>exact⟨_,a1,w1,q,.of_steps (.one h0 stepR_seq) (.pass (x:=.code y) rfl (fun _ _=> .inl (by simp)) g)⟩
 |panic ch=>exact⟨_,a1,w1,q,.of_steps (.one h0 stepR_seq) (.pass (x:=.code y) rfl (fun _ _=> .inl (by simp)) g)⟩
 |outgrown=>exact⟨_,a1,w1,q,.of_steps (.one h0 stepR_seq) (.pass (x:=.code y) rfl (fun _ _=> .inl (by simp)) g)⟩
theorem qR{f:FuncId}{id:Nat}{c:Code}{Q:Exit->Act->Y4->Prop}(h:uE f P c (Exit.inBlock id Q) a w):uE f P (.block id c) Q a w:=by
 intro b k cs hb hr;have h0:(lone (b.atR a (.code (.block id c)::k)) cs w).fenced P Fence.wide:=fenced_wide _ _;obtain⟨e,a1,w1,q,g⟩:=h b (.inBlock id::k) cs hb hr
 cases e with
 |normal=>exact⟨.normal,a1,w1,q,.head h0 stepR_block (StepsIn.trans g (.one (fenced_wide _ _) stepR_inBlock))⟩
 |exit j=>
  by_cases hj:j=id
  · simp only[Exit.inBlock,hj,if_true]at q;exact⟨.normal,a1,w1,q,.head h0 stepR_block (g.1 k (by simp[exitTo,hj]))⟩
  simp only[Exit.inBlock,hj,if_false]at q
  have hne:(id==j)=false:=by simp;exact fun h=>hj h.symm
  have hx:exitTo j (.inBlock id::k)=exitTo j k:=by simp[exitTo,hne]
  exact⟨.exit j,a1,w1,q,fun k' hk=> .head h0 stepR_block (g.1 k' (by rw[hx];exact hk)),fun hr' hk=>let ⟨k1,p1,p2⟩:=g.2 hr' (by rw[hx];exact hk);⟨k1,p1,.head h0 stepR_block p2⟩⟩
 |goto t=>
  have hx:gotoIn t (.inBlock id::k)=gotoIn t k:=by simp[gotoIn]
  exact⟨_,a1,w1,q,fun k' hk=> .head h0 stepR_block (g.1 k' (by rw[hx];exact hk)),fun hr' hk=>let ⟨k1,p1,p2⟩:=g.2 hr' (by rw[hx];exact hk);⟨k1,p1,.head h0 stepR_block p2⟩⟩
 |ret=>exact⟨_,a1,w1,q,.of_steps (.one h0 stepR_block) g⟩
 |panic ch=>exact⟨_,a1,w1,q,.of_steps (.one h0 stepR_block) g⟩
 |outgrown=>exact⟨_,a1,w1,q,.of_steps (.one h0 stepR_block) g⟩
def jk(f:FuncId)(a:Act)(ps:Array Tmp)(assign body:Code)(d:Nat):Loop:={state:=.ready,pending:=Y1,fn:=f,tmps:=a.tmps,params:=ps,assign:=assign,body:=body,defers:=d}
def nU(f:FuncId)(a:Act)(ps:Array Tmp)(assign body:Code)(w:Y4):Y4:=(w.alloc (.deferred (Y2 []))).alloc (.loop (jk f a ps assign body w.heap.size))
theorem Mh(f:FuncId)(a:Act)(ps:Array Tmp)(assign body:Code)(w:Y4):(nU f a ps assign body w).heap[w.heap.size+1]? =Y2 (.loop (jk f a ps assign body w.heap.size)):=by
 have:=World.alloc_heap_new (w.alloc (.deferred (Y2 []))) (.loop (jk f a ps assign body w.heap.size))
 rwa [ZC]at this
theorem Ko(f:FuncId)(a:Act)(ps:Array Tmp)(assign body:Code)(w:Y4):(nU f a ps assign body w).heap[w.heap.size]? =Y2 (.deferred (Y2 [])):=
 (Below.heap_alloc _ _ _ (by simp)).trans (World.alloc_heap_new w _)
theorem Eg(f:FuncId)(a:Act)(ps:Array Tmp)(assign body:Code)(w:Y4):aaS w.heap.size w (nU f a ps assign body w):=
 ((Zh _ w).alloc (nlr _) _).alloc (by simp) _
theorem GQ(f:FuncId)(a:Act)(ps:Array Tmp)(assign body:Code)(w:Y4):(nU f a ps assign body w).heap.size=w.heap.size+2:=by simp[nU]
theorem Ik{f:FuncId}{g:Operand}{ps:Array Tmp}{assign body:Code}{Q:Exit->Act->Y4->Prop}{gf:Nat}{lb:Array Y3}
   (hg:a.eval g=.func (.func gf) #[] lb) (eg:∀args w,(callFunc gf args).run P w=.ok (.enter gf args) w)
   (h:CallsIn Fence.wide (n-1) P gf (#[.func (.yield (w.heap.size+1)) #[] #[]]++lb) (nU f a ps assign body w) (rangePost Fence.wide n P (w.heap.size+1) Q {a with defers:={target:=.collected w.heap.size,args:=#[]}::a.defers})):
   uE f P (.rangeFunc g ps assign body) Q a w:=by
 intro b k cs hb hr
 have he:(Instr.enterLoop b.fn a.tmps ps assign body b.roundOf).run P w=.ok (w.heap.size+1,[{target:=.collected w.heap.size,args:=#[]}]) (nU f a ps assign body w):=by
  rw[hb,hr];exact run_enterLoop_outer _ _ _ _ _
 have hres:(resolve a.eval (rangeCall g (w.heap.size+1)) 0).run P (nU f a ps assign body w)=.ok {target:=.fn (.func gf) lb,args:=#[.func (.yield (w.heap.size+1)) #[] #[]]} (nU f a ps assign body w):=by
  simp only[resolve,hg];simp[go_sem]
 have hinv:(invoke (.fn (.func gf) lb) #[.func (.yield (w.heap.size+1)) #[] #[]]).run P (nU f a ps assign body w)=.ok (.enter gf (#[.func (.yield (w.heap.size+1)) #[] #[]]++lb)) (nU f a ps assign body w):=by
  simp[invoke,go_sem,eg]
 have henter:=stepR_rangeFunc (P:=P) (b:=b) (a:=a) (k:=k) (cs:=cs) (w:=w) he hres hinv;have h0:(lone (b.atR a (.code (.rangeFunc g ps assign body)::k)) cs w).fenced P Fence.wide:=fenced_wide _ _;obtain⟨e,w3,fr,hR,hsteps,_,hleave⟩:=h.2 (b.atR {a with defers:=[{target:=.collected w.heap.size,args:=#[]}]++a.defers} (.inRangeFunc (w.heap.size+1)::k)::cs) (room_wide _)
 cases e with
 |outgrown=>
  obtain⟨a0,w0,hq⟩:=hR;exact⟨.outgrown,a0,w0,hq,.inr (Outgrown.of_steps (.one henter) hsteps)⟩
 |returned v=>
  obtain⟨jump,w4,hend,hj⟩:=hR
  have back:StepsIn (Machine.fenced P Fence.wide) P (lone (b.atR a (.code (.rangeFunc g ps assign body)::k)) cs w) (lone (b.atR {a with defers:=[{target:=.collected w.heap.size,args:=#[]}]++a.defers} ((jump.map Item.code).toList++k)) cs w4):=by
   refine .head h0 henter (StepsIn.trans hsteps (.head (fenced_wide _ _) ?_ (.one (fenced_wide _ _) (stepR_endRangeFunc hend))));rw[<-finish_atR_inRangeFunc (w.heap.size+1) v];exact step_leave_returned hleave
  cases jump with
  |none=>exact⟨.normal,_,w4,hj,back⟩
  |some c=>
   obtain⟨e',a'',w5,hq,harr⟩:=hj b k cs hr trivial (room_wide _);exact⟨e',a'',w5,hq,.of_steps back harr⟩
 |panicked chain=>
  refine⟨.panic chain,_,w3,hR,.inRangeFunc (w.heap.size+1)::k,.head h0 henter (StepsIn.trans hsteps (.one (fenced_wide _ _) ?_))⟩;rw[<-Frame.raise_atR];exact step_leave_panicked hleave
theorem og{f:FuncId}{g:Operand}{ps:Array Tmp}{assign body:Code}{Q:Exit->Act->Y4->Prop}{gf:Nat}{lb:Array Y3}
   (hg:a.eval g=.func (.func gf) #[] lb) (eg:∀args w,(callFunc gf args).run P w=.ok (.enter gf args) w)
   (h:∀W1,W1.heap[w.heap.size+1]? =Y2 (.loop (jk f a ps assign body w.heap.size))->W1.heap[w.heap.size]? =Y2 (.deferred (Y2 []))->aaS w.heap.size w W1->W1.heap.size=w.heap.size+2->
     CallsIn Fence.wide (n-1) P gf (#[.func (.yield (w.heap.size+1)) #[] #[]]++lb) W1 (rangePost Fence.wide n P (w.heap.size+1) Q {a with defers:={target:=.collected w.heap.size,args:=#[]}::a.defers})):
   uE f P (.rangeFunc g ps assign body) Q a w:=
 Ik hg eg (h _ (Mh _ _ _ _ _ _) (Ko _ _ _ _ _ _) (Eg _ _ _ _ _ _) (GQ _ _ _ _ _ _))
theorem lU{f:FuncId}{fn:Func}{c:Code}{args:Array Y3}{R:aaY->Y4->Prop}(hf:P.funcs[f]? =Y2 fn)(hb:fn.body=Y2 c)
   (h:uE f P c (bodyPostM Fence.wide n P fn R) {tmps:=args++agz (fn.ntmps-args.size) undef,defers:=[]} w):CallsIn Fence.wide n P f args w R:=by
 refine⟨trivial,fun cs hr=> ?_⟩;obtain⟨b,hB⟩:∃b:Frame,b={(default:Frame)with fn:=f,kind:=.normal,roundOf:=Y1}:=⟨_,rfl⟩
 have hbf:b.fn=f:=by rw[hB]
 have hbr:b.roundOf=Y1:=by rw[hB]
 have hbk:b.kind=.normal:=by rw[hB]
 have hstart:Frame.enter P f args .normal=b.atR {tmps:=args++agz (fn.ntmps-args.size) undef,defers:=[]} [.code c]:=by
  rw[hB];simp[Frame.enter,Frame.atR,hf,hb]
 obtain⟨e,a',w',q,g⟩:=h b [] cs hbf hbr;rw[<-hstart]at g
 have hff:P.funcs[b.fn]? =Y2 fn:=by rw[hbf];exact hf
 cases e with
 |normal=>
  obtain⟨e',w'',fr',hR,hs,hfn,hl⟩:=leaves_stepsInM (F:=Fence.wide) (n:=n) a'.defers .returning w' {b.atR a' []with mode:=.returning} cs rfl rfl rfl hff hbk trivial hr q;exact⟨e',w'',fr',hR,ComesIn.of_steps (StepsIn.trans g (.one (fenced_wide _ _) (stepR_end hbr))) hs,hfn.trans hbf,hl⟩
 |ret=>
  obtain⟨todo,hs0⟩:=g.1 hbr;obtain⟨e',w'',fr',hR,hs,hfn,hl⟩:=leaves_stepsInM (F:=Fence.wide) (n:=n) a'.defers .returning w' {b.atR a' todo with mode:=.returning} cs rfl rfl rfl hff hbk trivial hr q;exact⟨e',w'',fr',hR,ComesIn.of_steps hs0 hs,hfn.trans hbf,hl⟩
 |panic chain=>
  obtain⟨todo,hs0⟩:=g;obtain⟨e',w'',fr',hR,hs,hfn,hl⟩:=leaves_stepsInM (F:=Fence.wide) (n:=n) a'.defers (.panicking chain) w' {b.atR a' todo with mode:=.panicking chain} cs rfl rfl rfl hff hbk trivial hr q;exact⟨e',w'',fr',hR,ComesIn.of_steps hs0 hs,hfn.trans hbf,hl⟩
 |exit id=>exact q.elim
 |goto l=>exact q.elim
 |outgrown=>exact⟨.outgrown,w',b,q,g.resolve_left (by rw[hbk];simp),hbf,trivial⟩
end
section
open Go.RowKit Go.Shelf
attribute [local go_sem] Oper.semAt_some
namespace Bt
theorem take_at{α:Type}(L:List α)(k:Nat)(h:k<L.length)(S:List α):L.take k++L[k]::(L.drop (k+1)++S)=L++S:=by
 have:=aej k L;rw[YM h]at this;rw[<-YI,<-laa,this]
theorem Qt{g g' cap cap':Nat}(h:Value.slice (Y2 ⟨g,0,Y1⟩) n cap=Yp (Y2 ⟨g',0,Y1⟩) n cap'):g=g'/\cap=cap':=by
 injection h with h1 h2 h3;injection h1 with h1;injection h1 with h1;exact⟨h1,h3⟩
structure Kc(B:Nat)(C:List Nat)(W:Y4)(C':List Nat)(W':Y4):Prop where
 size:W.heap.size<=W'.heap.size
 same:∀k,B<=k->k<W.heap.size->k∉C->W'.heap[k]? =W.heap[k]?
 new:∀k∈C',k∈C\/W.heap.size<=k
theorem Kc.refl(B:Nat)(C:List Nat)(W:Y4):Kc B C W C W:=⟨nlr _,fun _ _ _ _=>rfl,fun _ h=> .inl h⟩
theorem Kc.trans{C C1 C2:List Nat}{W2:Y4}(h:Kc B C W C1 W1)(k:Kc B C1 W1 C2 W2):Kc B C W C2 W2:=
 ⟨YB h.size k.size,fun x h1 h2 h3=>(k.same x h1 (nlA h2 h.size) (fun hx=>by rcases h.new x hx with h4|h4;exact h3 h4;omega)).trans (h.same x h1 h2 h3),
  fun x hx=>by
   rcases k.new x hx with h1|h1
   · exact h.new x h1
   right;have:=h.size;omega⟩
theorem Kc.of{C:List Nat}(h:aaS W.heap.size W W'):Kc B C W C W':=⟨h.size,fun k _ h2 _=>h.block k h2,fun _ h=> .inl h⟩
structure Gives(B l:Nat)(Lt:List (Y3×Y3))(G:List (Y3×Y3)->List Nat->Y4->Prop)(X:List PanicEntry->Y4->Prop):Prop where
 more:∀Q C W W',G Q C W->aaS W.heap.size W W'->G Q C W'
 low:∀Q C W,G Q C W->∀k∈C,k<W.heap.size
 kT:∀e∈Lt,wO e
 yield:∀Q e S,Q++e::S=Lt->∀m C W,G Q C W->YieldAt Fence.wide m Zc l #[e.1,e.2] W fun x W'=>∃C',Kc B C W C' W'/\((x=Yl (.bool true)/\G (Q++[e]) C' W')\/(∃c,x=.panicked c/\X c W'))
def Given(B:Nat)(C:List Nat)(W:Y4)(G:List (Y3×Y3)->List Nat->Y4->Prop)(X:List PanicEntry->Y4->Prop)(Q:List (Y3×Y3))(v:Y3)(x:aaY)(W':Y4):Prop:=∃C',Kc B C W C' W'/\((x=Yl v/\G Q C' W')\/(∃c,x=.panicked c/\X c W'))
theorem mP(n l:Nat)(k:Int)(b off:Nat)(ka:Option abR)(kc:Nat)(w:Y4)(hb:b<w.heap.size)(c:w.cell? ⟨b,off+1,Y1⟩=Y2 (Yp ka 0 kc)):
   CallsIn Fence.wide n Zc 169 #[Ym (Y2 ⟨b,off,Y1⟩),Yg Yh k,.func (.yield l) #[] #[]] w fun x w'=>x=Yl (.bool true)/\w'=w:=by
 refine callsIn_wide.2 ?_;go_enter agA,agB;go_wp2_with fail;refine(eF b off _ _ _ hb c).mono ?_;rintro x w1 ⟨rfl,rfl⟩;go_wp2_with fail;go_ret;exact⟨rfl,rfl⟩
theorem vX(n l:Nat)(i m:Nat)(b off:Nat)(gk kc kb:Nat)(B:Nat)(C:List Nat)(W0:Y4)(G:List (Y3×Y3)->List Nat->Y4->Prop)(X:List PanicEntry->Y4->Prop)(Q:List (Y3×Y3))(w:Y4)(hm:((m:Int)==0)=false)(hi:(i:Int)<(m:Int))(hin:i<m)(hb:b<w.heap.size)(c:w.cell? ⟨b,off+1,Y1⟩=Y2 (Yp (Y2 ⟨gk,0,Y1⟩) m kc))(hg:gk<w.heap.size)(ck:w.cell? ⟨gk,i,Y1⟩=Y2 (Ym (Y2 ⟨kb,0,Y1⟩)))
   (h:CallsIn Fence.wide (n-1) Zc 106 #[Ym (Y2 ⟨kb,0,Y1⟩),.func (.yield l) #[] #[]] w (Given B C W0 G X Q (.bool true))):
   CallsIn Fence.wide n Zc 169 #[Ym (Y2 ⟨b,off,Y1⟩),Yg Yh i,.func (.yield l) #[] #[]] w (Given B C W0 G X Q (.bool true)):=by
 refine callsIn_of_wp agA rfl trivial ?_ rfl;simp only[agB,afe,Yw,aeC,agC,agD,agE,agF,agG,agH,YK,YI]
 gi_wp2
 refine⟨trivial,(fun h=>by cases h),(callsIn_wide.2 (gz b off m _ _ _ hm hb c)).mono ?_⟩;rintro x w1 ⟨rfl,rfl⟩
 gi_wp2
 refine⟨trivial,(fun h=>by cases h),h.mono ?_⟩;rintro x w2 ⟨C',hkf,(⟨rfl,hR⟩|⟨c,rfl,hR⟩)⟩
 · gi_wp2
   go_ret;exact⟨C',hkf,.inl ⟨rfl,hR⟩⟩
 exact⟨rfl,C',hkf,.inr ⟨c,rfl,hR⟩⟩
theorem PM(B l:Nat)(Lt:List (Y3×Y3))(G:List (Y3×Y3)->List Nat->Y4->Prop)(X:List PanicEntry->Y4->Prop)(hY:Gives B l Lt G X)(w:Y4)(hB:B<=w.heap.size):
   ∀(d lo hi:Nat) (L:List (Y3×Y3)) (b off:Nat) (ve vk:Y3) (F:List Nat) (P S:List (Y3×Y3)),hi<=7->(d=0\/1<=lo)->Nd Tr w d lo hi L ve vk F->b<w.heap.size->w.cell? ⟨b,off,Y1⟩=Y2 ve->w.cell? ⟨b,off+1,Y1⟩=Y2 vk->
     (∀Q C W,G Q C W->w.heap.size<=W.heap.size/\∀k∈b::F,W.heap[k]? =w.heap[k]?)->P++L++S=Lt->∀(n:Nat) (C:List Nat) (W:Y4),G P C W->
     CallsIn Fence.wide n Zc 106 #[Ym (Y2 ⟨b,off,Y1⟩),.func (.yield l) #[] #[]] W (Given B C W G X (P++L) (.bool true)):=by
 intro d
 induction d with
 |zero=>
  intro lo hi L b off ve vk F P S hhi hlo hN hb c0 c1 hK hL n C W hGP;obtain⟨⟨h1,h2⟩,hown,⟨ka,kc,rfl⟩,rfl⟩:=hN
  have hsl:(ve=Yp Y1 0 0/\L.length=0)\/∃g cap,ve=Yp (Y2 ⟨g,0,Y1⟩) L.length cap:=by
   rcases hown.2 with h|⟨g,cap,cur,h1,_⟩
   · exact .inl h
   exact .inr ⟨g,cap,h1⟩
  have HOW:=hd hown;rcases hsl with⟨rfl,hL0⟩|⟨g,cap,rfl⟩
  · have hLn:L=[]:=aed hL0;subst hLn;have hs0:=(hK P C W hGP).1;have d0:=(Y8 (w:=w) (a:=⟨b,off,Y1⟩) ((hK P C W hGP).2 b (by simp))).trans c0;have d1:=(Y8 (w:=w) (a:=⟨b,off+1,Y1⟩) ((hK P C W hGP).2 b (by simp))).trans c1
    have hb0:b<W.heap.size:=by omega
    have HGE:Yf (G (P++[]) C W):=by show G _ _ _;simpa using hGP
    refine callsIn_of_wp agI rfl trivial ?_ rfl;simp only[agJ,afe,Yw,aeC,agC,agD,agE,agF,agG,agH,YK,YI]
    gi_wp2
    gi_loopw [12] (fun i wr=>i=Yg Yh 0/\wr=W) (fun i _=>0)
    case atStart=>exact⟨rfl,rfl⟩
    case round=>
     obtain⟨rfl,rfl⟩:=hrel
     gi_wp2
     refine⟨trivial,(fun h=>by cases h),(mP (n-1) l 0 b off ka kc _ hb0 d1).mono ?_⟩;rintro x w1 ⟨rfl,rfl⟩
     gi_wp2
     go_ret;exact⟨C,Kc.refl _ _ _,.inl ⟨rfl,HGE.o⟩⟩
  skip
  have HK:=hd hK;have HL:=hd hL
  have hlen:L.length<=7:=by omega
  have HN0:Yf (G (P++L.take 0) C W):=by show G _ _ _;simpa using hGP
  have hs0:=(hK P C W hGP).1;have d0:=(Y8 (w:=w) (a:=⟨b,off,Y1⟩) ((hK P C W hGP).2 b (by simp))).trans c0
  have hb0:b<W.heap.size:=by omega
  refine callsIn_of_wp agI rfl trivial ?_ rfl;simp only[agJ,afe,Yw,aeC,agC,agD,agE,agF,agG,agH,YK,YI]
  gi_wp2
  gi_loopw [12] (fun i wr=>∃(k:Nat) (C':List Nat),i=Yg Yh k/\k<=L.length/\Yf (Kc B C W C' wr)/\Yf (G (P++L.take k) C' wr)) (fun i _=>L.length-(aeJ i).toNat)
  case atStart=>exact⟨0,C,rfl,aeR _,Kc.refl _ _ _,HN0⟩
  case round=>
   obtain⟨k,C',rfl,hk,HKF,HG⟩:=hrel;have hKw:=HK.o _ _ _ HG.o;have hsz:=hKw.1;have e1:=(Y8 (w:=w) (a:=⟨b,off+1,Y1⟩) (hKw.2 b (by simp))).trans c1;have e0:=(Y8 (w:=w) (a:=⟨b,off,Y1⟩) (hKw.2 b (by simp))).trans c0
   have hbw:b<wr.heap.size:=by omega
   by_cases hlt:k<L.length
   · obtain⟨g',cap',hv,_,hg,_,_,hcl⟩:=CR HOW.o (by omega);obtain⟨rfl,rfl⟩:=Qt hv
     have hgw:g<wr.heap.size:=by omega
     have hbg:=hKw.2 g (by simp[own,aaR]);have x0:=(Y8 (w:=w) (a:=⟨g,k*2,Y1⟩) hbg).trans (hcl _ _ (fo L k hlt));have x1:=(Y8 (w:=w) (a:=⟨g,k*2+1,Y1⟩) hbg).trans (hcl _ _ (eZ L k hlt));have NC:=hd (aeq hlt);have HY:=hd (hY.yield (P++L.take k) L[k] (L.drop (k+1)++S) (by rw[<-HL.o,laa,take_at L k hlt S,laa]));obtain⟨z,ra,rn,rc,hek⟩:=hY.kT L[k] (by rw[<-HL.o];simp[acw hlt]);generalize L[k]=ek at*;subst hek
     have HB0:Yf (aaS wr.heap.size wr (wr.alloc (Yk #[Yg Yh z,Yp ra rn rc] 265))):=by show aaS _ _ _;go_grown
     have f1:=(HB0.o.cell (p:=⟨b,off+1,Y1⟩) hbw).trans e1;have hbw2:=nlA hbw HB0.o.size;obtain⟨fn,tmps,assign,body,hy,hR⟩:=HY.o (n-1) C' _ (hY.more _ _ _ _ HG.o HB0.o)
     gi_wp2
     refine⟨trivial,(fun h=>by cases h),(mP (n-1) l k b off ka kc _ hbw2 f1).mono ?_⟩;rintro x w1 ⟨rfl,rfl⟩
     gi_wp2
     refine⟨(fun h=>by cases h),hR.mono ?_⟩;rintro e W3 ⟨C3,hkf,(⟨rfl,hG3⟩|⟨c,rfl,hX⟩)⟩
     · gi_wp2
       go_roundw
       case rel=>exact⟨k+1,C3,rfl,by omega,HKF.o.trans ((Kc.of HB0.o).trans hkf),by show G _ _ _;rw[NC.o,<-laa];exact hG3⟩
       case measure=>simp[aeJ];omega
     exact⟨rfl,C3,HKF.o.trans ((Kc.of HB0.o).trans hkf),.inr ⟨c,rfl,hX⟩⟩
   obtain rfl:k=L.length:=by omega
   have HGE:Yf (G (P++L) C' wr):=by have:=HG.o;rwa [afI]at this
   gi_wp2
   refine⟨trivial,(fun h=>by cases h),(mP (n-1) l L.length b off ka kc _ hbw e1).mono ?_⟩;rintro x w1 ⟨rfl,rfl⟩
   gi_wp2
   go_ret;exact⟨C',HKF.o,.inl ⟨rfl,HGE.o⟩⟩
 |succ d ih=>
  intro lo hi L b off ve vk F P S hhi hlo hN hb c0 c1 hK hL n C W hGP;obtain⟨es,ks,⟨h1,h2⟩,hlen,hown,kI,rfl,rfl,hkids⟩:=hN
  have h0:es.length≠0:=by omega
  obtain⟨g,cap,rfl,_,hg,_,_,hcl⟩:=CR hown h0;obtain⟨gk,ck,rfl,_,hgk,_,_,Xz⟩:=CR kI (by omega)
  have hle7:es.length<=7:=by omega
  have HK:=hd hK;have HL:=hd hL;have HKI:=hd hkids;have HCL:=hd hcl;have HCK:=hd Xz;have HLN:=hd hlen
  have HM:Yf ((ks.map aM.L).length=es.length+1):=by show _=_;simp[hlen]
  have HN0:Yf (G (P++pre (ks.map aM.L) es 0) C W):=by show G _ _ _;rw[uA];simpa using hGP
  have hs0:=(hK P C W hGP).1;have d0:=(Y8 (w:=w) (a:=⟨b,off,Y1⟩) ((hK P C W hGP).2 b (by simp))).trans c0
  have hb0:b<W.heap.size:=by omega
  rw[hlen]at c1;generalize hkl:es.length+1=m at*;refine callsIn_of_wp agI rfl trivial ?_ rfl;simp only[agJ,afe,Yw,aeC,agC,agD,agE,agF,agG,agH,YK,YI]
  gi_wp2
  gi_loopw [12] (fun i wr=>∃(k:Nat) (C':List Nat),i=Yg Yh k/\k<=es.length/\Yf (Kc B C W C' wr)/\Yf (G (P++pre (ks.map aM.L) es k) C' wr)) (fun i _=>es.length-(aeJ i).toNat)
  case atStart=>exact⟨0,C,rfl,aeR _,Kc.refl _ _ _,HN0⟩
  case round=>
   obtain⟨k,C',rfl,hk,HKF,HG⟩:=hrel;have hKw:=HK.o _ _ _ HG.o;have hsz:=hKw.1;have e1:=(Y8 (w:=w) (a:=⟨b,off+1,Y1⟩) (hKw.2 b (by simp))).trans c1;have e0:=(Y8 (w:=w) (a:=⟨b,off,Y1⟩) (hKw.2 b (by simp))).trans c0
   have hbw:b<wr.heap.size:=by omega
   have hkm:k<ks.length:=by rw[HLN.o];omega
   have hm0:((m:Int)==0)=false:=by simp;omega
   have Uc:gk<wr.heap.size:=by omega
   have y0:=(Y8 (w:=w) (a:=⟨gk,k,Y1⟩) (hKw.2 gk (by simp[own,aaR]))).trans (HCK.o k _ (show(ks.map aM.ptr)[k]? =Y2 ks[k].ptr by simp[hkm]))
   have HKK:Yf (∀(n':Nat) (C':List Nat) (W':Y4),G (P++pre (ks.map aM.L) es k) C' W'->CallsIn Fence.wide n' Zc 106 #[Ym (Y2 ⟨ks[k].b,0,Y1⟩),.func (.yield l) #[] #[]] W' (Given B C' W' G X (P++pre (ks.map aM.L) es k++ks[k].L) (.bool true))):=by
    intro n' C' W' hG';obtain⟨hblk,hnd⟩:=HKI.o ks[k] (acw hkm)
    have hcut:∃S',P++pre (ks.map aM.L) es k++ks[k].L++S'=Lt:=by
     rw[<-HL.o];by_cases hlt:k<es.length
     · obtain⟨S',hS'⟩:=Ct (ks.map aM.L) es k hlt (HM.o.trans hkl.symm);exact⟨es[k]::S'++S,by rw[hS'];simp⟩
     obtain rfl:k=es.length:=by omega
     exact⟨S,by rw[Df (ks.map aM.L) es (HM.o.trans hkl.symm)];simp⟩
    obtain⟨S',hS'⟩:=hcut;refine ih 3 6 ks[k].L ks[k].b 0 ks[k].ve ks[k].vk ks[k].F _ S' (by omega) (.inr (by omega)) hnd hblk.lt (hblk.cell 0) (hblk.cell 1) (fun Q C2 W2 h2=>⟨(HK.o Q C2 W2 h2).1,fun x hx=>(HK.o Q C2 W2 h2).2 x ?_⟩) hS' n' C' W' hG';refine List.mem_cons_of_mem _ (aec _ (List.mem_flatMap.2 ⟨ks[k],acw hkm,hx⟩))
   generalize TE:ks[k]=kid at*;by_cases hlt:k<es.length
   · have hgw:g<wr.heap.size:=by omega
     have hbg:=hKw.2 g (by simp[own,aaR]);have x0:=(Y8 (w:=w) (a:=⟨g,k*2,Y1⟩) hbg).trans (HCL.o _ _ (fo es k hlt));have x1:=(Y8 (w:=w) (a:=⟨g,k*2+1,Y1⟩) hbg).trans (HCL.o _ _ (eZ es k hlt))
     have NC:Yf (pre (ks.map aM.L) es (k+1)=pre (ks.map aM.L) es k++kid.L++[es[k]]):=by
      show _=_;rw[Gs _ _ k hlt (by simpa using hkm)];simp[TE]
     obtain⟨S',hS'⟩:=Ct (ks.map aM.L) es k hlt (HM.o.trans hkl.symm);have HY:=hd (hY.yield (P++pre (ks.map aM.L) es k++kid.L) es[k] (S'++S) (by rw[<-HL.o,hS'];simp[TE]));obtain⟨z,ra,rn,rc,hek⟩:=hY.kT es[k] (by rw[<-HL.o,hS'];simp);generalize es[k]=ek at*;subst hek
     have HB0:Yf (aaS wr.heap.size wr (wr.alloc (Yk #[Yg Yh z,Yp ra rn rc] 265))):=by show aaS _ _ _;go_grown
     have HBK:=hd (ae.new wr #[Yg Yh z,Yp ra rn rc] 265);have f1:=(HB0.o.cell (p:=⟨b,off+1,Y1⟩) hbw).trans e1;have f2:=(HB0.o.cell (p:=⟨gk,k,Y1⟩) Uc).trans y0;have hbw2:=nlA hbw HB0.o.size;have VZ:=nlA Uc HB0.o.size;have HWK:=hd (HKK.o (n-1-1) C' _ (hY.more _ _ _ _ HG.o HB0.o))
     have TB:(k:Int)<(m:Int):=by omega
     have Uw:k<m:=by omega
     gi_wp2
     refine⟨trivial,(fun h=>by cases h),(vX (n-1) l k m b off gk ck kid.b B C' _ G X _ _ hm0 TB Uw hbw2 f1 VZ f2 HWK.o).mono ?_⟩;rintro x w2 ⟨C2,Lg,(⟨rfl,hG2⟩|⟨c,rfl,hX⟩)⟩
     · have hbk:w2.heap[wr.heap.size]? =(wr.alloc (Yk #[Yg Yh z,Yp ra rn rc] 265)).heap[wr.heap.size]?:=Lg.same _ (by omega) HBK.o.lt (fun hx=>by have:=hY.low _ _ _ HG.o _ hx;omega);have Vy:Yf (ae w2 wr.heap.size #[Yg Yh z,Yp ra rn rc] 265):=hbk.trans HBK.o;obtain⟨p0,p1⟩:=Vy.o.d2;have hl2:=Vy.o.lt;have U6:=hd (HKF.o.trans ((Kc.of HB0.o).trans Lg));obtain⟨fn,tmps,assign,body,hy,hR⟩:=HY.o (n-1) C2 _ hG2
       gi_wp2
       refine⟨(fun h=>by cases h),hR.mono ?_⟩;rintro e W3 ⟨C3,Vi,(⟨rfl,hG3⟩|⟨c,rfl,hX⟩)⟩
       · gi_wp2
         go_roundw
         case rel=>exact⟨k+1,C3,rfl,by omega,U6.o.trans Vi,by show G _ _ _;rw[NC.o,<-laa,<-laa];exact hG3⟩
         case measure=>simp[aeJ];omega
       exact⟨rfl,C3,U6.o.trans Vi,.inr ⟨c,rfl,hX⟩⟩
     exact⟨rfl,C2,HKF.o.trans ((Kc.of HB0.o).trans Lg),.inr ⟨c,rfl,hX⟩⟩
   obtain rfl:k=es.length:=by omega
   have TB:(es.length:Int)<(m:Int):=by omega
   have Uw:es.length<m:=by omega
   have HPE:Yf (P++pre (ks.map aM.L) es es.length++kid.L=P++aF (ks.map aM.L) es):=by
    show _=_;rw[Df (ks.map aM.L) es (HM.o.trans hkl.symm)];simp[TE]
   have HWK:=hd (HKK.o (n-1-1) C' _ HG.o)
   gi_wp2
   refine⟨trivial,(fun h=>by cases h),(vX (n-1) l es.length m b off gk ck kid.b B C' _ G X _ _ hm0 TB Uw hbw e1 Uc y0 HWK.o).mono ?_⟩;rintro x w2 ⟨C2,Lg,(⟨rfl,hG2⟩|⟨c,rfl,hX⟩)⟩
   · gi_wp2
     go_ret;exact⟨C2,HKF.o.trans Lg,.inl ⟨rfl,by rw[<-HPE.o];exact hG2⟩⟩
   exact⟨rfl,C2,HKF.o.trans Lg,.inr ⟨c,rfl,hX⟩⟩
end Bt
end
section
open Go.RowKit Go.Shelf
attribute [local go_sem] Oper.semAt_some
namespace Tw
structure WM(w:Y4)(p g cap gv cv:Nat):Prop where
 hp:p<w.heap.size
 hg:g<w.heap.size
 bz:w.cell? ⟨p,1,Y1⟩=Y2 (Yp (Y2 ⟨g,0,Y1⟩) 1 cap)
 kids:w.cell? ⟨p,2,Y1⟩=Y2 (Yp Y1 0 0)
 key:w.cell? ⟨g,0,Y1⟩=Y2 (Yg Yh 0)
 row:w.cell? ⟨g,1,Y1⟩=Y2 (Yp (Y2 ⟨gv,0,Y1⟩) 1 cv)
end Tw
end
section
open Go.RowKit Go.Shelf
attribute [local go_sem] Oper.semAt_some
namespace Tw
theorem jQ{o:Obj}(h:B<=l):aaS B w (w.putObj l o):=
 ⟨rfl,rfl,rfl,by simp[World.putObj],fun k hk=>World.putObj_heap_other (by omega)⟩
structure Apart(a b:Nat)(W W':Y4):Prop where
 os:W'.os=W.os
 tape:W'.tape=W.tape
 output:W'.output=W.output
 size:W.heap.size<=W'.heap.size
 block:∀k,k<a\/b<=k->k<W.heap.size->W'.heap[k]? =W.heap[k]?
theorem Apart.trans{a:Nat}{u v:Y4}(h:Apart a b u v)(g:Apart a b v w):Apart a b u w:=
 ⟨g.os.trans h.os,g.tape.trans h.tape,g.output.trans h.output,YB h.size g.size,fun k hk hl=>(g.block k hk (nlA hl h.size)).trans (h.block k hk hl)⟩
theorem fU{a:Nat}{o:Obj}(h:a<=l)(h2:l<b):Apart a b w (w.putObj l o):=
 ⟨rfl,rfl,rfl,by simp[World.putObj],fun k hk _=>World.putObj_heap_other (by omega)⟩
theorem Apart.cell{a:Nat}(h:Apart a b w w'){p:abR}(hp:p.block<a\/b<=p.block)(hl:p.block<w.heap.size):w'.cell? p=w.cell? p:=Y8 (w:=w) (h.block p.block hp hl)
theorem Re(p:Nat)(w:Y4):aaT Zc 42 #[Ym (Y2 ⟨p,1,Y1⟩)] w fun x w'=>x=Yl (.func (.func 105) #[] #[Ym (Y2 ⟨w.heap.size,0,Y1⟩)])/\w'=w.alloc (Yk #[Ym (Y2 ⟨p,1,Y1⟩)] 213):=by
 go_enter Tryz.func42,Tryz.ntmps42;go_wp2_with fail;go_ret;exact⟨rfl,rfl⟩
theorem Dp(tv rv:Y3)(w:Y4):aaT Zc 152 #[tv,Yq,rv] w fun x w'=>x=Yl (.bool true)/\w'=w:=by
 go_enter agK,agL;go_wp2_with fail;go_ret;exact⟨rfl,rfl⟩
end Tw
end
section
open Go.RowKit Go.Shelf
attribute [local go_sem] Oper.semAt_some
namespace Mg
def aY(cs:ay)(row:List V):Option ZU->Except Nat Bool
 |none=> .ok true
 |some e=>match value cs row e with
  |.error c=> .error c
  |.ok v=> .ok (isTrue v)
end Mg
namespace Tw
open Bt
def XL(w:Y4)(r:Except Nat Bool)(x:aaY)(w':Y4):Prop:=aaS w.heap.size w w'/\match r with
 |.ok b=>x=Yl (.bool b)
 |.error c=>x=lL 0 c
theorem Dh(cs:abS)(hcs:agn cs)(row:List abZ)(hr:agp cs row)(sv rv:Y3)(o:Option ZU)(ho:∀e,o=Y2 e->e.ok 2000/\acm cs e=true/\∃t,acD cs e=.ok t)(p:Nat)(w:Y4)(hp:p<w.heap.size)(hpc:w.cell? ⟨p,0,Y1⟩=Y2 sv)(hC:agq w sv cs)(hR:agr w rv row):
   aaT Zc 152 #[Ym (Y2 ⟨p,0,Y1⟩),ev? o,rv] w (XL w (Mg.aY cs row o)):=by
 cases o with
 |none=>
  refine(Dp _ _ w).mono ?_;rintro x w1 ⟨rfl,rfl⟩;exact⟨Zh _ _,rfl⟩
 |some e=>
  obtain⟨h1,h2,t,h3⟩:=ho e rfl;have hv:=Mn.BI cs hcs row hr sv rv e t h1 h2 h3 w hC hR;obtain⟨et,ex,hev⟩:=jc e;have Ce:ev? (Y2 e)=Yo et ex:=hev;rw[Ce];rw[hev]at hv;have HV:=hd hv;obtain⟨ao,cap,hrv,_⟩:=hR;obtain⟨bo,cb,hsv,_⟩:=hC;subst hrv hsv
  have HC:Yf (Mg.aY cs row (Y2 e)=match acn cs row e with
   |.error c=> .error c
   |.ok v=> .ok (Mg.isTrue v)):=rfl
  clear hv hev Ce;go_enter agK,agL;go_wp2_with fail;refine HV.o.mono ?_;rintro x w1 ⟨hb,hx⟩;have HB1:=hd hb;have HX:=hd hx;clear hb hx
  cases hval:acn cs row e with
  |error c=>
   rw[hval]at HX HC;obtain rfl:=HX.o;exact⟨rfl,HB1.o,by rw[HC.o];rfl⟩
  |ok v=>
   rw[hval]at HX HC;obtain rfl:=HX.o;clear HX hval;go_wp2_with fail;refine(Mn.zg v _).mono ?_;rintro x w2 ⟨rfl,hb2⟩;have HB2:Yf (aaS w.heap.size w w2):=HB1.o.trans (hb2.mono HB1.o.size);clear hb2;generalize Mg.isTrue v=f at*;go_wp2_with fail;go_ret;exact⟨HB2.o,by rw[HC.o];rfl⟩
end Tw
end
section
open Go.RowKit Go.Shelf
attribute [local go_sem] Oper.semAt_some
namespace Mn
theorem bA.keep{cs:abS}(h:bA w v cs)(hs:w.heap.size<=w'.heap.size)(hk:∀g∈agM v,w'.heap[g]? =w.heap[g]?):bA w' v cs:=by
 obtain⟨ao,cap,rfl,h2⟩:=h;refine⟨ao,cap,rfl,fun k hkl=> ?_⟩;obtain⟨g,rfl,h4,h5,h6⟩:=h2 k hkl;have hb:=hk g (by simp[agM,aaR]);exact⟨g,rfl,by omega,(Y8 (w:=w) hb).trans h5,(Y8 (w:=w) hb).trans h6⟩
theorem fI.keep{row:List abZ}(h:fI w v row)(hs:w.heap.size<=w'.heap.size)(hk:∀g∈agM v,w'.heap[g]? =w.heap[g]?):fI w' v row:=by
 obtain⟨ao,cap,rfl,h2⟩:=h;refine⟨ao,cap,rfl,fun k hkl=> ?_⟩;obtain⟨g,rfl,h4,h5,h6,h7⟩:=h2 k hkl;have hb:=hk g (by simp[agM,aaR]);exact⟨g,rfl,by omega,(Y8 (w:=w) hb).trans h5,(Y8 (w:=w) hb).trans h6,(Y8 (w:=w) hb).trans h7⟩
end Mn
namespace Tw
open Bt
theorem MX(B l:Nat)(Lt:List (Y3×Y3))(G:List (Y3×Y3)->List Nat->Y4->Prop)(X:List PanicEntry->Y4->Prop)(hY:Gives B l Lt G X)(w:Y4)(hB:B<=w.heap.size)(d lo hi:Nat)(p:Nat)(ve vk:Y3)(F:List Nat)(hhi:hi<=7)(hlo:d=0\/1<=lo)(hN:Nd Tr w d lo hi Lt ve vk F)(hp:p<w.heap.size)(c1:w.cell? ⟨p,1,Y1⟩=Y2 ve)(c2:w.cell? ⟨p,2,Y1⟩=Y2 vk)
   (hK:∀Q C W,G Q C W->w.heap.size<=W.heap.size/\∀k∈p::F,W.heap[k]? =w.heap[k]?) (n bx:Nat) (C:List Nat) (W:Y4) (hG:G [] C W) (hb:bx<W.heap.size) (hbx:W.cell? ⟨bx,0,Y1⟩=Y2 (Ym (Y2 ⟨p,1,Y1⟩))):
   CallsIn Fence.wide n Zc 105 #[.func (.yield l) #[] #[],Ym (Y2 ⟨bx,0,Y1⟩)] W (Given B C W G X Lt (Yn #[])):=by
 have HW:=hd (PM B l Lt G X hY w hB d lo hi Lt p 1 ve vk F [] [] hhi hlo hN hp c1 c2 hK (by simp) (n-1) C W hG);have hpW:p<W.heap.size:=nlA hp (hK [] C W hG).1;refine callsIn_of_wp agN rfl trivial ?_ rfl;simp only[Tryz.ntmps105,afe,Yw,aeC,agC,agD,agE,agF,agG,agH,YK,YI]
 gi_wp2
 refine⟨trivial,(fun h=>by cases h),HW.o.mono ?_⟩;rintro e W3 ⟨C',hkf,(⟨rfl,hG3⟩|⟨c,rfl,hX⟩)⟩
 · gi_wp2
   go_end0
   exact⟨C',hkf,.inl ⟨rfl,by simpa using hG3⟩⟩
 exact⟨rfl,C',hkf,.inr ⟨c,rfl,hX⟩⟩
structure WB(w:Y4)(l:Nat)(cs:abS)(o:Option ZU)(rowOf:Y3×Y3->List abZ)(L:List (Y3×Y3))(K:List Nat)(G:List (Y3×Y3)->List Nat->Y4->Prop)(X:List PanicEntry->Y4->Prop):Prop where
 more:∀Q C W W',G Q C W->aaS W.heap.size W W'->G Q C W'
 low:∀Q C W,G Q C W->∀k∈C,w.heap.size+4<=k/\k<W.heap.size
 apart:∀Q C W W',G Q C W->Apart w.heap.size (w.heap.size+4) W W'->G Q C W'
 keep:∀Q C W,G Q C W->w.heap.size<=W.heap.size/\∀k∈K,W.heap[k]? =w.heap[k]?
 kT:∀e∈L,wO e
 yield:∀Q e S,Q++e::S=L->Mg.aY cs (rowOf e) o=.ok true->∀m C W,G Q C W->w.heap.size+4<=W.heap.size->YieldAt Fence.wide m Zc l #[e.1,e.2] W fun x W'=>∃C',Bt.Kc w.heap.size C W C' W'/\((x=Yl (.bool true)/\G (Q++[e]) C' W')\/(∃c,x=.panicked c/\X c W'))
 skip:∀Q e S,Q++e::S=L->Mg.aY cs (rowOf e) o=.ok false->∀C W,G Q C W->G (Q++[e]) C W
 err:∀Q e S c,Q++e::S=L->Mg.aY cs (rowOf e) o=.error c->∀C W,G Q C W->X [{v:=Yo 74 (Yj #[Yg Yh ((0:Nat):Int),Yg Yh (c:Int)]),recovered:=false}] W
 xpart:∀c W W',X c W->Apart w.heap.size (w.heap.size+4) W W'->X c W'
theorem vK(n l bt bw p:Nat)(cs:abS)(hcs:agn cs)(sv:Y3)(o:Option ZU)(ho:∀e,o=Y2 e->e.ok 2000/\acm cs e=true/\∃t,acD cs e=.ok t)(rowOf:Y3×Y3->List abZ)(L:List (Y3×Y3))(K:List Nat)(G:List (Y3×Y3)->List Nat->Y4->Prop)(X:List PanicEntry->Y4->Prop)(w:Y4)(hA:WB w l cs o rowOf L K G X)
   (hbt:bt<w.heap.size) (ht:w.cell? ⟨bt,0,Y1⟩=Y2 (Ym (Y2 ⟨p,0,Y1⟩))) (hbw:bw<w.heap.size) (hw:w.cell? ⟨bw,0,Y1⟩=Y2 (ev? o)) (d lo hi:Nat) (ve vk:Y3) (F:List Nat) (hhi:hi<=7) (hlo:d=0\/1<=lo) (hN:Nd Tr w d lo hi L ve vk F) (hp:p<w.heap.size)
   (c0:w.cell? ⟨p,0,Y1⟩=Y2 sv) (c1:w.cell? ⟨p,1,Y1⟩=Y2 ve) (c2:w.cell? ⟨p,2,Y1⟩=Y2 vk) (hC:agq w sv cs) (hrows:∀e∈L,agr w e.2 (rowOf e)/\agp cs (rowOf e))
   (hK1:bt∈K/\bw∈K/\p∈K/\(∀k∈F,k∈K)/\(∀g∈own sv,g∈K)/\∀e∈L,∀g∈own e.2,g∈K) (hG:G [] [] w):
   CallsIn Fence.wide n Zc 151 #[.func (.yield l) #[] #[],Ym (Y2 ⟨bt,0,Y1⟩),Ym (Y2 ⟨bw,0,Y1⟩)] w fun e W'=>(e=Yl (Yn #[])/\∃C,G L C W')\/(∃c,e=.panicked c/\X c W'):=by
 refine lU agO rfl ?_;simp only[Tryz.ntmps151,afe,Yw,aeC,agC,agD,agE,agF,agG,agH,YK,YI];have HASK:=hd hA;have HND:=hd hN;have HCO:=hd hC;have HRO:=hd hrows;have HK1:=hd hK1;have HG0:=hd hG;have HO:=hd ho;have HCS:=hd hcs;refine yS (n:=n) ?_
 gi_wp2
 refine yS (n:=n) ?_
 have HB0:Yf (aaS w.heap.size w (w.alloc (Yk #[.func (.yield l) #[] #[]] 214))):=by show aaS _ _ _;go_grown
 have d0:=(HB0.o.cell (p:=⟨bt,0,Y1⟩) hbt).trans ht;have hbt0:=nlA hbt HB0.o.size
 gi_wp2
 refine⟨trivial,(fun h=>by cases h),(callsIn_wide.2 (Re p _)).mono ?_⟩;rintro x w1 ⟨rfl,rfl⟩
 gi_wp2
 have HV:Yf (aaS w.heap.size w ((w.alloc (Yk #[.func (.yield l) #[] #[]] 214)).alloc (Yk #[Ym (Y2 ⟨p,1,Y1⟩)] 213))):=by show aaS _ _ _;go_grown
 have HVs:Yf (((w.alloc (Yk #[.func (.yield l) #[] #[]] 214)).alloc (Yk #[Ym (Y2 ⟨p,1,Y1⟩)] 213)).heap.size=w.heap.size+2):=by show _=_;simp
 have HYB:=hd ((ae.new w #[.func (.yield l) #[] #[]] 214).alloc (Yk #[Ym (Y2 ⟨p,1,Y1⟩)] 213));have HAB:=hd (ae.new (w.alloc (Yk #[.func (.yield l) #[] #[]] 214)) #[Ym (Y2 ⟨p,1,Y1⟩)] 213);generalize ((w.alloc (Yk #[.func (.yield l) #[] #[]] 214)).alloc (Yk #[Ym (Y2 ⟨p,1,Y1⟩)] 213))=V at*;rw[ZC]at HAB;refine qR (og (n:=n) (gf:=105) (lb:=#[Ym (Y2 ⟨w.heap.size+1,0,Y1⟩)]) rfl (enters_of agN (by kernel_rfl) rfl) ?_);rw[HVs.o];intro W1 hrec hdef hb1 hs1;have HBW:=hd (HV.o.trans (hb1.mono (by omega)));have HYC:=hd ((hb1.cell (p:=⟨w.heap.size,0,Y1⟩) (by simp)).trans ((HYB.o.cell 0).trans rfl));have HAC:=hd ((hb1.cell (p:=⟨w.heap.size+1,0,Y1⟩) (by simp)).trans ((HAB.o.cell 0).trans rfl))
 have hlt1:w.heap.size+3<W1.heap.size:=by rw[hs1];omega
 have uZ:=hd hrec;have FP:=hd hdef
 have HS1:Yf (W1.heap.size=w.heap.size+4):=by show _=_;rw[hs1]
 show CallsIn Fence.wide (n-1) Zc 105 #[.func (.yield (w.heap.size+2+1)) #[] #[],Ym (Y2 ⟨w.heap.size+1,0,Y1⟩)] W1 _;have hG1:G [] [] W1:=HASK.o.more _ _ _ _ HG0.o HBW.o
 refine(MX W1.heap.size (w.heap.size+2+1) L
   (fun Q C W=>G Q C W/\W1.heap.size<=W.heap.size/\W.heap[w.heap.size+2+1]? =W1.heap[w.heap.size+2+1]? /\W.heap[w.heap.size+2]? =W1.heap[w.heap.size+2]? /\W.heap[w.heap.size]? =W1.heap[w.heap.size]?)
   (fun c W=>X c W/\W.heap[w.heap.size+2]? =W1.heap[w.heap.size+2]?) ⟨?_,fun Q C W h k hk=>(HASK.o.low Q C W h.1 k hk).2,HASK.o.kT,?_⟩ W1 (nlr _) d lo hi p ve vk F hhi hlo (HND.o.below HBW.o) (nlA hp HBW.o.size) ((HBW.o.cell (p:=⟨p,1,Y1⟩) hp).trans c1) ((HBW.o.cell (p:=⟨p,2,Y1⟩) hp).trans c2) ?_ (n-1) (w.heap.size+1) [] W1 ⟨hG1,nlr _,rfl,rfl,rfl⟩ (by omega) HAC.o).mono ?_
 · rintro Q C W W' ⟨g1,g2,g3,g4,g5⟩ hb;exact⟨HASK.o.more _ _ _ _ g1 hb,YB g2 hb.size,(hb.block _ (by omega)).trans g3,(hb.block _ (by omega)).trans g4,(hb.block _ (by omega)).trans g5⟩
 · rintro Q e S hQ m C W ⟨g1,g2,g3,g4,g5⟩;have hrW:=g3.trans uZ.o
   have heL:e∈L:=by rw[<-hQ];simp
   obtain⟨z,ra,rn,rc,hez⟩:=HASK.o.kT e heL;obtain⟨hrv,QF⟩:=HRO.o e heL;obtain⟨k1,k2⟩:=HASK.o.keep _ _ _ g1;have HLC:=hd (HASK.o.low _ _ _ g1);have HGQ:=hd g1;have HQ:=hd hQ;refine⟨_,_,_,_,run_yield hrW rfl,vE trivial ⟨_,agO⟩ ?_⟩;simp only[jk]
   gi_wp2
   refine⟨_,run_beginRound hrW rfl,?_⟩;generalize hW2:W.putObj (w.heap.size+2+1) _=W2
   have HP:Yf (∀k,k≠w.heap.size+2+1->W2.heap[k]? =W.heap[k]?):=fun k hk=>by rw[<-hW2];exact World.putObj_heap_other hk
   have HR2:Yf (∃r:Loop,W1.heap[w.heap.size+2+1]? =Y2 (.loop r)/\r.pending=Y1/\r.state=.ready/\W2.heap[w.heap.size+2+1]? =Y2 (.loop {r with state:=.busy})):=⟨_,uZ.o,rfl,rfl,by rw[<-hW2];exact World.putObj_heap_same (by omega)⟩
   have hs2:W2.heap.size=W.heap.size:=by rw[<-hW2];simp[World.putObj]
   have HG2:Yf (G Q C W2):=by rw[<-hW2];exact HASK.o.apart _ _ _ _ g1 (fU (by omega) (by omega))
   have HKB:=hd ((HASK.o.keep _ _ _ HG2.o).2);have e0:=(Y8 (w:=w) (a:=⟨bt,0,Y1⟩) (HKB.o bt HK1.o.1)).trans ht;have e1:=(Y8 (w:=w) (a:=⟨bw,0,Y1⟩) (HKB.o bw HK1.o.2.1)).trans hw
   have e2:W2.cell? ⟨w.heap.size,0,Y1⟩=Y2 (.func (.yield l) #[] #[]):=by
    rw[Y8 (w:=W1) ((HP.o w.heap.size (by omega)).trans g5)];exact HYC.o
   have hlt2:bt<W2.heap.size:=by omega
   have hlt3:bw<W2.heap.size:=by omega
   have Vf:w.heap.size<W2.heap.size:=by omega
   have HIC:=hd (Dh cs HCS.o (rowOf e) QF sv e.2 o HO.o p W2 (by omega) ((Y8 (w:=w) (a:=⟨p,0,Y1⟩) (HKB.o p HK1.o.2.2.1)).trans c0) (HCO.o.keep (by omega) fun g hg=>HKB.o g (HK1.o.2.2.2.2.1 g hg)) (hrv.keep (by omega) fun g hg=>HKB.o g (HK1.o.2.2.2.2.2 e heL g hg)));have HSZ:=hd (g2);have HD4:=hd g4;have HD5:=hd g5;obtain⟨ek,er⟩:=e;simp only at HIC hez⊢;injection hez with hz1 hz2;subst hz1 hz2
   gi_wp2
   refine⟨trivial,(fun h=>by cases h),(CallsIn.inRound _ (callsIn_wide.2 HIC.o)).mono ?_⟩;rintro x W3 ⟨hb3,hx3⟩;have HG3:=hd (HASK.o.more _ _ _ _ HG2.o hb3);have hs3:=hb3.size;have HB3:=hd hb3;have e3:=(hb3.cell (p:=⟨w.heap.size,0,Y1⟩) Vf).trans e2;have hlt5:=nlA Vf hs3
   cases hch:Mg.aY cs (rowOf (Yg Yh z,Yp ra rn rc)) o with
   |error c=>
    rw[hch]at hx3;obtain rfl:=hx3;refine⟨rfl,C,⟨?_,?_,fun k hk=> .inl hk⟩,.inr ⟨_,rfl,HASK.o.err Q _ S c HQ.o hch _ _ HG3.o,?_⟩⟩
    · omega
    · intro k hk1 hk2 _;have:=HSZ.o;rw[HB3.o.block k (by omega),HP.o k (by omega)]
    rw[HB3.o.block _ (by omega),HP.o _ (by omega)];exact HD4.o
   |ok b=>
    rw[hch]at hx3;obtain rfl:=hx3
    cases b with
    |false=>
     have HG4:=hd (HASK.o.skip Q _ S HQ.o hch _ _ HG3.o)
     gi_wp2
     refine⟨(fun f h=>by cases h),?_⟩
     gi_wp2
     obtain⟨r,hr1,hp1,TL,hr2⟩:=HR2.o;have hr4:=(HB3.o.block (w.heap.size+2+1) (by omega)).trans hr2;refine⟨_,_,run_endRound Y1 hr4,C,⟨?_,?_,fun k hk=> .inl hk⟩,.inl ⟨rfl,HASK.o.apart _ _ _ _ HG4.o (fU (by omega) (by omega)),?_,?_,?_,?_⟩⟩
     · simp[World.putObj];omega
     · intro k hk1 hk2 _;rw[World.putObj_heap_other (by omega),HB3.o.block k (by omega),HP.o k (by omega)]
     · simp[World.putObj];omega
     · rw[World.putObj_heap_same (by omega),hr1]
       cases r
       cases hp1
       cases TL
       rfl
     · rw[World.putObj_heap_other (by omega),HB3.o.block _ (by omega),HP.o _ (by omega)];exact HD4.o
     rw[World.putObj_heap_other (by omega),HB3.o.block _ (by omega),HP.o _ (by omega)];exact HD5.o
    |true=>
     obtain⟨fn',tmps',assign',body',hy,hR⟩:=HASK.o.yield Q _ S HQ.o hch (m-1) C W3 HG3.o (by omega)
     gi_wp2
     refine⟨(fun h=>by cases h),(hR:RoundIn (Fence.wide.inRound _) _ _ _ _ _ _ _ _ _).mono ?_⟩;rintro x4 W4 ⟨C4,hkf,(⟨rfl,g4'⟩|⟨c,rfl,hx⟩)⟩
     · gi_wp2
       obtain⟨r,hr1,hp1,TL,hr2⟩:=HR2.o;have hs4:=hkf.size;have hlc:=HLC.o;have hr4:=((hkf.same (w.heap.size+2+1) (by omega) (by omega) (fun hx=>by have:=(hlc _ hx).1;omega)).trans (HB3.o.block (w.heap.size+2+1) (by omega))).trans hr2;refine⟨_,_,run_endRound Y1 hr4,C4,⟨?_,?_,fun k hk=>by rcases hkf.new k hk with h|h;exact .inl h;right;omega⟩,.inl ⟨rfl,HASK.o.apart _ _ _ _ g4' (fU (by omega) (by omega)),?_,?_,?_,?_⟩⟩
       · simp[World.putObj];omega
       · intro k hk1 hk2 hk3;rw[World.putObj_heap_other (by omega),hkf.same k (by omega) (by omega) hk3,HB3.o.block k (by omega),HP.o k (by omega)]
       · simp[World.putObj];omega
       · rw[World.putObj_heap_same (by omega),hr1]
         cases r
         cases hp1
         cases TL
         rfl
       · rw[World.putObj_heap_other (by omega),hkf.same _ (by omega) (by omega) (fun hx=>by have:=(hlc _ hx).1;omega),HB3.o.block _ (by omega),HP.o _ (by omega)];exact HD4.o
       rw[World.putObj_heap_other (by omega),hkf.same _ (by omega) (by omega) (fun hx=>by have:=(hlc _ hx).1;omega),HB3.o.block _ (by omega),HP.o _ (by omega)];exact HD5.o
     have hlc:=HLC.o;refine⟨rfl,C4,⟨?_,?_,fun k hk=>by rcases hkf.new k hk with h|h;exact .inl h;right;omega⟩,.inr ⟨c,rfl,hx,?_⟩⟩
     · have:=hkf.size;omega
     · intro k hk1 hk2 hk3;rw[hkf.same k (by omega) (by omega) hk3,HB3.o.block k (by omega),HP.o k (by omega)]
     rw[hkf.same _ (by omega) (by omega) (fun hx=>by have:=(hlc _ hx).1;omega),HB3.o.block _ (by omega),HP.o _ (by omega)];exact HD4.o
 · rintro Q C W ⟨g1,g2,_⟩;refine⟨g2,fun k hk=> ?_⟩
   have hkK:k∈K:=by
    rcases List.mem_cons.1 hk with rfl|hk
    · exact HK1.o.2.2.1
    exact HK1.o.2.2.2.1 k hk
   have hkl:k<w.heap.size:=by
    rcases List.mem_cons.1 hk with rfl|hk
    · exact hp
    exact HND.o.lt k hk
   rw[(HASK.o.keep _ _ _ g1).2 k hkK,HBW.o.block k hkl]
 rintro e W' ⟨C',hkf,(⟨rfl,g1,g2,g3,g4,g5⟩|⟨c,rfl,hx,hd'⟩)⟩
 · have hr2:=g3.trans uZ.o;have hd2:=g4.trans FP.o;refine⟨_,_,run_endLoop hr2 (by simp[jk]),?_⟩;refine⟨by simp,.inl ⟨_,_,rfl,run_takeDeferred ((World.putObj_heap_other (by omega)).trans hd2),?_⟩⟩;exact⟨_,results_none rfl _ _ _,.inl ⟨rfl,C',HASK.o.apart _ _ _ _ (HASK.o.apart _ _ _ _ g1 (fU (by omega) (by omega))) (fU (by omega) (by omega))⟩⟩
 have hd2:=hd'.trans FP.o;refine⟨by simp,.inl ⟨_,_,rfl,run_takeDeferred hd2,?_⟩⟩;exact .inr ⟨c,rfl,HASK.o.xpart _ _ _ hx (fU (by omega) (by omega))⟩
end Tw
end
section
namespace Tb
open Bt
abbrev aN:=List (Int×List abZ)
def bg(w:Y4):List (Y3×Y3)->aN->Prop
 |[],[]=>True
 |e::L,m::M=>(e.1=Yg Yh m.1/\agr w e.2 m.2)/\bg w L M
 |_,_=>False
theorem bg.len:∀{L:List (Y3×Y3)} {M:aN},bg w L M->L.length=M.length
 |[],[],_=>rfl
 |_::_,_::_,h=>by simp[bg.len h.2]
 |[],_::_,h=>h.elim
 |_::_,[],h=>h.elim
theorem bg.keep(hs:w.heap.size<=w'.heap.size):∀{L:List (Y3×Y3)} {M:aN},bg w L M->(∀e∈L,∀g∈own e.2,w'.heap[g]? =w.heap[g]?)->bg w' L M
 |[],[],_,_=>trivial
 |e::L,m::M,h,hk=>⟨⟨h.1.1,h.1.2.keep hs fun g hg=>hk e (by simp) g hg⟩,bg.keep hs h.2 fun e he=>hk e (by simp[he])⟩
 |[],_::_,h,_=>h.elim
 |_::_,[],h,_=>h.elim
theorem bg.snoc{e:Y3×Y3}{m:Int×List abZ}(h1:e.1=Yg Yh m.1)(h2:agr w e.2 m.2):∀{L:List (Y3×Y3)} {M:aN},bg w L M->bg w (L++[e]) (M++[m])
 |[],[],_=>⟨⟨h1,h2⟩,trivial⟩
 |_::_,_::_,h=>⟨h.1,bg.snoc h1 h2 h.2⟩
 |[],_::_,h=>h.elim
 |_::_,[],h=>h.elim
theorem Cb{r:List abZ}(h:agr w v r):∃a n c,v=Yp a n c:=by obtain⟨a,c,h,_⟩:=h;exact⟨_,_,_,h⟩
theorem bg.less{z:Int}:∀{L:List (Y3×Y3)} {M:aN},bg w L M->(∀m∈M,m.1<z)->Less L z
 |[],[],_,_=>fun e he=>by simp at he
 |e::L,m::M,h,hz=>fun x hx=>by
  rcases List.mem_cons.1 hx with rfl|hx
  · obtain⟨a,n,c,hv⟩:=Cb h.1.2;exact⟨m.1,a,n,c,by rw[<-h.1.1,<-hv],hz m (by simp)⟩
  exact bg.less h.2 (fun m hm=>hz m (by simp[hm])) x hx
 |[],_::_,h,_=>h.elim
 |_::_,[],h,_=>h.elim
theorem bg.mem:∀{L:List (Y3×Y3)} {M:aN},bg w L M->∀e∈L,∃m∈M,e.1=Yg Yh m.1/\agr w e.2 m.2
 |[],[],_,e,he=>by simp at he
 |a::L,m::M,h,e,he=>by
  rcases List.mem_cons.1 he with rfl|he
  · exact⟨m,by simp,h.1⟩
  obtain⟨x,hx,h2⟩:=bg.mem h.2 e he;exact⟨x,by simp[hx],h2⟩
 |[],_::_,h,_,_=>h.elim
 |_::_,[],h,_,_=>h.elim
theorem bg.ord:∀{L:List (Y3×Y3)} {M:aN},bg w L M->M.Pairwise (fun a b=>a.1<b.1)->Ord L
 |[],[],_,_=>List.Pairwise.nil
 |e::L,m::M,h,ho=>List.Pairwise.cons (fun x hx=>by
     obtain⟨y,hy,h1,_⟩:=bg.mem h.2 x hx
     exact⟨m.1,y.1,h.1.1,h1,aeT ho hy⟩) (bg.ord h.2 ho.of_cons)
 |[],_::_,h,_=>h.elim
 |_::_,[],h,_=>h.elim
theorem bg.kT{L:List (Y3×Y3)}{M:aN}(h:bg w L M):∀e∈L,wO e:=fun e he=>by
 obtain⟨m,_,h1,h2⟩:=h.mem e he;obtain⟨a,n,c,hv⟩:=Cb h2;exact⟨m.1,a,n,c,by rw[<-h1,<-hv]⟩
def EG(sv ve vk:Y3)(c n:Int):Array Y3:=#[sv,ve,vk,Yg Yh c,Yg Yh n]
structure TabAt(w:Y4)(p:Nat)(cs:abS)(M:aN)(nx:Int)(F R:List Nat)(sv ve vk:Y3)(d:Nat)(L:List (Y3×Y3)):Prop where
 blk:ae w p (EG sv ve vk (M.length:Nat) nx) 128
 cols:agq w sv cs
 root:Root w d L ve vk F
 bz:bg w L M
 nodup:(p::F).Nodup
 rows:∀e∈L,∀g∈own e.2,g∈R
 colr:∀g∈own sv,g∈R
 apart:∀g∈R,g∉p::F
 low:∀g∈R,g<w.heap.size
structure jL(cs:abS)(M:aN)(nx:Int):Prop where
 cols:agn cs
 rows:∀m∈M,agp cs m.2
 rise:M.Pairwise fun a b=>a.1<b.1
 less:∀m∈M,m.1<nx
 pos:0<=nx
 few:M.length<=200
theorem TabAt.lt{cs:abS}{M:aN}{L:List (Y3×Y3)}(h:TabAt w p cs M nx F R sv ve vk d L):∀g∈p::(F++R),g<w.heap.size:=by
 intro g hg;simp only[aeQ,List.mem_append]at hg;rcases hg with rfl|hg|hg
 · exact h.blk.lt
 · exact h.root.lt g hg
 exact h.low g hg
theorem TabAt.keep{cs:abS}{M:aN}{L:List (Y3×Y3)}(h:TabAt w p cs M nx F R sv ve vk d L)(hs:w.heap.size<=w'.heap.size)(hk:∀g∈p::(F++R),w'.heap[g]? =w.heap[g]?):TabAt w' p cs M nx F R sv ve vk d L:=
 ⟨by have:=hk p (by simp);unfold ae at*;rw[this];exact h.blk,h.cols.keep hs fun g hg=>hk g (by simp[h.colr g hg]),h.root.keep fun g hg=>hk g (by simp[hg]),h.bz.keep hs fun e he g hg=>hk g (by simp[h.rows e he g hg]),h.nodup,h.rows,h.colr,h.apart,fun g hg=>nlA (h.low g hg) hs⟩
theorem TabAt.below{cs:abS}{M:aN}{L:List (Y3×Y3)}(h:TabAt w p cs M nx F R sv ve vk d L)(hb:aaS w.heap.size w w'):TabAt w' p cs M nx F R sv ve vk d L:=
 h.keep hb.size fun g hg=>hb.block g (h.lt g hg)
def fu(nx:Int):List (List abZ)->aN
 |[]=>[]
 |r::l=>(nx,r)::fu (nx+1) l
theorem Br(r:List abZ):∀(l:List (List abZ)) (nx:Int),fu nx (l++[r])=fu nx l++[(nx+l.length,r)]
 |[],nx=>by simp[fu]
 |a::l,nx=>by simp[fu,Br r l (nx+1)];omega
theorem xZ:∀(l:List (List abZ)) (nx:Int),(fu nx l).length=l.length
 |[],_=>rfl
 |a::l,nx=>by simp[fu,xZ l]
theorem kK:∀{l:List (List abZ)} {nx:Int} {m:Int×List abZ},m∈fu nx l->nx<=m.1/\m.1<nx+l.length/\m.2∈l
 |[],_,_,h=>by simp[fu]at h
 |a::l,nx,m,h=>by
  simp only[fu,aeQ]at h;rcases h with rfl|h
  · exact⟨Int.le_refl _,by simp;omega,by simp⟩
  obtain⟨h1,h2,h3⟩:=kK h;exact⟨by omega,by simp;omega,by simp[h3]⟩
theorem uN:∀(l:List (List abZ)) (nx:Int),(fu nx l).Pairwise fun a b=>a.1<b.1
 |[],_=>List.Pairwise.nil
 |a::l,nx=>List.Pairwise.cons (fun x hx=>by have:=(kK hx).1;show nx<x.1;omega) (uN l _)
theorem jL.more{cs:abS}{M:aN}(h:jL cs M nx)(l:List (List abZ))(hr:∀r∈l,agp cs r)(hf:M.length+l.length<=200):jL cs (M++fu nx l) (nx+l.length):=by
 refine⟨h.cols,fun m hm=> ?_,?_,fun m hm=> ?_,by have:=h.pos;omega,by simp[xZ];omega⟩
 · rcases List.mem_append.1 hm with hm|hm
   · exact h.rows m hm
   exact hr _ (kK hm).2.2
 · exact List.pairwise_append.2 ⟨h.rise,uN l nx,fun a ha b hb=>by have:=h.less a ha;have:=(kK hb).1;omega⟩
 rcases List.mem_append.1 hm with hm|hm
 · have:=h.less m hm;omega
 exact(kK hm).2.1
def fQ(cs:abS):List (List ZU)->Except Nat (List (List abZ))
 |[]=> .ok []
 |r::l=>match Mg.vals [] [] r with
  |.error c=> .error c
  |.ok v=>match Mg.iF cs v with
   |.error c=> .error c
   |.ok _=>match fQ cs l with
    |.error c=> .error c
    |.ok vs=> .ok (v::vs)
theorem Bn{cs:abS}{r:List ZU}{v:List abZ}(hv:Mg.vals [] [] r=.ok v)(hn:Mg.iF cs v=.ok ()):∀{l:List (List ZU)} {vs:List (List abZ)},fQ cs l=.ok vs->fQ cs (l++[r])=.ok (vs++[v])
 |[],vs,h=>by simp only[fQ]at h;cases h;simp[fQ,hv,hn]
 |a::l,vs,h=>by
  simp only[fQ]at h
  cases ha:Mg.vals [] [] a with
  |error d=>rw[ha]at h;cases h
  |ok u=>
   rw[ha]at h;simp only at h
   cases hb:Mg.iF cs u with
   |error d=>rw[hb]at h;cases h
   |ok _=>
    rw[hb]at h;simp only at h
    cases hr:fQ cs l with
    |error d=>rw[hr]at h;cases h
    |ok m=>
     rw[hr]at h;simp only at h
     cases h
     simp only[YI,fQ,ha,hb,Bn hv hn hr]
theorem yO{cs:abS}{r:List ZU}{s:List (List ZU)}(he:Mg.vals [] [] r=.error c\/∃v,Mg.vals [] [] r=.ok v/\Mg.iF cs v=.error c):∀{l:List (List ZU)} {vs:List (List abZ)},fQ cs l=.ok vs->fQ cs (l++r::s)=.error c
 |[],vs,h=>by
  rcases he with he|⟨v,h1,h2⟩
  · simp[fQ,he]
  simp[fQ,h1,h2]
 |a::l,vs,h=>by
  simp only[fQ]at h
  cases ha:Mg.vals [] [] a with
  |error d=>rw[ha]at h;cases h
  |ok u=>
   rw[ha]at h;simp only at h
   cases hb:Mg.iF cs u with
   |error d=>rw[hb]at h;cases h
   |ok _=>
    rw[hb]at h;simp only at h
    cases hr:fQ cs l with
    |error d=>rw[hr]at h;cases h
    |ok m=>simp only[YI,fQ,ha,hb,yO he hr]
def kZ(cs:abS)(n:Nat)(l:List (List ZU)):Except Nat (List (List abZ)):=match qE cs l with
 |.error c=> .error c
 |.ok ds=>match Mg.bJ [] ds with
  |.error c=> .error c
  |.ok _=>match fQ cs l with
   |.error c=> .error c
   |.ok vs=>if n+vs.length<=200 then .ok vs else .error 15
end Tb
end
section
namespace Mg
theorem JC{cs:ay}{row:List V}:∀{r:List ZU} {l:List V},vals cs row r=.ok l->∀(k:Nat) (h:k<r.length) (h2:k<l.length),value cs row r[k]=.ok l[k]
 |[],l,h,k,hk,_=>by simp at hk
 |a::r,l,h,k,hk,h2=>by
  simp only[vals]at h
  cases ha:value cs row a with
  |error d=>rw[ha]at h;cases h
  |ok w=>
   rw[ha]at h;simp only at h
   cases hr:vals cs row r with
   |error d=>rw[hr]at h;cases h
   |ok m=>
    rw[hr]at h;simp only at h
    cases h
    cases k with
    |zero=>simpa using ha
    |succ k=>
     have:=JC hr k (by simpa using hk) (by simpa using h2);simpa using this
theorem LU(a b:Nat):fits a b=fits b a:=by
 unfold fits;rw[Zd];simp only[YC,beq_iff_eq];omega
theorem AJ:jB [] []:=⟨rfl,fun v h=>by simp at h,fun i c v h=>by simp at h⟩
theorem Bc:fF []:=⟨by simp,fun c h=>by simp at h⟩
theorem zQ{cs:ay}{r:List ZU}(j:Nat)(hj:j<r.length)(hj2:j<cs.length):(r[j],cs[j].2%4)∈iL cs r:=by
 unfold iL;refine List.mem_map.2 ⟨(r[j],cs[j]),?_,rfl⟩
 have:(r.zip cs)[j]'(by simp;omega)=(r[j],cs[j]):=by simp
 rw[<-this];exact acw _
theorem PN{cs:ay}(hcs:fF cs){l:List (List ZU)}{r:List ZU}{v:List V}(hr:r∈l)(hlen:r.length=cs.length)(hc:bJ [] (bF cs l)=.ok ())(hok:∀e∈r,e.ok 2000)(hv:vals [] [] r=.ok v):jB cs v:=by
 have hl:=Fv hv
 have key:∀(k:Nat) (h1:k<cs.length) (h2:k<v.length),G5 v[k]/\Has v[k] (cs[k].2%4):=by
  intro k h1 h2
  have hk:k<r.length:=by omega
  obtain⟨h3,t,h4,h5⟩:=lJ hc (r[k],cs[k].2%4) (List.mem_flatMap.2 ⟨r,hr,zQ k hk h1⟩);obtain⟨a1,a2⟩:=sound AJ r[k] t v[k] (hok _ (acw hk)) h4 (JC hv k hk h2);refine⟨a1,xE a2 (by rw[LU];exact h5) ?_ fun h0=>P5 (h0▸a2)⟩;have:=hcs.2 cs[k] (acw h1);omega
 refine⟨by omega,fun x hx=> ?_,fun i c x h1 h2=> ?_⟩
 · obtain⟨k,hk,rfl⟩:=aeg hx;exact(key k (by omega) hk).1
 obtain⟨p1,q1⟩:=List.getElem?_eq_some_iff.1 h1;obtain⟨p2,q2⟩:=List.getElem?_eq_some_iff.1 h2;have:=(key i p1 p2).2;rw[q1,q2]at this;exact this
end Mg
namespace Tb
open Bt
theorem own_ne{b':Nat}{T':Y5}{s' n':Nat}{v':Y3}{xs':List Y3}(h:w.ownsRow b T s v n xs)(h':w.ownsRow b' T' s' v' n' xs')(hT:T≠T'):∀g∈own v,g∉own v':=by
 intro g hg hg';rcases h.2 with⟨rfl,_⟩|⟨g1,_,_,rfl,_,h1,_⟩
 · simp[own,aaR]at hg
 rcases h'.2 with⟨rfl,_⟩|⟨g2,_,_,rfl,_,h2,_⟩
 · simp[own,aaR]at hg'
 simp[own,aaR]at hg hg';subst hg hg';rw[h1]at h2;injection h2 with h2;injection h2 with _ h2;exact hT h2
theorem C9{r:List abZ}(h:w.ownsRow b 39 3 v r.length (r.flatMap Mg.vC)):agr w v r:=by
 obtain⟨ao,cap,rfl,h2⟩:=dI h;refine⟨ao,cap,rfl,fun k hk=> ?_⟩;obtain⟨a,b,c⟩:=Mg.SF r k hk;obtain⟨g,hg,hgl,e0⟩:=h2 _ _ a;obtain⟨g1,hg1,_,e1⟩:=h2 _ _ b;obtain⟨g2,hg2,_,e2⟩:=h2 _ _ c;rw[hg]at hg1 hg2;injection hg1 with hg1;injection hg1 with hg1;injection hg2 with hg2;injection hg2 with hg2;subst hg1 hg2;exact⟨g,hg,hgl,e0,e1,e2⟩
theorem RN{w6:Y4}{cs:abS}{M:aN}{L:List (Y3×Y3)}(h:TabAt w p cs M nx F R sv ve vk d L){ra:Option abR}{rn rc:Nat}{r:List abZ}{d':Nat}{ve' vk':Y3}{F':List Nat}
   (ht:wW w w6 p 1 (EG sv ve vk (M.length:Nat) nx) 128 (L++[(Yg Yh nx,Yp ra rn rc)]) F ((M.length:Nat)+1) d' ve' vk' F') (hr:agr w (Yp ra rn rc) r) (hv:∀g∈own (Yp ra rn rc),g∈R):
   TabAt (w6.setCell ⟨p,4,Y1⟩ (Yg Yh (nx+1))) p cs (M++[(nx,r)]) (nx+1) F' R sv ve' vk' d' (L++[(Yg Yh nx,Yp ra rn rc)]):=by
 have hpl:=h.blk.lt
 have hpF:p∉F':=fun hx=>by
  have a1:=List.count_pos_iff.2 hx;have a2:=bu h.nodup p;have a3:=ht.cnt p;simp only[aD,if_true]at a2;omega
 have T6:ax (p::F) w (w6.setCell ⟨p,4,Y1⟩ (Yg Yh (nx+1))):=ht.gP.set _ _ (.inl (by simp))
 have hkR:∀g∈R,(w6.setCell ⟨p,4,Y1⟩ (Yg Yh (nx+1))).heap[g]? =w.heap[g]?:=fun g hg=>T6.block g (h.low g hg) (h.apart g hg)
 refine⟨?_,h.cols.keep T6.size fun g hg=>hkR g (h.colr g hg),ht.root.keep fun k hk=>Zb _ _ _ _ (fun e=>hpF (by rw[<-(show k=p from e)];exact hk)),?_,?_,?_,h.colr,?_,fun g hg=>nlA (h.low g hg) T6.size⟩
 · have:=ht.blk.set 4 (Yg Yh (nx+1));simpa[EG]using this
 · refine bg.snoc rfl (hr.keep T6.size fun g hg=>hkR g (hv g hg)) (h.bz.keep T6.size fun e he g hg=>hkR g (h.rows e he g hg))
 · refine fJ fun x=> ?_
   have a1:=bu h.nodup x;have a3:=ht.cnt x
   have a4:p=x->F'.count x=0:=fun e=>by subst e;exact List.count_eq_zero.2 hpF
   have i1:=jl p x;simp only[aD]at a1⊢;by_cases b1:p=x
   · have:=a4 b1;omega
   simp only[b1,if_false]at*;omega
 · intro e he g hg;rcases List.mem_append.1 he with he|he
   · exact h.rows e he g hg
   simp at he;subst he;exact hv g hg
 intro g hg hx;have a0:=h.apart g hg;have a1:=h.low g hg;simp only[aeQ,not_or]at a0;rcases List.mem_cons.1 hx with rfl|hx
 · exact a0.1 rfl
 have a2:=List.count_pos_iff.2 hx;rcases ht.cnt g with a3|a3
 · exact a0.2 (List.count_pos_iff.1 (by omega))
 omega
end Tb
end
section
namespace Tb
open Bt
theorem NJ(w:Y4):aaT Zc 73 #[.bool false,Yg Yh 15] w fun x w'=>x=lL 0 15/\w'=w:=lD 15 w
def IQ(w w':Y4)(p:Nat)(cs:abS)(M:aN)(nx:Int)(F R:List Nat):Prop:=∃F' R' sv ve vk d L,TabAt w' p cs M nx F' R' sv ve vk d L/\ax (p::F) w w'/\(∀x,F'.count x<=F.count x\/(w.heap.size<=x/\F'.count x<=1))/\∀g∈R',g∈R\/w.heap.size<=g
def Oc(w:Y4)(p:Nat)(cs:abS)(M:aN)(nx:Int)(F R:List Nat)(r:Except Nat (List (List abZ)))(x:aaY)(w':Y4):Prop:=match r with
 |.error c=>x=lL 0 c/\aaS w.heap.size w w'
 |.ok vs=>x=Yl (Yg Yh (vs.length:Nat))/\IQ w w' p cs (M++fu nx vs) (nx+(vs.length:Nat)) F R
structure zK(w wr:Y4)(v:Y3)(k:Nat)(vs:List Y3)(rws:List (List abZ)):Prop where
 low:aaS w.heap.size w wr
 len:vs.length=k/\rws.length=k
 own:wr.ownsRow w.heap.size 27 1 v k vs
 row:∀(j:Nat) (h1:j<vs.length) (h2:j<rws.length),wr.ownsRow w.heap.size 39 3 vs[j] rws[j].length (rws[j].flatMap Mg.vC)
theorem zK.below{wr wr':Y4}{k:Nat}{vs:List Y3}{rws:List (List abZ)}(h:zK w wr v k vs rws)(hb:aaS wr.heap.size wr wr'):zK w wr' v k vs rws:=
 ⟨h.low.trans (hb.mono h.low.size),h.len,eO h.own hb,fun j h1 h2=>eO (h.row j h1 h2) hb⟩
theorem ky(h:w.ownsRow b T s v n xs):∀g∈own v,b<=g/\g<w.heap.size:=fun g hg=>h.lt g (by simpa[own]using hg)
theorem H8(l:List (List ZU))(hle:l.length<=1000000)(hdm:∀n,(Mg.bF n l).length<=1000000)(hrl:∀r∈l,r.length<=1000000)(hok:∀r∈l,∀e∈r,e.ok 2000)(tn:ByteArray)(p:Nat)(cs:abS)(M:aN)(nx:Int)(F R:List Nat)(sv ve vk:Y3)(d:Nat)(L:List (Y3×Y3))(v:Y3)(w:Y4)
   (hT:TabAt w p cs M nx F R sv ve vk d L) (hO:jL cs M nx) (hnx:nx+l.length<=1000000000000000000) (hR:rM w v l):
   aaT Zc 35 #[Ym (Y2 ⟨p,0,Y1⟩),Yj #[.string tn,v]] w (Oc w p cs M nx F R (kZ cs M.length l)):=by
 obtain⟨i0,hi,hz0,hz1,hz2⟩:=aaX Tryz.info27;have HT:=hd hT;have HOK:=hd hO;have HR:=hd hR;have HEO:=hd hok;have hp:=hT.blk.lt;have hpc:=(hT.blk.cell 0).trans rfl;obtain⟨vs0,hv1,hv2⟩:=hR;obtain⟨ao,cap,rfl,hVV⟩:=dI hv1;have HVS:=hd hVV;have HV2:=hd hv2
 have HB0:Yf (aaS w.heap.size w (w.alloc (Yk #[.string tn,Yp ao l.length cap] 93))):=by show aaS _ _ _;go_grown
 have HK0:=hd (ae.new w #[.string tn,Yp ao l.length cap] 93);have hl0:=HK0.o.lt;have HDR:=hd (sI cs hO.cols sv l hle (hdm cs) hrl p _ (w.alloc (Yk #[.string tn,Yp ao l.length cap] 93)) (nlA hp HB0.o.size) ((HB0.o.cell (p:=⟨p,0,Y1⟩) hp).trans hpc) (hT.cols.below HB0.o) (HR.o.below HB0.o))
 have HIM:Yf (kZ cs M.length l=match qE cs l with
  |.error c=> .error c
  |.ok ds=>match Mg.bJ [] ds with
   |.error c=> .error c
   |.ok _=>match fQ cs l with
    |.error c=> .error c
    |.ok vs=>if M.length+vs.length<=200 then .ok vs else .error 15):=rfl
 have HDM:=hd (hdm cs);have HRL:=hd hrl;have HPC:=hd hpc;go_enter Tryz.func35,Tryz.ntmps35;go_wp2_with fail;refine HDR.o.mono ?_;rintro x w1 ⟨hb1,hx1⟩;have HB1:=hd (HB0.o.trans (hb1.mono HB0.o.size));have HK1:=hd (HK0.o.below hb1 hl0);have HX1:=hd hx1;rcases hwd:qE cs l with c|ds
 · rw[hwd]at HX1 HIM;obtain rfl:=HX1.o;exact⟨rfl,by rw[HIM.o];exact⟨rfl,HB1.o⟩⟩
 rw[hwd]at HX1 HIM
 have hds:ds=Mg.bF cs l/\∀r∈l,r.length=cs.length:=by
  unfold qE at hwd
  split at hwd
  · rename_i h;injection hwd with hwd;exact⟨hwd.symm,fun r hr=>by simpa using List.all_eq_true.1 h r hr⟩
  cases hwd
 obtain⟨WO,XP⟩:=hds;subst WO;have HWD:=hd XP;obtain⟨u,rfl,hown1⟩:=HX1.o
 have HCK:=hd (vg [] Mg.Bc (Yp Y1 0 0) (Mg.bF cs l) (fun dd hdd=>by
  obtain⟨r,hr,hm⟩:=List.mem_flatMap.1 hdd;obtain⟨y,hy,rfl⟩:=List.mem_map.1 hm
  exact HEO.o r hr y.1 (agP hy).1) HDM.o u w1 (Mn.bA.nil w1) (Ts.au hown1 (aeR _)))
 obtain⟨uo,un,rfl⟩:=ai hown1;go_wp2_with fail;refine HCK.o.mono ?_;rintro x w2 ⟨hb2,hx2⟩;have HB2:=hd (HB1.o.trans (hb2.mono HB1.o.size));have HK2:=hd (HK1.o.below hb2 HK1.o.lt);have HX2:=hd hx2;rcases hck:Mg.bJ [] (Mg.bF cs l)with c|un
 · rw[hck]at HX2 HIM;obtain rfl:=HX2.o;exact⟨rfl,by rw[HIM.o];exact⟨rfl,HB2.o⟩⟩
 rw[hck]at HX2 HIM;obtain rfl:=HX2.o;have Aw:=hd hck;have k1:=HK2.o.cell 1;simp at k1;have hlk:=HK2.o.lt;go_wp2_with fail;go_loopw [5,19] (fun v i wr=>∃(k:Nat) (vs:List Y3) (rws:List (List abZ)),i=Yg Yh k/\k<=l.length/\Yf (zK w wr v k vs rws)/\Yf (fQ cs (l.take k)=.ok rws)/\Yf (∀r∈rws,agp cs r)) (fun _ i _=>l.length-(aeJ i).toNat)
 case atStart=>exact⟨0,[],[],rfl,aeR _,⟨HB2.o,⟨rfl,rfl⟩,adi _ _ _ _,fun j h1=>by simp at h1⟩,rfl,fun r hr=>by simp at hr⟩
 case round=>
  obtain⟨k,vs,rws,rfl,hk,HF,HRM,HRK⟩:=hrel;obtain⟨va,vc,rfl⟩:=ai HF.o.own;by_cases hlt:k<l.length
  · obtain⟨u,hu1,hu2⟩:=HV2.o k hlt;obtain⟨g,hao,hg,c0⟩:=HVS.o k u hu1;have d0:=(HF.o.low.cell (p:=⟨g,k,Y1⟩) hg).trans c0;have hg2:=nlA hg HF.o.low.size
    have hes:∀e∈l[k],e.ok 2000/\acm [] e=true/\∃t,acD [] e=.ok t:=fun e he=>by
     refine⟨HEO.o _ (acw hlt) e he,?_⟩;obtain⟨j,hj,rfl⟩:=aeg he
     have hjc:j<cs.length:=by have:=HWD.o _ (acw hlt);omega
     obtain⟨h3,t,h4,_⟩:=Mg.lJ Aw.o _ (List.mem_flatMap.2 ⟨l[k],acw hlt,Mg.zQ j hj hjc⟩);exact⟨h3,t,h4⟩
    have HVL:=hd (rH [] Mg.Bc [] Mg.AJ (Yp Y1 0 0) (Yp Y1 0 0) l[k] hes (HRL.o _ (acw hlt)) u wr (Mn.bA.nil wr) ⟨Y1,0,rfl,fun k hk=>by simp at hk⟩ (eO hu2 HF.o.low));obtain⟨uo',uc',XQ⟩:=ai hu2;have Gr:=hd (jG l k hlt)
    have HRO:Yf (∀v,Mg.vals [] [] l[k]=.ok v->agp cs v):=fun v hv=>Mg.PN HOK.o.cols (acw hlt) (HWD.o _ (acw hlt)) Aw.o (HEO.o _ (acw hlt)) hv
    have HLR:=hd (HWD.o _ (acw hlt));generalize l[k]=r at*;subst XQ;subst hao;go_wp2_with fail;refine HVL.o.mono ?_;rintro x w3 ⟨hb3,hx3⟩;have HF3:=hd (HF.o.below hb3);have HX3:=hd hx3;have HS3:=hd hb3.size
    cases hvv:Mg.vals [] [] r with
    |error c=>
     rw[hvv]at HX3;obtain rfl:=HX3.o
     have HE:fQ cs l=.error c:=by rw[Gr.o.2];exact yO (.inl hvv) HRM.o
     rw[HE]at HIM;exact⟨rfl,by rw[HIM.o];exact⟨rfl,HF3.o.low⟩⟩
    |ok rv=>
     rw[hvv]at HX3;obtain⟨v3,rfl,hown3⟩:=HX3.o;have HRV:=hd (HRO.o rv hvv);have WW:=hd hown3;have hT3:=HT.o.below HF3.o.low;have HCN:=hd (xU cs HOK.o.cols rv HRV.o.len sv v3 p w3 hT3.blk.lt ((hT3.blk.cell 0).trans rfl) hT3.cols (C9 hown3));obtain⟨v3a,v3c,rfl⟩:=ai hown3;go_wp2_with fail;refine HCN.o.mono ?_;rintro x w4 ⟨hb4,hx4⟩;have HF4:=hd (HF3.o.below hb4);have Xk:=hd (eO WW.o hb4);have HX4:=hd hx4
     cases hnn:Mg.iF cs rv with
     |error c=>
      rw[hnn]at HX4;obtain rfl:=HX4.o
      have HE:fQ cs l=.error c:=by rw[Gr.o.2];exact yO (.inr ⟨rv,hvv,hnn⟩) HRM.o
      rw[HE]at HIM;exact⟨rfl,by rw[HIM.o];exact⟨rfl,HF4.o.low⟩⟩
     |ok uu=>
      rw[hnn]at HX4;obtain rfl:=HX4.o
      have HSN:Yf (fQ cs (l.take (k+1))=.ok (rws++[rv])):=by show _=_;rw[Gr.o.1];exact Bn hvv hnn HRM.o
      have hll:k<=1000000:=by omega
      have HO2:=hd (HF4.o.own.alloc (Yk #[Yp v3a rv.length v3c] 27))
      go_wp2_with(first
       |(at_builtin;refine bR rfl _ _ 174 rfl w.heap.size 27 i0 (Yp Y1 0 0) 1 24 Tryz.underlying174 hi hz0 hz1 hz2 rfl (by decide) _ _ _ rfl HO2.o ⟨w4.heap.size,0,Y1⟩ 1 1 [Yp v3a rv.length v3c] rfl rfl ?c1 ?c2 ?c3 ?c4 ?c5 ?_)
       |fail)
      try(case c1=>exact BN w4 _ _)
      try(case c2=>first|rfl|(intro u hu;simp at hu;subst hu;rfl))
      case c3=>simp only[aaV];omega
      case c4=>omega
      case c5=>have:=HF4.o.low.size;simp;omega
      intro v' w5 hown5 ni _
      have HF5:Yf (zK w w5 v' (k+1) (vs++[Yp v3a rv.length v3c]) (rws++[rv])):=by
       have hB5:aaS w.heap.size w w5:=eu (HF4.o.low.alloc HF4.o.low.size _) ni (fun k hk=>(HO2.o.lt k hk).1) (by have:=HF4.o.low.size;simp;omega);have hT5:ax (own (Yp va k vc)) (w4.alloc (Yk #[Yp v3a rv.length v3c] 27)) w5:=ax.grown ni (fun k hk=>by simp[own,hk]);have hlen:=HF4.o.len
       have hkeep:∀(u:Y3) (n:Nat) (xs:List Y3),w4.ownsRow w.heap.size 39 3 u n xs->w5.ownsRow w.heap.size 39 3 u n xs:=fun u n xs hu=>af (hu.alloc _) hT5 (own_ne hu HF4.o.own (by decide))
       refine⟨hB5,⟨by simp[hlen.1],by simp[hlen.2]⟩,hown5,fun j h1 h2=> ?_⟩;rcases aeW j k with hj|hj
       · rw[ael (by omega),ael (by omega)];exact hkeep _ _ _ (HF4.o.row j (by omega) (by omega))
       have hjk:j=k:=by simp[hlen.1]at h1;omega
       subst hjk;rw[aem (by omega),aem (by omega)];simp only[hlen.1,hlen.2,adT,agQ];exact hkeep _ _ _ (Ts.au Xk.o HF.o.low.size)
      obtain⟨va',vc',rfl⟩:=ai hown5;go_wp2_with fail;go_roundw
      case rel=>exact⟨k+1,_,_,rfl,by omega,HF5,HSN,fun r hr=>by rcases List.mem_append.1 hr with hr|hr;exact HRK.o r hr;simp at hr;subst hr;exact HRV.o⟩
      case measure=>simp[aeJ];omega
  obtain rfl:k=l.length:=by omega
  have Xi:Yf (fQ cs l=.ok rws):=by have:=HRM.o;rwa [afI]at this
  rw[Xi.o]at HIM;have hT4:=HT.o.below HF.o.low;have HT4:=hd hT4;have hp4:=hT4.blk.lt;have n3:wr.cell? ⟨p,3,Y1⟩=Y2 (Yg Yh (M.length:Nat)):=(hT4.blk.cell 3).trans rfl;have hlen:=HF.o.len;have hMl:=HOK.o.few;have HLEN:=hd hlen;go_wp2_with fail;refine(Ti.Dv p 1 (M.length:Nat) _ hp4 n3).mono ?_;rintro x wr ⟨rfl,rfl⟩;by_cases hfull:M.length+l.length<=200
  · have hf1:(M.length:Int)+(l.length:Int)<=200:=by omega
    have Us:Yf (kZ cs M.length l=.ok rws):=by show _=_;rw[HIM.o];rw[if_pos (by rw[HLEN.o.2];exact hfull)]
    go_wp2_with fail;refine(bD _ _).mono ?_;rintro x wr ⟨rfl,rfl⟩
    rename Y4=>W0
    have HR2:Yf (∀g∈vs.flatMap own,w.heap.size<=g/\g<W0.heap.size):=fun g hg=>by
     obtain⟨u,hu,hgu⟩:=List.mem_flatMap.1 hg;obtain⟨j,hj,rfl⟩:=aeg hu;exact ky (HF.o.row j hj (by rw[HLEN.o.2,<-HLEN.o.1];exact hj)) g hgu
    have HT5:Yf (TabAt W0 p cs (M++fu nx (rws.take 0)) (nx+(0:Nat)) F (R++vs.flatMap own) sv ve vk d L):=by
     have h:=HT4.o;have hl:=HT.o.lt;refine⟨by simpa[fu]using h.blk,h.cols,h.root,by simpa[fu]using h.bz,h.nodup,fun e he g hg=>by simp[h.rows e he g hg],fun g hg=>by simp[h.colr g hg],fun g hg=> ?_,fun g hg=> ?_⟩
     · rcases List.mem_append.1 hg with hg|hg
       · exact h.apart g hg
       have:=(HR2.o g hg).1;intro hx;have:=hl g (by rcases List.mem_cons.1 hx with rfl|hx<;>simp[*]);omega
     rcases List.mem_append.1 hg with hg|hg
     · exact h.low g hg
     exact(HR2.o g hg).2
    obtain⟨lo,lc,WN,hLL⟩:=dI HF.o.own;injection WN with hle1 hle2 hle3;subst hle1 hle3;have HLL:=hd hLL
    have HOL:Yf (∀g∈own (Yp va l.length vc),w.heap.size<=g):=fun g hg=>(ky HF.o.own g hg).1
    have hnp:=HOK.o.pos;go_wp2_with fail;go_loopw [44] (fun i wr'=>∃(k:Nat) (F':List Nat) (ve' vk':Y3) (d':Nat) (L':List (Y3×Y3)),i=Yg Yh k/\k<=l.length/\Yf (TabAt wr' p cs (M++fu nx (rws.take k)) (nx+(k:Nat)) F' (R++vs.flatMap own) sv ve' vk' d' L')/\Yf (ax (p::F) W0 wr')/\Yf (∀x,F'.count x<=F.count x\/(W0.heap.size<=x/\F'.count x<=1))) (fun i _=>l.length-(aeJ i).toNat)
    case atStart=>exact⟨0,F,ve,vk,d,L,rfl,aeR _,HT5,ax.refl _ _,fun x=> .inl (nlr _)⟩
    case round=>
     obtain⟨k,F',ve',vk',d',L',rfl,hk,HTK,HTC,HCN⟩:=hrel;by_cases hlt:k<l.length
     · have hkv:k<vs.length:=by rw[HLEN.o.1];exact hlt
       have hkr:k<rws.length:=by rw[HLEN.o.2];exact hlt
       obtain⟨gl,hva,hgl,c0⟩:=HLL.o k vs[k] (List.getElem?_eq_getElem hkv);have hglw:w.heap.size<=gl:=HOL.o gl (by rw[hva];simp[own,aaR])
       have Xr:gl∉p::F:=fun hx=>by have:=HT.o.lt gl (by rcases List.mem_cons.1 hx with h|h<;>simp[h]);omega
       have HRW:=HF.o.row k hkv hkr
       have Xd:∀g∈own vs[k],g∉p::F:=fun g hg hx=>by
        have:=(ky HRW g hg).1;have:=HT.o.lt g (by rcases List.mem_cons.1 hx with h|h<;>simp[h]);omega
       have HRV:=hd (C9 (af HRW HTC.o Xd))
       have HIN:Yf (∀g∈own vs[k],g∈R++vs.flatMap own):=fun g hg=>aec _ (List.mem_flatMap.2 ⟨vs[k],acw hkv,hg⟩)
       have HCU:=hd (jG rws k hkr).1;have d0:=(Y8 (w:=W0) (a:=⟨gl,k,Y1⟩) (HTC.o.block gl hgl Xr)).trans c0;have hglr:gl<wr.heap.size:=nlA hgl HTC.o.size;have hT:=HTK.o;have hpw:=hT.blk.lt;have n4:wr.cell? ⟨p,4,Y1⟩=Y2 (Yg Yh (nx+(k:Nat))):=(hT.blk.cell 4).trans rfl
       have hMk:(M++fu nx (rws.take k)).length=M.length+k:=by
        rw[aaN,xZ,adO];omega
       have SN:∀m∈M++fu nx (rws.take k),m.1<nx+(k:Nat):=fun m hm=>by
        rcases List.mem_append.1 hm with hm|hm
        · have:=HOK.o.less m hm;omega
        have:=(kK hm).2.1;rw[adO]at this;omega
       have Ub:(M++fu nx (rws.take k)).Pairwise fun a b=>a.1<b.1:=List.pairwise_append.2 ⟨HOK.o.rise,uN _ _,fun a ha b hb=>by have:=HOK.o.less a ha;have:=(kK hb).1;omega⟩
       obtain⟨ra,rn,rc,hvk⟩:=Cb HRV.o
       have hTd:TabAt (abA wr) p cs (M++fu nx (rws.take k)) (nx+(k:Nat)) F' (R++vs.flatMap own) sv ve' vk' d' L':=HTK.o.keep (nlr _) fun g hg=>rfl
       have HPT:=hd (ES (nx+(k:Nat)) ra rn rc d' L' p 1 (EG sv ve' vk' ((M++fu nx (rws.take k)).length:Nat) (nx+(k:Nat))) 128 ve' vk' F' ((M++fu nx (rws.take k)).length:Nat) (abA wr) (by rw[hMk];omega) hTd.blk rfl rfl rfl hTd.root (hTd.bz.less SN) (hTd.bz.ord Ub) hTd.nodup)
       have HST:Yf (∀w6 d6 ve6 vk6 F6,wW (abA wr) w6 p 1 (EG sv ve' vk' ((M++fu nx (rws.take k)).length:Nat) (nx+(k:Nat))) 128 (L'++[(Yg Yh (nx+(k:Nat)),Yp ra rn rc)]) F' (((M++fu nx (rws.take k)).length:Nat)+1) d6 ve6 vk6 F6->TabAt (w6.setCell ⟨p,4,Y1⟩ (Yg Yh (nx+(k:Nat)+1))) p cs (M++fu nx (rws.take (k+1))) (nx+((k+1:Nat):Int)) F6 (R++vs.flatMap own) sv ve6 vk6 d6 (L'++[(Yg Yh (nx+(k:Nat)),Yp ra rn rc)])/\ax (p::F) W0 (w6.setCell ⟨p,4,Y1⟩ (Yg Yh (nx+(k:Nat)+1)))/\∀x,F6.count x<=F.count x\/(W0.heap.size<=x/\F6.count x<=1)):=by
        intro w6 d6 ve6 vk6 F6 tout
        have hTd:TabAt (abA wr) p cs (M++fu nx (rws.take k)) (nx+(k:Nat)) F' (R++vs.flatMap own) sv ve' vk' d' L':=HTK.o.keep (nlr _) fun g hg=>rfl
        have h1:=RN hTd tout (r:=rws[k]) (by have:=HRV.o;rw[hvk]at this;exact this) (by have:=HIN.o;rw[hvk]at this;exact this)
        have e1:fu nx (rws.take (k+1))=fu nx (rws.take k)++[(nx+(k:Nat),rws[k])]:=by
         rw[HCU.o,Br,adO]
         congr 4
         omega
        refine⟨?_,?_,fun x=> ?_⟩
        · rw[e1,<-laa]
          have e2:nx+((k+1:Nat):Int)=nx+(k:Nat)+1:=by omega
          rw[e2];exact h1
        · refine(HTC.o.trans (tout.gP.bW) fun x hx=> ?_).set _ _ (.inl (by simp));rcases List.mem_cons.1 hx with rfl|hx
          · simp
          rcases HCN.o x with h2|h2
          · have:=List.count_pos_iff.2 hx
            left;simp[List.count_pos_iff.1 (show 0<F.count x by omega)]
          exact .inr h2.1
        rcases tout.cnt x with h2|h2
        · rcases HCN.o x with h3|h3
          · exact .inl (by omega)
          exact .inr ⟨h3.1,by omega⟩
        refine .inr ⟨?_,h2.2⟩;have a1:=HTC.o.size;have a3:(abA wr).heap.size=wr.heap.size:=rfl;omega
       rw[hvk]at d0
       have hb1: -9223372036854775808<=nx+(k:Nat)+1:=by omega
       have hb2:nx+(k:Nat)+1<=9223372036854775807:=by omega
       subst hva;go_wp2_with fail
       go_region_with (
         go_at_call 83
         refine HPT.o.mono ?_;rintro x w6 ⟨rfl,d6,ve6,vk6,F6,tout⟩;have HTO:=hd tout;have m4:=tout.blk.cell 4;rw[afs (by decide),afs (by decide),afs (by decide)]at m4;have m5:w6.cell? ⟨p,4,Y1⟩=Y2 (Yg Yh (nx+(k:Nat))):=m4.trans rfl;have f4:=tout.blk.free 4;have hl4:=tout.blk.lt
         clear tout m4)
       all_goals
        go_wp2_with fail;go_roundw
        case rel=>
         obtain⟨r1,r2,r3⟩:=HST.o w6 d6 ve6 vk6 F6 HTO.o;exact⟨k+1,F6,ve6,vk6,d6,_,rfl,by omega,r1,r2,r3⟩
        case measure=>simp[aeJ];omega
     obtain rfl:k=l.length:=by omega
     go_wp2_with fail;go_ret;rw[Us.o];have e0:rws.take l.length=rws:=acU (by rw[HLEN.o.2];exact nlr _);have hTT:=HTK.o;rw[e0]at hTT;refine⟨by rw[HLEN.o.2];rfl,F',R++vs.flatMap own,sv,ve',vk',d',L',by rw[HLEN.o.2];exact hTT,?_,fun x=> ?_,fun g hg=> ?_⟩
     · exact(ax.of (F:=p::F) HF.o.low).trans HTC.o fun x hx=> .inl hx
     · have:=HF.o.low.size;rcases HCN.o x with h|h
       · exact .inl h
       exact .inr ⟨by omega,h.2⟩
     rcases List.mem_append.1 hg with hg|hg
     · exact .inl hg
     exact .inr (HR2.o g hg).1
  have hf1:decide ((M.length:Int)+(l.length:Int)<=200)=false:=by simp;omega
  have Us:Yf (kZ cs M.length l=.error 15):=by show _=_;rw[HIM.o];rw[if_neg (by rw[HLEN.o.2];exact hfull)]
  go_wp2_with fail;refine(NJ _).mono ?_;rintro x wr ⟨rfl,rfl⟩;exact⟨rfl,by rw[Us.o];exact⟨rfl,HF.o.low⟩⟩
end Tb
end
section
namespace Tb
open Bt
def MF(cs:abS):Option ZU->List ZU
 |none=>cs.map fun c=> .nm c.1
 |some e=>[e]
def bf(cs:abS)(l:List (Option ZU)):List ZU:=l.flatMap (MF cs)
theorem zN:∀(l:List (Option ZU)) (k:Nat) (h:k<l.length),(l.flatMap iK)[k*2]? =Y2 (.bool l[k].isNone)/\(l.flatMap iK)[k*2+1]? =Y2 (ev? l[k])
 |none::r,0,_=>by simp[iK,ev?]
 |some e::r,0,_=>by simp[iK,ev?]
 |d::r,k+1,h=>by
  have:=zN r k (by simpa using h);rw[show(k+1)*2=k*2+1+1 by omega]
  cases d<;>simpa[iK]using this
theorem LF(cs:abS)(l:List (Option ZU))(k:Nat):(bf cs (l.take k)).length<=(bf cs l).length:=by
 conv=>rhs;rw[<-aej k l]
 unfold bf;rw[aeN,aaN];omega
theorem Ay(cs:abS)(hcn:cs.length<=1000)(sv:Y3)(l:List (Option ZU))(hn:(bf cs l).length<=1000000)(hl:l.length<=1000000)(p:Nat)(v:Y3)(w:Y4)(hp:p<w.heap.size)(hpc:w.cell? ⟨p,0,Y1⟩=Y2 sv)(hC:agq w sv cs)(hE:w.ownsRow 0 225 2 v l.length (l.flatMap iK)):
   aaT Zc 90 #[Ym (Y2 ⟨p,0,Y1⟩),v] w fun x w'=>aaS w.heap.size w w'/\∃u,x=Yl u/\w'.ownsRow w.heap.size 98 1 u (bf cs l).length ((bf cs l).flatMap nP):=by
 obtain⟨i0,hi,hz0,hz1,hz2⟩:=aaX Tq.Tryz.info98;obtain⟨ao,cap,rfl,hEE⟩:=dI hE;obtain⟨co,cc,rfl,hCC⟩:=hC;have HE:=hd hEE;have HC:=hd hCC;have HTK:=hd (LF cs l);clear hE hEE hCC;go_enter Tryz.func90,Tryz.ntmps90;go_wp2_with fail;go_loopw [5,12] (fun v i wr=>∃(k n:Nat),i=Yg Yh k/\k<=l.length/\Yf (n=(bf cs (l.take k)).length)/\Yf (aaS w.heap.size w wr)/\Yf (wr.ownsRow w.heap.size 98 1 v n ((bf cs (l.take k)).flatMap nP))) (fun _ i _=>l.length-(aeJ i).toNat)
 case atStart=>exact⟨0,0,rfl,aeR _,by show _=_;simp[bf],Zh _ _,adi _ _ _ _⟩
 case round=>
  obtain⟨k,n,rfl,hk,HN,HW,HO⟩:=hrel;obtain⟨va,vc,rfl⟩:=ai HO.o;by_cases hlt:k<l.length
  · obtain⟨g,hao,hg,c0⟩:=HE.o _ _ (zN l k hlt).1;obtain⟨g',hao',hg',c1⟩:=HE.o _ _ (zN l k hlt).2;rw[hao]at hao';injection hao' with hgg;injection hgg with hgg;subst hgg;have d0:=(HW.o.cell (p:=⟨g,k*2,Y1⟩) hg).trans c0;have d1:=(HW.o.cell (p:=⟨g,k*2+1,Y1⟩) hg).trans c1;have hg2:=nlA hg HW.o.size;have HT1:=hd (HTK.o (k+1))
    have hn1:n<=1000000:=by have:=HTK.o k;have:=HN.o;omega
    obtain⟨HC1,HC2⟩:=jG l k hlt;have HCU:=hd HC1;generalize l[k]=o at*;clear c0 c1 HC1 HC2;subst hao
    cases o with
    |some e=>
     obtain⟨et,ex,hev⟩:=jc e;have Ce:ev? (Y2 e)=Yo et ex:=hev;rw[Ce]at d1;have HEV:=hd hev;simp only[Option.isNone_some]at d0;clear hev Ce;have HO2:=hd ((HO.o.alloc (Yk #[.bool false,Yo et ex] 225)).alloc (Yk #[Yo et ex] 98));have HW2:Yf (aaS w.heap.size w ((wr.alloc (Yk #[.bool false,Yo et ex] 225)).alloc (Yk #[Yo et ex] 98))):=(HW.o.alloc HW.o.size _).alloc (HW.o.alloc HW.o.size _).size _
     go_wp2_with(first
      |(at_builtin;refine bR rfl _ _ 132 rfl w.heap.size 98 i0 Yq 1 16 agy hi hz0 hz1 hz2 rfl (by decide) _ _ _ rfl HO2.o ⟨wr.heap.size+1,0,Y1⟩ 1 1 [Yo et ex] rfl rfl ?c1 ?c2 ?c3 ?c4 ?c5 ?_)
      |fail)
     try(case c1=>have:=BN (wr.alloc (Yk #[.bool false,Yo et ex] 225)) (Yo et ex) 98;rwa [ZC]at this)
     case c2=>first|rfl|(intro u hu;simp at hu;subst hu;rfl)
     case c3=>simp only[aaV];omega
     case c4=>omega
     case c5=>first|exact HW2.o.size|(have:=HW2.o.size;simp at this⊢;omega)
     intro v' w3 hown hgrow _;have HB3:=hd (eu HW2.o hgrow (fun k hk=>(HO2.o.lt k hk).1) HW2.o.size)
     have HO3:Yf (w3.ownsRow w.heap.size 98 1 v' (n+1) ((bf cs (l.take (k+1))).flatMap nP)):=by
      show aaO _ _ _ _ _ _ _;rw[HCU.o];unfold bf at hown⊢;rw[aeN,aeN];simp only[YU,aaJ,aaK,MF,nP,HEV.o];exact hown
     have HN3:Yf (n+1=(bf cs (l.take (k+1))).length):=by show _=_;rw[HCU.o,HN.o];simp[bf,MF]
     obtain⟨va',vc',rfl⟩:=ai hown;clear hown hgrow HO2;go_wp2_with fail;go_roundw
     case rel=>exact⟨k+1,n+1,rfl,by omega,HN3,HB3,HO3⟩
     case measure=>simp[aeJ];omega
    |none=>
     simp only[Option.isNone_none,ev?]at d0 d1
     have HLN:Yf (n+cs.length=(bf cs (l.take (k+1))).length/\(bf cs (l.take (k+1)))=bf cs (l.take k)++cs.map fun c=> .nm c.1):=by
      show _/\_;rw[HCU.o,HN.o];simp[bf,MF]
     have hlim:n+cs.length<=1000000:=by have:=HLN.o.1;have:=HT1.o;omega
     have HW1:Yf (aaS w.heap.size w (wr.alloc (Yk #[.bool true,Yq] 225))):=HW.o.alloc HW.o.size _;have e0:=(HW1.o.cell (p:=⟨p,0,Y1⟩) hp).trans hpc;have hp1:=nlA hp HW1.o.size;have HO1:=hd (HO.o.alloc (Yk #[.bool true,Yq] 225));go_wp2_with fail;go_loopw [5,29] (fun v i wr'=>∃(j:Nat),i=Yg Yh j/\j<=cs.length/\Yf (aaS w.heap.size w wr')/\Yf (wr'.ownsRow w.heap.size 98 1 v (n+j) ((bf cs (l.take k)++(cs.map fun c=>Px.E.nm c.1).take j).flatMap nP))) (fun _ i _=>cs.length-(aeJ i).toNat)
     case atStart=>exact⟨0,rfl,aeR _,HW1,by show aaO _ _ _ _ _ _ _;simpa using HO1.o⟩
     case round=>
      obtain⟨j,rfl,hj,HV,HP⟩:=hrel;obtain⟨ua,uc,rfl⟩:=ai HP.o;by_cases hjl:j<cs.length
      · obtain⟨gc,hco,hgc,x0,x1⟩:=HC.o j hjl;have y0:=(HV.o.cell (p:=⟨gc,j*2,Y1⟩) hgc).trans x0;have y1:=(HV.o.cell (p:=⟨gc,j*2+1,Y1⟩) hgc).trans x1;have hgc2:=nlA hgc HV.o.size;have HJ:=hd (jG cs j hjl).1;generalize cs[j]=c at*;obtain⟨cn,ct⟩:=c;simp only at y0 y1;subst hco;have HO2:=hd ((HP.o.alloc (Yk #[Yi ⟨cn.toArray⟩,Yg Yh (ct:Nat)] 220)).alloc (Yk #[Yo 271 (Yj #[Yi ⟨cn.toArray⟩])] 98));have HW2:Yf (aaS w.heap.size w ((wr.alloc (Yk #[Yi ⟨cn.toArray⟩,Yg Yh (ct:Nat)] 220)).alloc (Yk #[Yo 271 (Yj #[Yi ⟨cn.toArray⟩])] 98))):=(HV.o.alloc HV.o.size _).alloc (HV.o.alloc HV.o.size _).size _
        go_wp2_with(first
         |(at_builtin;refine bR rfl _ _ 132 rfl w.heap.size 98 i0 Yq 1 16 agy hi hz0 hz1 hz2 rfl (by decide) _ _ _ rfl HO2.o ⟨wr.heap.size+1,0,Y1⟩ 1 1 [Yo 271 (Yj #[Yi ⟨cn.toArray⟩])] rfl rfl ?e1 ?e2 ?e3 ?e4 ?e5 ?_)
         |fail)
        try(case e1=>have:=BN (wr.alloc (Yk #[Yi ⟨cn.toArray⟩,Yg Yh (ct:Nat)] 220)) (Yo 271 (Yj #[Yi ⟨cn.toArray⟩])) 98;rwa [ZC]at this)
        case e2=>first|rfl|(intro u hu;simp at hu;subst hu;rfl)
        case e3=>simp only[aaV];omega
        case e4=>omega
        case e5=>first|exact HW2.o.size|(have:=HW2.o.size;simp at this⊢;omega)
        intro v' w3 hown hgrow _;have HB3:=hd (eu HW2.o hgrow (fun k hk=>(HO2.o.lt k hk).1) HW2.o.size)
        have HO3:Yf (w3.ownsRow w.heap.size 98 1 v' (n+(j+1)) ((bf cs (l.take k)++(cs.map fun c=>Px.E.nm c.1).take (j+1)).flatMap nP)):=by
         show aaO _ _ _ _ _ _ _;rw[<-afB,HJ.o,aev,afB];simp only[aeN,YZ,Y0,YU,aaJ,aaK];exact hown
        obtain⟨va',vc',rfl⟩:=ai hown;go_wp2_with fail;go_roundw
        case rel=>exact⟨j+1,rfl,by omega,HB3,HO3⟩
        case measure=>simp[aeJ];omega
      obtain rfl:j=cs.length:=by omega
      have HO4:Yf (wr.ownsRow w.heap.size 98 1 (Yp ua (n+cs.length) uc) (n+cs.length) ((bf cs (l.take (k+1))).flatMap nP)):=by
       show aaO _ _ _ _ _ _ _;rw[HLN.o.2];have:=HP.o
       rwa [acU (l:=cs.map fun c=>Px.E.nm c.1) (by simp)]at this
      go_wp2_with fail;go_roundw
      case rel=>exact⟨k+1,n+cs.length,rfl,by omega,HLN.o.1,HV,HO4⟩
      case measure=>simp[aeJ];omega
  obtain rfl:k=l.length:=by omega
  have HO4:Yf (wr.ownsRow w.heap.size 98 1 (Yp va n vc) (bf cs l).length ((bf cs l).flatMap nP)):=by
   show aaO _ _ _ _ _ _ _;have h1:=HO.o;have h2:=HN.o;rw[afI]at h1 h2;rw[<-h2];exact h1
  go_wp2_with fail;go_ret;exact⟨HW.o,_,rfl,HO4.o⟩
end Tb
end
section
namespace Tb
open Bt
theorem MI(n:Nat)(h1:1<=n)(hn:n<=1000000)(w:Y4):aaT Zc 158 #[Yp Y1 0 0,Yg Yh n] w fun x w'=>aaS w.heap.size w w'/\∃v,x=Yl v/\w'.ownsRow w.heap.size 191 2 v 0 []:=by
 obtain⟨i0,hi,hz0,hz1,hz2⟩:=aaX Tryz.info191
 have hrz:=fun ty=>Lib.run_append_nil_zeros (P:=Zc) w 172 3 ty 191 i0 (Yj #[Yq,Yg Yh 0]) .i64 .i64 agw Tryz.underlying3 hi hz0 n (by omega) (by omega) (by omega) (by rw[hz2];omega)
 have hG1:n<=grownCap w n 0 191:=grownCap_ge w _ _ _;have hG2:=grownCap_le_maxLen w n 0 191 (by unfold aaV;omega);generalize grownCap w n 0 191=G at*
 have hG3:G<=9223372036854775807:=by unfold aaV at hG2;omega
 have HG2:=hd hG2;have HB:Yf (aaS w.heap.size w (w.drew.alloc (.cells (Builtin.zeroCells (Yj #[Yq,Yg Yh 0]).cells n++Builtin.zeroCells (Yj #[Yq,Yg Yh 0]).cells (G-n)) 191))):=((Zh w.heap.size w).drew).alloc (nlr _) _
 have HO:Yf ((w.drew.alloc (.cells (Builtin.zeroCells (Yj #[Yq,Yg Yh 0]).cells n++Builtin.zeroCells (Yj #[Yq,Yg Yh 0]).cells (G-n)) 191)).ownsRow w.heap.size 191 2 (Yp (Y2 ⟨w.heap.size,0,Y1⟩) 0 G) 0 []):=by
  refine⟨rfl,.inr ⟨w.heap.size,G,_,rfl,nlr _,World.alloc_heap_new w.drew _,aeR _,HG2.o,?_,by simp⟩⟩;rw[Array.size_append,size_zeroCells,size_zeroCells];simp[Value.cells];omega
 go_enter Tryz.func158,Tryz.ntmps158
 go_wp2_with(first
  |(at_builtin;refine Lib.wpList_append_run _ rfl _ _ 172 3 rfl (Yp Y1 0 0) (Yg Yh n) rfl rfl _ _ (hrz _) ?_)
  |fail)
 go_wp2_with fail;go_ret;exact⟨HB.o,_,rfl,HO.o⟩
theorem OP(ns:List Nat)(k:Nat)(h:k<ns.length):(ns.take (k+1)).sum=(ns.take k).sum+ns[k]:=by
 rw[(jG ns k h).1,agR];simp
theorem Dn(ns:List Nat)(k:Nat):(ns.take k).sum<=ns.sum:=by
 conv=>rhs;rw[<-aej k ns]
 rw[agR];omega
theorem GL(vs:List Y3)(ns:List Nat)(xss:List (List Y3))(hvl:vs.length=3)(hnl:ns.length=3)(hxl:xss.length=3)(h1:1<=ns.sum)(hs:ns.sum<=1000000)(gl cl:Nat)(w:Y4)(hgl:gl<w.heap.size)
   (hc:∀(k:Nat) (h:k<3),w.cell? ⟨gl,k,Y1⟩=Y2 (vs[k]'(by omega))) (hE:∀(k:Nat) (h:k<3),w.ownsRow 0 191 2 (vs[k]'(by omega)) (ns[k]'(by omega)) (xss[k]'(by omega))) (h1c:∀xs∈xss,∀u∈xs,u.oneCell'=true):
   aaT Zc 92 #[Yp (Y2 ⟨gl,0,Y1⟩) 3 cl] w fun x w'=>aaS w.heap.size w w'/\∃v,x=Yl v/\w'.ownsRow w.heap.size 191 2 v ns.sum xss.flatten:=by
 obtain⟨i0,hi,hz0,hz1,hz2⟩:=aaX Tryz.info191;have HC:=hd hc;have HE:=hd hE;have H1C:=hd h1c;have HNL:=hd hnl;have HXL:=hd hxl;go_enter Tryz.func92,Tryz.ntmps92;go_wp2_with fail;go_loopw [3,11] (fun n i wr=>w=wr/\∃k m:Nat,k<=3/\i=Yg Yh k/\n=Yg Yh m/\Yf (m=(ns.take k).sum)) (fun _ i _=>3-(aeJ i).toNat)
 case atStart=>exact⟨rfl,0,0,by omega,rfl,rfl,by show _=_;simp⟩
 case round=>
  obtain⟨rfl,k,m,hk,rfl,rfl,HM⟩:=hrel
  have hm:m<=1000000:=by have:=HM.o;have:=Dn ns k;omega
  by_cases hlt:k<3
  · have c0:=HC.o k hlt
    have hkn:k<ns.length:=by rw[HNL.o];exact hlt
    have HS:=hd (OP ns k hkn);have hsum:=Dn ns (k+1)
    have hle:(ns[k]'hkn)<=1000000:=by have:=HS.o;omega
    have HS2:Yf (m+(ns[k]'hkn)=(ns.take (k+1)).sum):=by show _=_;rw[HS.o,HM.o]
    obtain⟨ao,cap,hv,_⟩:=dI (HE.o k hlt);rw[hv]at c0;generalize ns[k]'hkn=nk at*;go_wp2_with fail;go_roundw
    case rel=>exact⟨trivial,k+1,m+nk,by omega,rfl,by go_num,HS2⟩
    case measure=>simp[aeJ];omega
  obtain rfl:k=3:=by omega
  have HM3:Yf (m=ns.sum):=by show _=_;rw[HM.o,acU (by rw[HNL.o];omega)]
  have hm1:1<=m:=by have:=HM3.o;omega
  go_wp2_with fail;refine(MI m hm1 hm _).mono ?_;rintro x w1 ⟨hb,v0,rfl,hown⟩;have HB:=hd hb;have HO:=hd hown;go_wp2_with fail;go_loopw [6,27] (fun v i w2=>Yf (aaS w.heap.size w w2)/\∃k m':Nat,k<=3/\i=Yg Yh k/\Yf (m'=(ns.take k).sum)/\Yf (w2.ownsRow w.heap.size 191 2 v m' (xss.take k).flatten)) (fun _ i _=>3-(aeJ i).toNat)
  case atStart=>exact⟨HB,0,0,by omega,rfl,by show _=_;simp,HO⟩
  case round=>
   obtain⟨HW,k,m',hk,rfl,HM',HO2⟩:=hrel;obtain⟨va,vc,rfl⟩:=ai HO2.o;by_cases hlt:k<3
   · have hkn:k<ns.length:=by rw[HNL.o];exact hlt
     have hkx:k<xss.length:=by rw[HXL.o];exact hlt
     have d0:=(HW.o.cell (p:=⟨gl,k,Y1⟩) hgl).trans (HC.o k hlt);have hg2:=nlA hgl HW.o.size
     have hm':m'<=1000000:=by have:=HM'.o;have:=Dn ns k;omega
     have hsum:=Dn ns (k+1);have HS:=hd (OP ns k hkn)
     have HS2:Yf (m'+(ns[k]'hkn)=(ns.take (k+1)).sum):=by show _=_;rw[HS.o,HM'.o]
     have hle:m'+(ns[k]'hkn)<=1000000:=by have:=HS2.o;omega
     have HX:=hd (jG xss k hkx).1;have HX1:=hd (H1C.o _ (acw hkx));have hown:=HE.o k hlt;rcases hown.2 with⟨hv,hn0⟩|⟨g,cap,cur,hv,_,hg,h2,h3,h4,h5⟩
     · rw[hv]at d0;have hx0:xss[k]=[]:=aed (by rw[hown.1,hn0])
       have HO3:Yf (wr.ownsRow w.heap.size 191 2 (Yp va m' vc) m' (xss.take (k+1)).flatten):=by show aaO _ _ _ _ _ _ _;rw[HX.o,hx0];simpa using HO2.o
       have HS3:Yf (m'=(ns.take (k+1)).sum):=by show _=_;rw[<-HS2.o,hn0];omega
       go_wp2_with(first
        |(at_builtin;refine wpList_append_own_none rfl _ _ 172 rfl w.heap.size 191 i0 2 agw hi _ _ _ rfl HO2.o rfl ?_)
        |fail)
       go_wp2_with fail;go_roundw
       case rel=>exact⟨HW,k+1,m',by omega,rfl,HS3,HO3⟩
       case measure=>simp[aeJ];omega
     have WK:=(geA.1 hg).1
     have HCL:Yf (∀j u,xss[k][j]? =Y2 u->wr.cell? ((⟨g,0,Y1⟩:abR).add j)=Y2 u):=fun j u hu=>by
      have hc:=hown;rw[hv]at hc;have hcc:=hc.cells (g:=g) rfl j u hu;rw[Zn,Ze]at hcc⊢;exact(HW.o.cell (p:=⟨g,j,Y1⟩) WK).trans hcc
     have HLN:=hd hown.1;rw[hv]at d0;generalize hnk:ns[k]'hkn=nk at*;generalize xss[k]=xk at*
     go_wp2_with(first
      |(at_builtin;refine bR rfl _ _ 172 rfl w.heap.size 191 i0 (Yj #[Yq,Yg Yh 0]) 2 24 agw hi hz0 hz1 hz2 rfl (by decide) _ _ _ rfl HO2.o ⟨g,0,Y1⟩ nk cap xk rfl HLN.o HCL.o HX1.o ?c3 ?c4 ?c5 ?_)
      |fail)
     case c3=>simp only[aaV];omega
     case c4=>omega
     case c5=>exact HW.o.size
     intro v' w3 hown hgrow _;have HB3:=hd (eu HW.o hgrow (fun k hk=>(HO2.o.lt k hk).1) HW.o.size)
     have HO3:Yf (w3.ownsRow w.heap.size 191 2 v' (m'+nk) (xss.take (k+1)).flatten):=by show aaO _ _ _ _ _ _ _;rw[HX.o];simpa using hown
     obtain⟨va',vc',rfl⟩:=ai hown;go_wp2_with fail;go_roundw
     case rel=>exact⟨HB3,k+1,m'+nk,by omega,rfl,HS2,HO3⟩
     case measure=>simp[aeJ];omega
   obtain rfl:k=3:=by omega
   have HO4:Yf (wr.ownsRow w.heap.size 191 2 (Yp va m' vc) ns.sum xss.flatten):=by
    show aaO _ _ _ _ _ _ _;have h1:=HO2.o;have h2:=HM'.o;rw[acU (by rw[HXL.o];omega)]at h1;rw[acU (by rw[HNL.o];omega)]at h2;rw[<-h2];exact h1
   go_wp2_with fail;go_ret;exact⟨HW.o,_,rfl,HO4.o⟩
end Tb
end
section
namespace Mg
open Lx (Bs)
open Px (E)
structure kQ{α:Type}(f:α->α->Int):Prop where
 anti:∀a b,f b a= -f a b
 tr:∀a b c,f a b<=0->f b c<=0->f a c<=0
theorem kQ.refl{α:Type}{f:α->α->Int}(h:kQ f)(a:α):f a a=0:=by have:=h.anti a a;omega
theorem kQ.swo{α:Type}{f:α->α->Int}(h:kQ f):So.sM (fun a b=>decide (f a b<0)):=by
 refine⟨fun a=> ?_,fun a b c h1 h2=> ?_,fun a b c h1=> ?_⟩
 · have:=h.refl a;simp;omega
 · simp at h1 h2⊢;have a1:=h.tr a b c (by omega) (by omega);have a2:=h.anti a c;have a3:=h.anti b c;by_cases hz:f a c=0
   · have:=h.tr c a b (by omega) (by omega);omega
   omega
 simp at h1⊢;by_cases hz:f a b<0
 · exact .inl hz
 right
 have a1:=h.anti a b;by_cases hy:f b c<0
 · exact hy
 have a2:=h.anti b c;have:=h.tr c b a (by omega) (by omega);have a3:=h.anti a c;omega
theorem kQ.lex{α:Type}{f g:α->α->Int}(hf:kQ f)(hg:kQ g):kQ (fun a b=>if f a b=0 then g a b else f a b):=by
 refine⟨fun a b=> ?_,fun a b c h1 h2=> ?_⟩
 · have h1:=hf.anti a b;have h2:=hg.anti a b
   split<;>split<;>omega
 have a1:=hf.tr a b c;have a2:=hf.tr c a b;have a3:=hf.tr b c a;have b1:=hf.anti a b;have b2:=hf.anti b c;have b3:=hf.anti a c;have c1:=hg.tr a b c
 split at h1<;>split at h2<;>split<;>omega
theorem kQ.neg{α:Type}{f:α->α->Int}(h:kQ f):kQ (fun a b=> -f a b):=by
 refine⟨fun a b=>by have:=h.anti a b;omega,fun a b c h1 h2=> ?_⟩;have a1:=h.anti a b;have a2:=h.anti b c;have a3:=h.anti a c;have:=h.tr c b a (by omega) (by omega);omega
theorem kQ.on{α β:Type}{f:α->α->Int}(h:kQ f)(k:β->α):kQ (fun a b=>f (k a) (k b)):=⟨fun a b=>h.anti _ _,fun a b c=>h.tr _ _ _⟩
theorem kQ.zero{α:Type}:kQ (fun(_ _:α)=>(0:Int)):=⟨fun _ _=>rfl,fun _ _ _ _ _=>by simp⟩
theorem N8:kQ lX:=by
 refine⟨fun a b=> ?_,fun a b c h1 h2=> ?_⟩
 · unfold lX;split<;>split<;>(try split)<;>omega
 unfold lX at*;split at h1<;>split at h2<;>(try split at h1)<;>(try split at h2)<;>split<;>(try split)<;>omega
theorem lZ:∀a:Bs,Op.bytesLess a a=false
 |[]=>rfl
 |x::a=>by simp[Op.bytesLess,lZ a]
theorem uL:∀a b:Bs,Op.bytesLess a b=true->Op.bytesLess b a=false
 |[],[],h=>by simp[Op.bytesLess]at h
 |[],_::_,_=>by simp[Op.bytesLess]
 |_::_,[],h=>by simp[Op.bytesLess]at h
 |x::a,y::b,h=>by
  simp only[Op.bytesLess,YC,YD,decide_eq_true_eq,beq_iff_eq]at h;simp only[Op.bytesLess,YF,agS,decide_eq_false_iff_not,beq_iff_eq];rcases h with h|⟨rfl,h⟩
  · refine⟨fun h2=>absurd (UInt8.lt_trans h h2) (UInt8.lt_irrefl _),fun h2=> ?_⟩;subst h2;exact absurd h (UInt8.lt_irrefl _)
  exact⟨UInt8.lt_irrefl _,fun _=>uL a b h⟩
theorem Eh:∀a b:Bs,Op.bytesLess a b=false->Op.bytesLess b a=false->a=b
 |[],[],_,_=>rfl
 |[],_::_,h,_=>by simp[Op.bytesLess]at h
 |_::_,[],_,h=>by simp[Op.bytesLess]at h
 |x::a,y::b,h1,h2=>by
  simp only[Op.bytesLess,YF,agS,decide_eq_false_iff_not,beq_iff_eq]at h1 h2
  have hxy:x=y:=by
   have:=h1.1;have:=h2.1;exact UInt8.le_antisymm (UInt8.not_lt.1 h2.1) (UInt8.not_lt.1 h1.1)
  subst hxy;rw[Eh a b (h1.2 rfl) (h2.2 rfl)]
theorem JG:∀a b c:Bs,Op.bytesLess a b=true->Op.bytesLess b c=true->Op.bytesLess a c=true
 |[],[],_,h,_=>by simp[Op.bytesLess]at h
 |[],_::_,[],_,h=>by simp[Op.bytesLess]at h
 |[],_::_,_::_,_,_=>by simp[Op.bytesLess]
 |_::_,[],_,h,_=>by simp[Op.bytesLess]at h
 |_::_,_::_,[],_,h=>by simp[Op.bytesLess]at h
 |x::a,y::b,z::c,h1,h2=>by
  simp only[Op.bytesLess,YC,YD,decide_eq_true_eq,beq_iff_eq]at h1 h2⊢;rcases h1 with h1|⟨rfl,h1⟩
  · rcases h2 with h2|⟨rfl,h2⟩
    · exact .inl (UInt8.lt_trans h1 h2)
    exact .inl h1
  rcases h2 with h2|⟨rfl,h2⟩
  · exact .inl h2
  exact .inr ⟨rfl,JG a b c h1 h2⟩
theorem Ox:kQ r9:=by
 have key:∀a b,(r9 a b= -1/\Op.bytesLess a b=true)\/(r9 a b=0/\a=b)\/(r9 a b=1/\Op.bytesLess b a=true):=by
  intro a b;unfold r9;by_cases h1:Op.bytesLess a b=true
  · left;rw[if_pos h1];exact⟨rfl,h1⟩
  rw[if_neg h1];by_cases h2:(a==b)=true
  · right;left;rw[if_pos h2];exact⟨rfl,by simpa using h2⟩
  right;right
  rw[if_neg h2];refine⟨rfl,?_⟩
  cases h3:Op.bytesLess b a with
  |true=>rfl
  |false=>exact absurd (by simpa using Eh a b (by simpa using h1) h3) h2
 refine⟨fun a b=> ?_,fun a b c h1 h2=> ?_⟩
 · rcases key a b with⟨h1,h2⟩|⟨h1,rfl⟩|⟨h1,h2⟩
   · have:=uL a b h2;rcases key b a with⟨k1,k2⟩|⟨k1,rfl⟩|⟨k1,k2⟩
     · rw[k2]at this;cases this
     · rw[lZ]at h2;cases h2
     omega
   · omega
   have:=uL b a h2;rcases key b a with⟨k1,k2⟩|⟨k1,rfl⟩|⟨k1,k2⟩
   · omega
   · rw[lZ]at h2;cases h2
   rw[k2]at this;cases this
 rcases key a b with⟨k1,k2⟩|⟨k1,rfl⟩|⟨k1,k2⟩
 · rcases key b c with⟨l1,l2⟩|⟨l1,rfl⟩|⟨l1,l2⟩
   · have:=JG a b c k2 l2;unfold r9;rw[if_pos this];omega
   · omega
   omega
 · exact h2
 omega
def fA(a b:V):Int:=
 if isNull a=true/\isNull b=true then 0 else if isNull a=true then-1 else if isNull b=true then 1
 else if a.kind=17/\b.kind=17 then r9 a.text b.text else if a.kind=17 then 1 else if b.kind=17 then-1 else lX a.int b.int
theorem Jr:kQ fA:=by
 refine⟨fun a b=> ?_,fun a b c h1 h2=> ?_⟩
 · have i1:=N8.anti a.int b.int;have i2:=Ox.anti a.text b.text;unfold fA;by_cases p:isNull a=true<;>by_cases q:isNull b=true<;>by_cases r:a.kind=17<;>by_cases s:b.kind=17<;>simp[p,q,r,s]<;>omega
 have i1:=N8.tr a.int b.int c.int;have i2:=Ox.tr a.text b.text c.text;unfold fA at*;by_cases p:isNull a=true<;>by_cases q:isNull b=true<;>by_cases p':isNull c=true<;>by_cases r:a.kind=17<;>by_cases s:b.kind=17<;>by_cases t:c.kind=17<;>simp[p,q,p',r,s,t]at h1 h2⊢ <;>first|omega|exact i1 h1 h2|exact i2 h1 h2
theorem Nb{a b:V}{t:Nat}(ha:Has a t)(hb:Has b t):fA a b=wI a b:=by
 unfold fA wI;by_cases p:isNull a=true<;>by_cases q:isNull b=true<;>simp[p,q]
 have ka:a.kind≠14:=by simpa[isNull]using p
 have kb:b.kind≠14:=by simpa[isNull]using q
 have hab:a.kind=17↔b.kind=17:=by
  rcases ha with h|⟨h1,h2⟩|⟨h1,h2⟩|⟨h1,h2⟩<;>rcases hb with k|⟨k1,k2⟩|⟨k1,k2⟩|⟨k1,k2⟩<;>omega
 by_cases r:a.kind=17
 · have:=hab.1 r;simp[r,this]
 have:¬b.kind=17:=fun h=>r (hab.2 h)
 simp[r,this]
def qd:List Bool->List V->List V->Int
 |d::ds,a::az,b::bs=>if(if d=true then-fA a b else fA a b)=0 then qd ds az bs else(if d=true then-fA a b else fA a b)
 |_,_,_=>0
theorem Jl:∀(ds:List Bool) (az bs:List V) (k:Nat) (h1:k<ds.length) (h2:k<az.length) (h3:k<bs.length),(∀(j:Nat) (j1:j<az.length) (j2:j<bs.length),j<k->fA az[j] bs[j]=0)->fA az[k] bs[k]≠0->qd ds az bs=if ds[k]=true then-fA az[k] bs[k]else fA az[k] bs[k]
 |d::ds,a::az,b::bs,0,_,_,_,_,h=>by
  simp only[qd,agQ]at h⊢;rw[if_neg]
  split<;>omega
 |d::ds,a::az,b::bs,k+1,h1,h2,h3,hz,h=>by
  have h0:=hz 0 (by simp) (by simp) (by omega);simp only[agQ]at h0;simp only[qd,List.getElem_cons_succ];rw[if_pos (by rw[h0];simp)];exact Jl ds az bs k (by simpa using h1) (by simpa using h2) (by simpa using h3) (fun j j1 j2 hj=>by have:=hz (j+1) (by simpa using j1) (by simpa using j2) (by omega);simpa using this) (by simpa using h)
 |[],_,_,_,h1,_,_,_,_=>by simp at h1
 |_::_,[],_,_,_,h2,_,_,_=>by simp at h2
 |_::_,_::_,[],_,_,_,h3,_,_=>by simp at h3
theorem AP:∀(ds:List Bool) (az bs:List V),(∀(j:Nat) (j0:j<ds.length) (j1:j<az.length) (j2:j<bs.length),fA az[j] bs[j]=0)->qd ds az bs=0
 |[],_,_,_=>by simp[qd]
 |_::_,[],_,_=>by simp[qd]
 |_::_,_::_,[],_=>by simp[qd]
 |d::ds,a::az,b::bs,h=>by
  have h0:=h 0 (by simp) (by simp) (by simp);simp only[agQ]at h0;simp only[qd];rw[if_pos (by rw[h0];simp)]
  exact AP ds az bs fun j j0 j1 j2=>by have:=h (j+1) (by simpa using j0) (by simpa using j1) (by simpa using j2);simpa using this
def Gq(ds:List Bool)(n:Nat)(az bs:Nat->V):Int:=match n,ds with
 |n+1,d::ds=>if(if d=true then-fA (az 0) (bs 0)else fA (az 0) (bs 0))=0 then Gq ds n (fun i=>az (i+1)) (fun i=>bs (i+1))else(if d=true then-fA (az 0) (bs 0)else fA (az 0) (bs 0))
 |_,_=>0
theorem IA:∀(ds:List Bool) (n:Nat),kQ (Gq ds n)
 |[],n=>by cases n<;>exact kQ.zero
 |_::_,0=>kQ.zero
 |true::ds,n+1=>by
  have:=((Jr.neg).on (fun az:Nat->V=>az 0)).lex ((IA ds n).on (fun az:Nat->V=>fun i=>az (i+1)));simpa[Gq]using this
 |false::ds,n+1=>by
  have:=((Jr).on (fun az:Nat->V=>az 0)).lex ((IA ds n).on (fun az:Nat->V=>fun i=>az (i+1)));simpa[Gq]using this
theorem MN:∀(ds:List Bool) (az bs:List V),az.length=ds.length->bs.length=ds.length->qd ds az bs=Gq ds ds.length (fun i=>az.getD i aZ) (fun i=>bs.getD i aZ)
 |[],az,bs,_,_=>by simp[qd,Gq]
 |d::ds,a::az,b::bs,h1,h2=>by
  have:=MN ds az bs (by simpa using h1) (by simpa using h2);simp only[qd,Gq,Yw,this];simp
 |_::_,[],_,h,_=>by simp at h
 |_::_,_::_,[],_,h=>by simp at h
end Mg
end
section
namespace Mg
theorem Ob(a b:Int):lX a b= -1\/lX a b=0\/lX a b=1:=by unfold lX;split<;>(try split)<;>omega
theorem Pb(a b:Lx.Bs):r9 a b= -1\/r9 a b=0\/r9 a b=1:=by unfold r9;split<;>(try split)<;>omega
theorem Ny(a b:V):wI a b= -1\/wI a b=0\/wI a b=1:=by
 unfold wI
 split
 · omega
 split
 · omega
 split
 · omega
 split
 · exact Pb _ _
 exact Ob _ _
end Mg
namespace Tb
open Bt
def Alike(xa xb:List abZ):Prop:=∀(j:Nat) (j1:j<xa.length) (j2:j<xb.length),∃t,agT xa[j] t/\agT xb[j] t
theorem Cr(os:List (ZU×Bool))(hn:os.length<=1000000)(xa xb:List abZ)(ha:xa.length=os.length)(hb:xb.length=os.length)(hal:Alike xa xb)(v va vb:Y3)(w:Y4)(hE:w.ownsRow 0 227 2 v os.length (os.flatMap dA))(hA:agr w va xa)(hB:agr w vb xb):
   aaT Zc 96 #[v,va,vb] w fun x w'=>x=Yl (Yg Yh (Mg.qd (os.map agU) xa xb))/\aaS w.heap.size w w':=by
 obtain⟨ao,cap,rfl,hEE⟩:=dI hE;obtain⟨aa,ac,rfl,hAA⟩:=hA;obtain⟨ba,bc,rfl,hBB⟩:=hB;have HE:=hd hEE;have HA:=hd hAA;have HB:=hd hBB;have HAL:=hd hal;have HLA:=hd ha;have HLB:=hd hb;clear hE hEE hAA hBB hal;rw[ha,hb];clear ha hb;go_enter Tryz.func96,Tryz.ntmps96;go_wp2_with fail;go_loopw [12] (fun i wr=>∃(k:Nat),i=Yg Yh k/\k<=os.length/\Yf (aaS w.heap.size w wr)/\Yf (∀(j:Nat) (j1:j<xa.length) (j2:j<xb.length),j<k->Mg.fA xa[j] xb[j]=0)) (fun i _=>os.length-(aeJ i).toNat)
 case atStart=>exact⟨0,rfl,aeR _,Zh _ _,fun j _ _ h=>by omega⟩
 case round=>
  obtain⟨k,rfl,hk,HW,HZ⟩:=hrel;by_cases hlt:k<os.length
  · obtain⟨g,hao,hg,c0⟩:=HE.o _ _ (mD os k hlt).1;obtain⟨g',hao',hg',c1⟩:=HE.o _ _ (mD os k hlt).2;rw[hao]at hao';injection hao' with hgg;injection hgg with hgg;subst hgg;obtain⟨et,ex,hev⟩:=jc os[k].1;have d0:=(HW.o.cell (p:=⟨g,k*2,Y1⟩) hg).trans c0;have d1:=(HW.o.cell (p:=⟨g,k*2+1,Y1⟩) hg).trans c1;have hg2:=nlA hg HW.o.size
    have hka:k<xa.length:=by rw[HLA.o];exact hlt
    have hkb:k<xb.length:=by rw[HLB.o];exact hlt
    have HEX:Yf (Mg.fA xa[k] xb[k]≠0->Mg.qd (os.map agU) xa xb=if os[k].2=true then-Mg.fA xa[k] xb[k]else Mg.fA xa[k] xb[k]):=by
     intro hne;have:=Mg.Jl (os.map agU) xa xb k (by simpa using hlt) hka hkb HZ.o hne;simpa using this
    have HNX:Yf (Mg.fA xa[k] xb[k]=0->∀(j:Nat) (j1:j<xa.length) (j2:j<xb.length),j<k+1->Mg.fA xa[j] xb[j]=0):=by
     intro hz j j1 j2 hj;rcases acg (ach hj)with h|rfl
     · exact HZ.o j j1 j2 h
     exact hz
    obtain⟨t,t1,t2⟩:=HAL.o k hka hkb;have hv2:=Mg.Nb t1 t2;obtain⟨ga,hga,Ri,a0,a1,a2⟩:=HA.o k hka;obtain⟨gb,hgb,RQ,b0,b1,b2⟩:=HB.o k hkb;rw[hv2]at HEX HNX;generalize xa[k]=ak at*;generalize xb[k]=bk at*;have hcp:=Mn.vP ak bk;have Rx:=Mg.Ny ak bk;generalize Mg.wI ak bk=c at*;obtain⟨ak0,ak1,ak2⟩:=ak;obtain⟨bk0,bk1,bk2⟩:=bk;simp only at a0 a1 a2 b0 b1 b2;unfold Mn.vV at hcp;simp only at hcp;have HCP:=hd hcp;generalize os[k]=o at*;obtain⟨e,dsc⟩:=o;simp only at hev d0 d1 HEX;rw[hev]at d0;have HW1:Yf (aaS w.heap.size w (wr.alloc (Yk #[Yo et ex,.bool dsc] 227))):=HW.o.alloc HW.o.size _;have HOB:=hd (ae.new wr #[Yo et ex,.bool dsc] 227);have hlo:=HOB.o.lt;have x0:=(HW1.o.cell (p:=⟨ga,k*3,Y1⟩) Ri).trans a0;have x1:=(HW1.o.cell (p:=⟨ga,k*3+1,Y1⟩) Ri).trans a1;have x2:=(HW1.o.cell (p:=⟨ga,k*3+2,Y1⟩) Ri).trans a2;have y0:=(HW1.o.cell (p:=⟨gb,k*3,Y1⟩) RQ).trans b0;have y1:=(HW1.o.cell (p:=⟨gb,k*3+1,Y1⟩) RQ).trans b1;have y2:=(HW1.o.cell (p:=⟨gb,k*3+2,Y1⟩) RQ).trans b2;have l1:=nlA Ri HW1.o.size;have l2:=nlA RQ HW1.o.size;clear hev c0 c1 hcp hv2 t1 t2 a0 a1 a2 b0 b1 b2;subst hao hga hgb;by_cases hz:c=0
    · have HNZ:=hd (HNX.o hz);subst hz;clear HEX Rx
      cases dsc
      all_goals
       go_wp2_with fail
       go_region_with (
         go_at_call 160
         refine(HCP.o _).mono ?_;rintro x w1 ⟨rfl,hb⟩;have HW2:Yf (aaS w.heap.size w w1):=HW1.o.drew.trans (hb.mono HW1.o.drew.size);have K1:=HOB.o.drew.below hb hlo;have z1:=K1.cell 1;have lz:=K1.lt;simp at z1
         clear hb K1)
       all_goals
        go_wp2_with fail;go_roundw
        case rel=>exact⟨k+1,rfl,by omega,HW2,HNZ⟩
        case measure=>simp[aeJ];omega
    have HRE:=hd (HEX.o hz);clear HEX HNX;rcases(show c= -1\/c=1 by omega)with rfl|rfl
    all_goals
     cases dsc
     all_goals
      go_wp2_with fail
      go_region_with (
        go_at_call 160
        refine(HCP.o _).mono ?_;rintro x w1 ⟨rfl,hb⟩;have HW2:Yf (aaS w.heap.size w w1):=HW1.o.drew.trans (hb.mono HW1.o.drew.size);have K1:=HOB.o.drew.below hb hlo;have z1:=K1.cell 1;have lz:=K1.lt;simp at z1
        clear hb K1)
      all_goals
       go_wp2_with fail;go_ret;exact⟨by rw[HRE.o];rfl,HW2.o⟩
  obtain rfl:k=os.length:=by omega
  have HZ0:Yf (Mg.qd (os.map agU) xa xb=0):=Mg.AP _ _ _ fun j j0 j1 j2=>HZ.o j j1 j2 (by simpa using j0)
  go_wp2_with fail;go_ret;exact⟨by rw[HZ0.o];rfl,HW.o⟩
end Tb
end
section
open Go
variable {P:Program}{ops:Array Oper}{Q:Exit->Act->Y4->Prop}{l n:Nat}
def xc(ops:Array Oper):Bool:=ops.all fun o=>match o.op with|.defer _=>false|_=>true
theorem Ig(h:xc ops=true){i:Nat}{o:Oper}(ho:ops[i]? =Y2 o)(c:Call):o.op≠ .defer c:=by
 intro hc;unfold xc at h;rw[Array.all_eq_true]at h;obtain⟨hi,he⟩:=geA.1 ho;have:=h i hi;rw[he,hc]at this
 cases this
theorem GZ{o:Oper}{K:Act->Y4->Prop}(hd:∀c,o.op≠ .defer c)(h:o.wp P a w K Q):o.wpIn (Fence.wide.inRound l) n P a w K Q:=by
 refine⟨fun _ _=>trivial,?_⟩;rw[Oper.semAt_eq _ _ _ hd];unfold Oper.wp at h;generalize (execOp a.eval o).run P w=r at h
 cases r with
 |ok nx w'=>
  cases nx with
  |value v=>exact h
  |skip=>exact h
  |defer d=>exact h
  |enter f args=>exact⟨(fun h=>by cases h),CallsIn.inRound l (callsIn_wide.2 h)⟩
  |row row args=>exact⟨(fun h=>by cases h),fun c cs _=>let ⟨v,w',r,s⟩:=h c cs;⟨v,w',r,stepsIn_wide.2 s⟩⟩
  |_=>exact(h:False).elim
 |halt s w'=>
  cases s with
  |panic v=>exact h
  |_=>exact(h:False).elim
theorem jr{md:Region.Mode}(hL:¬LetsOut Q)(hd:xc ops=true):∀(fuel:Nat) (listed:Array Bool) (a:Act) (w:Y4),wpAny P md ops Q fuel listed a w->wpAnyIn (Fence.wide.inRound l) n P md ops Q fuel listed a w
 |0,_,_,_,h=>h
 |fuel+1,listed,a,w,h=>by
  refine⟨h.1,fun i hi=> ?_⟩;have h2:=h.2 i hi;unfold wpOp at h2;unfold wpOpIn
  split at h2
  · rename_i hn;rw[hn];exact jr hL hd fuel _ a w h2
  rename_i o ho;rw[ho];dsimp only
  split at h2
  · rename_i hw;rw[if_pos hw];rcases h2 with h2|⟨_,h3⟩
    · exact Oper.wpIn_mono (fun a' w' h'=>jr hL hd fuel _ a' w' h') (GZ (Ig hd ho) h2)
    exact absurd h3 hL
  rename_i hw;rw[if_neg hw];exact⟨fun _ _=>trivial,jr hL hd fuel _ _ w h2⟩
theorem sj{S:Y4->Prop}{id:Nat}(hm:P.follows .mixedOrders=true)(hL:¬LetsOut Q)(hd:xc ops=true)(hS:S w.drew)
   (h:S w.drew->wpAnyH P .any ops Q S ops.size (agz ops.size false) a w.drew):(Code.region id ops true).wpIn (Fence.wide.inRound l) n P Q a w:=
 wpIn_region_any hm (jr hL hd _ _ _ _ (wpAny_of_held _ _ _ _ (h hS)))
end
section
open Go.RowKit Go.Shelf
attribute [local go_sem] Oper.semAt_some
namespace Tw
theorem fV{P:Program}{f:FuncId}{x y:Code}{Q:Exit->Act->Y4->Prop}(h:∀K:Act->Y4->Prop,(∀a w,uE f P y Q a w->K a w)->x.wp P (Exit.then K Q) a w):uE f P (.seq x y) Q a w:=
 yS (n:=0) (wpIn_wide.2 (h _ fun _ _ h=>h))
theorem ae.set1{t:Y5}(h:ae w b #[u] t):ae (w.setCell ⟨b,0,Y1⟩ v) b #[v] t:=by simpa using h.set 0 v
theorem ae.UY{t:Y5}(h:w.heap.size=b):ae (w.alloc (.cells cs t)) b cs t:=h▸ae.new w cs t
theorem cell_far{p a:abR}(h:p.block≠a.block)(hc:w.cell? a=Y2 u):(w.setCell p v).cell? a=Y2 u:=(agV w p a v h).trans hc
theorem gX{a:abR}{o:Obj}(hc:w.cell? a=Y2 u):(w.alloc o).cell? a=Y2 u:=by simp[*,World.cell?_alloc_some]
theorem Apart.below{a:Nat}(h:Apart a b W W')(h1:B<=a)(h2:B<=W.heap.size):aaS B W W':=
 ⟨h.os,h.tape,h.output,h.size,fun k hk=>h.block k (.inl (by omega)) (by omega)⟩
theorem aW(h:w.ownsRow B T s v n xs){p:abR}(x:Y3)(hp:p.block<B):(w.setCell p x).ownsRow B T s v n xs:=by
 refine⟨h.1,?_⟩;rcases h.2 with h2|⟨g,cap,cur,h0,h1,h2,h3⟩
 · exact .inl h2
 exact .inr ⟨g,cap,cur,h0,h1,(Zb _ _ _ _ (by omega)).trans h2,h3⟩
theorem Qr(h:w.ownsRow B T s v n xs){l:Nat}(o:Obj)(hp:l<B):(w.putObj l o).ownsRow B T s v n xs:=by
 refine⟨h.1,?_⟩;rcases h.2 with h2|⟨g,cap,cur,h0,h1,h2,h3⟩
 · exact .inl h2
 exact .inr ⟨g,cap,cur,h0,h1,(World.putObj_heap_other (by omega)).trans h2,h3⟩
structure Sl(w W:Y4)(p gi ci:Nat)(tn:ByteArray)(ao:Option abR)(co:Nat)(et:Y5)(ex:Y3)(b5 b6 gx cx:Nat):Prop where
 low:aaS w.heap.size w W
 k0:ae W w.heap.size #[Ym (Y2 ⟨p,0,Y1⟩)] 94
 k1:ae W (w.heap.size+1) #[Yp (Y2 ⟨gi,0,Y1⟩) 1 ci,.string tn,Yq,Yp ao 0 co,.bool false,Yg Yh 0] 109
 k2:ae W (w.heap.size+1+1) #[Yg Yh 0,Yp Y1 0 0,Yg Yh 0] 29
 k5:ae W b5 #[Yp (Y2 ⟨gx,0,Y1⟩) 1 cx] 132
 k6:ae W b6 #[Yp Y1 0 0] 132
 hx:gx<W.heap.size
 cx:W.cell? ⟨gx,0,Y1⟩=Y2 (Yo et ex)
theorem Tryz.info195:(Tryz.prog.info? 195).map (fun i=>(i.zero,i.size,i.bytes))=Y2 (Y2 (Yj #[Yp Y1 0 0,Yp Y1 0 0]),2,48):=by kernel_rfl
end Tw
end
section
namespace Mg
open Px (E)
def aG(cs:ay)(items orders:List E)(o:Option E):List (List V)->Except Nat (List (List V×List V))
 |[]=> .ok []
 |r::l=>match aY cs r o with
  |.error c=> .error c
  |.ok false=>aG cs items orders o l
  |.ok true=>match vals cs r items with
   |.error c=> .error c
   |.ok a=>match vals cs r orders with
    |.error c=> .error c
    |.ok b=>match aG cs items orders o l with
     |.error c=> .error c
     |.ok fs=> .ok ((a,b)::fs)
theorem mE{cs:ay}{items orders:List E}{o:Option E}{s:List (List V)}:∀{l:List (List V)} {fs:List (List V×List V)},aG cs items orders o l=.ok fs->aG cs items orders o (l++s)=match aG cs items orders o s with
   |.error c=> .error c
   |.ok gs=> .ok (fs++gs)
 |[],fs,h=>by
  simp only[aG]at h
  cases h
  simp only[YK]
  cases aG cs items orders o s<;>rfl
 |r::l,fs,h=>by
  simp only[aG]at h;simp only[YI,aG]
  cases hc:aY cs r o with
  |error c=>rw[hc]at h;cases h
  |ok b=>
   rw[hc]at h
   cases b with
   |false=>simp only at h⊢;exact mE h
   |true=>
    simp only at h⊢
    cases ha:vals cs r items with
    |error c=>rw[ha]at h;cases h
    |ok a=>
     rw[ha]at h;simp only at h⊢
     cases hb:vals cs r orders with
     |error c=>rw[hb]at h;cases h
     |ok b=>
      rw[hb]at h;simp only at h⊢
      cases hl:aG cs items orders o l with
      |error c=>rw[hl]at h;cases h
      |ok gs=>
       rw[hl]at h;simp only at h
       cases h
       rw[mE hl]
       cases aG cs items orders o s<;>rfl
theorem Hw{cs:ay}{items orders:List E}{o:Option E}{r:List V}{l:List (List V)}{fs:List (List V×List V)}(h:aG cs items orders o l=.ok fs)(hc:aY cs r o=.ok false):aG cs items orders o (l++[r])=.ok fs:=by
 rw[mE h];simp[aG,hc]
theorem IX{cs:ay}{items orders:List E}{o:Option E}{r:List V}{l:List (List V)}{fs:List (List V×List V)}{a b:List V}(h:aG cs items orders o l=.ok fs)(hc:aY cs r o=.ok true)(ha:vals cs r items=.ok a)(hb:vals cs r orders=.ok b):aG cs items orders o (l++[r])=.ok (fs++[(a,b)]):=by
 rw[mE h];simp[aG,hc,ha,hb]
theorem pM{cs:ay}{items orders:List E}{o:Option E}{r:List V}{l s:List (List V)}{fs:List (List V×List V)}(h:aG cs items orders o l=.ok fs)(he:aY cs r o=.error c\/(aY cs r o=.ok true/\(vals cs r items=.error c\/∃a,vals cs r items=.ok a/\vals cs r orders=.error c))):aG cs items orders o (l++r::s)=.error c:=by
 rw[mE h];rcases he with he|⟨hc,he|⟨a,ha,he⟩⟩
 · simp[aG,he]
 · simp[aG,hc,he]
 simp[aG,hc,ha,he]
def jb(cs:ay)(l:List (Option E))(o:Option E)(os:List (E×Bool)):List (E×Nat):=(Tb.bf cs l).map (fun e=>(e,0))++Tb.gL o++(os.map agx).map (fun e=>(e,0))
def Aa(ds:List Bool)(a b:List V×List V):Int:=Gq ds ds.length (fun i=>a.2.getD i aZ) (fun i=>b.2.getD i aZ)
theorem M9(ds:List Bool):kQ (Aa ds):=(IA ds ds.length).on fun(a:List V×List V)=>fun i=>a.2.getD i aZ
end Mg
end
section
open Go.RowKit Go.Shelf
attribute [local go_sem] Oper.semAt_some
namespace Tw
open Bt
theorem pU{P:Program}{ops:Array Oper}{Q:Exit->Act->Y4->Prop}{md:Region.Mode}{S:Y4->Prop}(i:Nat)(v:Y3){oi:Oper}{fuel:Nat}{listed:Array Bool}{a:Act}{w:Y4}(hy:∀w,S w->Sem.run P (execOp a.eval oi) w=.ok (.value v) w)(h:wpAnyH P md ops Q S fuel (listed.setIfInBounds i true) (a.put oi.dst v) w)
   (hi:ops[i]? =Y2 oi:=by rfl) (h1:Region.noSelect ops=true:=by kernel_rfl) (h2:Region.free md ops listed i=true:=by kernel_rfl) (h3:(Region.ready md ops listed).contains i=true:=by kernel_rfl) (h4:∀c a w,Q (.panic c) (a.put oi.dst v) w->Q (.panic c) a w:=by exact fun _ _ _ h=>h) (h5:Region.wanted oi (yielded ops a.tmps)=true:=by rfl) (hS:S w:=by assumption):wpAnyH P md ops Q S (fuel+1) listed a w:=
 wpAnyH_take hi h1 h2 h3 h4 (.inl ⟨h5,hy⟩) hS h
structure Sg(w W:Y4)(p:Nat)(sc:Array Y3)(b5 b6:Nat)(iv xv:Y3)(items orders:List ZU):Prop where
 low:aaS w.heap.size w W
 k0:ae W w.heap.size #[Ym (Y2 ⟨p,0,Y1⟩)] 94
 k1:ae W (w.heap.size+1) sc 109
 k2:ae W (w.heap.size+1+1) #[Yg Yh 0,Yp Y1 0 0,Yg Yh 0] 29
 k5:ae W b5 #[iv] 132
 k6:ae W b6 #[xv] 132
 o5:W.ownsRow (w.heap.size+1+1+1) 98 1 iv items.length (items.flatMap nP)
 o6:W.ownsRow (w.heap.size+1+1+1) 98 1 xv orders.length (orders.flatMap nP)
 lt:w.heap.size+1+1<b5/\w.heap.size+1+1<b6/\b5≠b6
def Wv(w:Y4)(cs:abS)(M:Tb.aN)(l:List (Option ZU))(o:Option ZU)(os:List (ZU×Bool))(lb:Bool)(ln:Nat)(x:aaY)(w':Y4):Prop:=aaS w.heap.size w w'/\match Mg.bJ cs (Mg.jb cs l o os)with
 |.error c=>x=lL 0 c
 |.ok _=>match Mg.aG cs (Tb.bf cs l) (os.map agx) o (M.map agU)with
  |.error c=>x=lL 0 c
  |.ok fs=>∃xs v,So.dR (fun a b=>decide (Mg.Aa (os.map agU) a b<0)) xs/\So.eP (fun a b=>decide (Mg.Aa (os.map agU) a b<0)) fs xs/\x=Yl (Yj #[Yg Yh ((Tb.bf cs l).length:Nat),v,Yg Yh 0])/\
    w'.ownsRow w.heap.size 39 3 v (((if lb=true then xs.take ln else xs).flatMap agx)).length (((if lb=true then xs.take ln else xs).flatMap agx).flatMap Mg.vC)
theorem Sg.below{items orders:List ZU}(h:Sg w W p sc b5 b6 iv xv items orders)(hb:aaS W.heap.size W W'):Sg w W' p sc b5 b6 iv xv items orders:=
 ⟨h.low.trans (hb.mono h.low.size),h.k0.below hb h.k0.lt,h.k1.below hb h.k1.lt,h.k2.below hb h.k2.lt,h.k5.below hb h.k5.lt,h.k6.below hb h.k6.lt,eO h.o5 hb,eO h.o6 hb,h.lt⟩
theorem UB{P:Program}{o:Oper}{K:Act->Y4->Prop}{Q:Exit->Act->Y4->Prop}(s x:Operand)(t:Y5)
   (ho:o.op=.call {callee:=.builtin .append,args:=#[s,x],argTypes:=#[t,t]})
   (base:Nat) (e:Y5) (i:TypeInfo) (z:Y3) (size bytes:Nat) (ht:P.underlying t=Y2 (.slice e)) (hi:P.info? e=Y2 i) (hz:i.zero=Y2 z)
   (hsize:i.size=size) (hby:i.bytes=bytes) (hzs:z.cells.size=size) (hsz:0<size)
   (v:Y3) (n:Nat) (xs:List Y3) (hs:a.eval s=v) (hown:w.ownsRow base e size v n xs)
   (ad:abR) (m c:Nat) (news:List Y3) (hx:a.eval x=Yp (Y2 ad) m c) (hl:news.length=m*size) (hnews:∀j u,news[j]? =Y2 u->w.cell? (ad.add j)=Y2 u) (h1:∀u∈news,u.oneCell'=true)
   (h63:n+m<=aaV) (hbytes:(n+m)*bytes<=140737488355328) (hbase:base<=w.heap.size)
   (h:∀v' w',w'.ownsRow base e size v' (n+m) (xs++news)->w.grownBy w' v.ownBlock->(∀g∈own v',g∈own v\/w.heap.size<=g)->K (a.put o.dst v') w'):Oper.wp P o a w K Q:=by
 obtain⟨v',w',hr,h2,h3,h4⟩:=ry (P:=P) w base t o.type e i z size bytes ht hi hz hsize hby hzs hsz v n xs hown ad m c news hl hnews h1 h63 hbytes hbase;unfold Oper.wp execOp;simp only[ho,resolve,invoke,builtin,Sem.run_bind,Sem.run_pure,Result.andThen_ok,List.map_toArray,YZ,Y0,hs,hx,hr];exact h v' w' h2 h3 h4
theorem _root_.Go.Proofs.YthhhfcdakfbpkaaGreatDoor.Mg.yP{cs:abS}{items orders:List ZU}{o:Option ZU}:∀{l:List (List abZ)} {fs:List (List abZ×List abZ)},Mg.aG cs items orders o l=.ok fs->fs.length<=l.length
 |[],fs,h=>by simp only[Mg.aG]at h;cases h;simp
 |r::l,fs,h=>by
  simp only[Mg.aG]at h
  split at h
  · cases h
  · have:=Mg.yP h;simp;omega
  split at h
  · cases h
  split at h
  · cases h
  split at h
  · cases h
  rename_i hl
  cases h
  have:=Mg.yP hl;simp;omega
theorem Bd(tp:Option abR)(o:Option ZU)(w:Y4):aaT Zc 85 #[.pointer tp,ev? o] w fun x w'=>x=Yl (.func (.func 151) #[] #[Ym (Y2 ⟨w.heap.size,0,Y1⟩),Ym (Y2 ⟨w.heap.size+1,0,Y1⟩)])/\w'=(w.alloc (Yk #[.pointer tp] 94)).alloc (Yk #[ev? o] 98):=by
 cases o with
 |none=>exact Tq.Hu tp w
 |some e=>
  obtain⟨et,ex,hev⟩:=jc e;have Ce:ev? (Y2 e)=Yo et ex:=hev;rw[Ce];go_enter agu,agv;go_wp2_with fail;go_ret;exact⟨rfl,rfl⟩
structure Qy(w W:Y4)(p:Nat)(sc:Array Y3):Prop where
 low:aaS w.heap.size w W
 k0:ae W w.heap.size #[Ym (Y2 ⟨p,0,Y1⟩)] 94
 k1:ae W (w.heap.size+1) sc 109
 k2:ae W (w.heap.size+1+1) #[Yg Yh 0,Yp Y1 0 0,Yg Yh 0] 29
theorem Qy.below(h:Qy w W p sc)(hb:aaS W.heap.size W W'):Qy w W' p sc:=
 ⟨h.low.trans (hb.mono h.low.size),h.k0.below hb h.k0.lt,h.k1.below hb h.k1.lt,h.k2.below hb h.k2.lt⟩
theorem Qy.set{i:Nat}{x:Y3}(h:Qy w W p sc)(hb:w.heap.size+1+1<b):Qy w (W.setCell ⟨b,i,Y1⟩ x) p sc:=
 ⟨h.low.setCell (by show w.heap.size<=b;omega) _,h.k0.far _ _ (by show b≠_;omega),h.k1.far _ _ (by show b≠_;omega),h.k2.far _ _ (by show b≠_;omega)⟩
theorem Qy.held{a b c d e f:Y3}(h:Qy w W p #[a,b,c,d,e,f]):W.cell? ⟨w.heap.size,0,Y1⟩=Y2 (Ym (Y2 ⟨p,0,Y1⟩))/\W.cell? ⟨w.heap.size+1,0,Y1⟩=Y2 a/\W.cell? ⟨w.heap.size+1,3,Y1⟩=Y2 d:=⟨h.k0.cell 0,h.k1.cell 0,h.k1.cell 3⟩
theorem _root_.Go.Proofs.YthhhfcdakfbpkaaGreatDoor.Tb.Uf{cs:abS}(hc:1<=cs.length/\cs.length<=6):∀l:List (Option ZU),(Tb.bf cs l).length<=l.length*6
 |[]=>by simp[Tb.bf]
 |a::r=>by
  have ih:=Tb.Uf hc r
  have e:Tb.bf cs (a::r)=Tb.MF cs a++Tb.bf cs r:=by simp[Tb.bf]
  have h1:(Tb.MF cs a).length<=6:=by cases a<;>simp[Tb.MF]<;>omega
  rw[e,aaN,Yw];omega
theorem _root_.Go.Proofs.YthhhfcdakfbpkaaGreatDoor.Tb.Oo{ds:List (ZU×Nat)}(h:u∈ds.flatMap Tb.gU):u.oneCell'=true:=by
 obtain⟨d,_,hd⟩:=List.mem_flatMap.1 h;obtain⟨t,x,hx⟩:=jc d.1;simp only[Tb.gU,aeQ,afA,or_false,hx]at hd;rcases hd with rfl|rfl<;>rfl
theorem _root_.Go.Proofs.YthhhfcdakfbpkaaGreatDoor.Tb.NB{cs:abS}{l:List (Option ZU)}{o:Option ZU}{os:List (ZU×Bool)}(h:w.ownsRow b 191 2 v [(Tb.bf cs l).length,(Tb.gL o).length,os.length].sum [((Tb.bf cs l).map fun e=>(e,0)).flatMap Tb.gU,(Tb.gL o).flatMap Tb.gU,((os.map agx).map fun e=>(e,0)).flatMap Tb.gU].flatten):
   w.ownsRow b 191 2 v (Mg.jb cs l o os).length ((Mg.jb cs l o os).flatMap Tb.gU):=by
 unfold Mg.jb;simpa[aeN,YT]using h
def Qd(K:Act->Y4->Prop)(R:aaY->Y4->Prop):Exit->Act->Y4->Prop
 |.normal,a,w=>K a w
 |.panic c,a,w=>a.defers=[]/\R (.panicked c) w
 |_,_,_=>False
theorem Dl{K:Act->Y4->Prop}{R:aaY->Y4->Prop}{P:Program}{fn:Func}:∀(e:Exit) (a:Act) (w:Y4),Qd K R e a w->Exit.then K (bodyPostM Fence.wide n P fn R) e a w:=by
 intro e a w h
 cases e with
 |normal=>exact h
 |panic c=>
  show LeavesInM _ _ _ _ _ _ _ _ _;rw[h.1];exact h.2
 |_=>exact h.elim
theorem rZ{T':Y5}{x:Y3}(h:w.ownsRow b T s v n xs)(hB:ae w b5 cs T')(hT:T≠T'):(w.setCell ⟨b5,0,Y1⟩ x).ownsRow b T s v n xs:=by
 refine aK h fun g hg=>Zb _ _ _ _ (fun e=> ?_)
 have e':g=b5:=e;subst e';rcases h.2 with⟨rfl,_⟩|⟨g1,_,_,rfl,_,h1,_⟩
 · simp[own,aaR]at hg
 simp[own,aaR]at hg;subst hg;have:=h1.symm.trans hB;injection this with this;injection this with _ this;exact hT this
theorem _root_.Go.Proofs.YthhhfcdakfbpkaaGreatDoor.Tb.JP{cs:abS}{l:List (Option ZU)}(hc:1<=cs.length/\cs.length<=6)(hl:l.length<=2000/\n<=2000/\1<=l.length):(Tb.bf cs l).length<=1000000/\1<=(Tb.bf cs l).length:=by
 have key:∀l:List (Option ZU),(Tb.bf cs l).length<=l.length*6/\l.length<=(Tb.bf cs l).length:=by
  intro l
  induction l with
  |nil=>simp[Tb.bf]
  |cons a r ih=>
   have e:Tb.bf cs (a::r)=Tb.MF cs a++Tb.bf cs r:=by simp[Tb.bf]
   have h1:(Tb.MF cs a).length<=6/\1<=(Tb.MF cs a).length:=by cases a<;>simp[Tb.MF]<;>omega
   rw[e,aaN,Yw];omega
 have:=key l;omega
theorem Sg.keep{items orders:List ZU}(h:Sg w W p sc b5 b6 iv xv items orders)(N:Nat)(h1:w.heap.size+1+1<N/\b5<N/\b6<N/\(∀g∈own iv,g<N)/\∀g∈own xv,g<N)(hos:W'.os=W.os)(htp:W'.tape=W.tape)(hou:W'.output=W.output)(hs:W.heap.size<=W'.heap.size)(hk:∀k,k<N->k<W.heap.size->W'.heap[k]? =W.heap[k]?):Sg w W' p sc b5 b6 iv xv items orders:=by
 have hb:∀{b:Nat} {cs:Array Y3} {T:Y5},ae W b cs T->b<N->ae W' b cs T:=fun{b cs T} hB hn=>by
  have:=hk b hn hB.lt;unfold ae at*;rw[this];exact hB
 have hls:=h.low.size;exact⟨⟨hos.trans h.low.os,htp.trans h.low.tape,hou.trans h.low.output,YB hls hs,fun k hkk=>(hk k (by omega) (by omega)).trans (h.low.block k hkk)⟩,hb h.k0 (by omega),hb h.k1 (by omega),hb h.k2 h1.1,hb h.k5 h1.2.1,hb h.k6 h1.2.2.1,aK h.o5 fun g hg=>hk g (h1.2.2.2.1 g hg) (aQ h.o5 g hg),aK h.o6 fun g hg=>hk g (h1.2.2.2.2 g hg) (aQ h.o6 g hg),h.lt⟩
structure Fg(w W1 W:Y4)(p:Nat)(sc:Array Y3)(b5 b6 b7:Nat)(iv xv:Y3)(items orders:List ZU)(cs:abS)(o:Option ZU)(Q:List (List abZ))(fs:List (List abZ×List abZ))(fv:Y3)(es:List (Y3×Y3))(y:Nat):Prop where
 sg:Sg w W p sc b5 b6 iv xv items orders
 k7:ae W b7 #[fv] 193
 ow:W.ownsRow (W1.heap.size+4) 195 2 fv es.length (ah es)
 len:es.length=fs.length
 cells:∀(j:Nat) (h1:j<es.length) (h2:j<fs.length),W.ownsRow (W1.heap.size+4) 39 3 es[j].1 fs[j].1.length (fs[j].1.flatMap Mg.vC)/\W.ownsRow (W1.heap.size+4) 39 3 es[j].2 fs[j].2.length (fs[j].2.flatMap Mg.vC)
 found:Mg.aG cs items orders o Q=.ok fs
 size:W1.heap.size<=W.heap.size
 kept:∀k,b7<k->k<W1.heap.size->k≠y->W.heap[k]? =W1.heap[k]?
theorem Fg.below{items orders:List ZU}{cs:abS}{o:Option ZU}{Q:List (List abZ)}{fs:List (List abZ×List abZ)}{es:List (Y3×Y3)}(h:Fg w W1 W p sc b5 b6 b7 iv xv items orders cs o Q fs fv es y)(hb:aaS W.heap.size W W'):Fg w W1 W' p sc b5 b6 b7 iv xv items orders cs o Q fs fv es y:=
 ⟨h.sg.below hb,h.k7.below hb h.k7.lt,eO h.ow hb,h.len,fun j h1 h2=>⟨eO (h.cells j h1 h2).1 hb,eO (h.cells j h1 h2).2 hb⟩,h.found,YB h.size hb.size,fun k h1 h2 h3=>(hb.block k (nlA h2 h.size)).trans (h.kept k h1 h2 h3)⟩
theorem DD{a:Nat}(h:w.ownsRow B T s v n xs)(hA:Apart a c w w')(hc:c<=B):w'.ownsRow B T s v n xs:=
 aK h fun g hg=>hA.block g (.inr (by have:=(h.lt g (by simpa[own]using hg)).1;omega)) (aQ h g hg)
theorem Fg.apart{items orders:List ZU}{cs:abS}{o:Option ZU}{Q:List (List abZ)}{fs:List (List abZ×List abZ)}{es:List (Y3×Y3)}(h:Fg w W1 W p sc b5 b6 b7 iv xv items orders cs o Q fs fv es y)(hlt:w.heap.size+1+1<W1.heap.size/\b5<W1.heap.size/\b6<W1.heap.size/\(∀g∈own iv,g<W1.heap.size)/\∀g∈own xv,g<W1.heap.size)(h7:b7<W1.heap.size)(ha:Apart W1.heap.size (W1.heap.size+4) W W'):Fg w W1 W' p sc b5 b6 b7 iv xv items orders cs o Q fs fv es y:=
 ⟨h.sg.keep W1.heap.size hlt ha.os ha.tape ha.output ha.size (fun k h1 h2=>ha.block k (.inl h1) h2),by have:=ha.block b7 (.inl h7) h.k7.lt;have hk:=h.k7;unfold ae at*;rw[this];exact hk,DD h.ow ha (nlr _),h.len,fun j h1 h2=>⟨DD (h.cells j h1 h2).1 ha (nlr _),DD (h.cells j h1 h2).2 ha (nlr _)⟩,h.found,YB h.size ha.size,fun k h1 h2 h3=>(ha.block k (.inl h2) (nlA h2 h.size)).trans (h.kept k h1 h2 h3)⟩
theorem Fg.turn{items orders:List ZU}{cs:abS}{o:Option ZU}{Q:List (List abZ)}{fs:List (List abZ×List abZ)}{es:List (Y3×Y3)}(h:Fg w W1 W p sc b5 b6 b7 iv xv items orders cs o Q fs fv es y)(hlt:w.heap.size+1+1<b7/\b5<b7/\b6<b7/\(∀g∈own iv,g<b7)/\∀g∈own xv,g<b7){l:Nat}(h7:b7<l)(hl:l<W1.heap.size)(ob:Obj)(y':Nat)(hy:∀k,b7<k->k<W1.heap.size->k≠y'->(W.putObj l ob).heap[k]? =W1.heap[k]?):Fg w W1 (W.putObj l ob) p sc b5 b6 b7 iv xv items orders cs o Q fs fv es y':=by
 have hs:(W.putObj l ob).heap.size=W.heap.size:=by simp[World.putObj]
 have hk:∀k,k≠l->(W.putObj l ob).heap[k]? =W.heap[k]?:=fun k hk=>World.putObj_heap_other hk
 have hsz:=h.size
 have hown:∀{T:Y5} {s:Nat} {v:Y3} {n:Nat} {xs:List Y3},W.ownsRow (W1.heap.size+4) T s v n xs->(W.putObj l ob).ownsRow (W1.heap.size+4) T s v n xs:=fun{T s v n xs} ho=>aK ho fun g hg=>hk g (by have:=(ho.lt g (by simpa[own]using hg)).1;omega)
 refine⟨h.sg.keep b7 hlt rfl rfl rfl (by rw[hs];exact nlr _) (fun k h1 _=>hk k (by omega)),?_,hown h.ow,h.len,fun j h1 h2=>⟨hown (h.cells j h1 h2).1,hown (h.cells j h1 h2).2⟩,h.found,by rw[hs];exact hsz,hy⟩;have:=hk b7 (by omega);have hk7:=h.k7;unfold ae at*;rw[this];exact hk7
theorem Fg.add{w5:Y4}{items orders:List ZU}{cs:abS}{o:Option ZU}{Q:List (List abZ)}{fs:List (List abZ×List abZ)}{es:List (Y3×Y3)}(h:Fg w W1 W p sc b5 b6 b7 iv xv items orders cs o Q fs fv es y)(hlt:w.heap.size+1+1<b7/\b5<b7/\b6<b7/\(∀g∈own iv,g<b7)/\∀g∈own xv,g<b7)(h7:b7<W1.heap.size){x1 x2 v':Y3}{a b:List abZ}{r:List abZ}
   (hg:(W.alloc (Yk #[x1,x2] 195)).grownBy w5 fv.ownBlock) (hown:w5.ownsRow (W1.heap.size+4) 195 2 v' (es.length+1) (ah es++[x1,x2])) (h1:W.ownsRow (W1.heap.size+4) 39 3 x1 a.length (a.flatMap Mg.vC)) (h2:W.ownsRow (W1.heap.size+4) 39 3 x2 b.length (b.flatMap Mg.vC)) (hf:Mg.aG cs items orders o (Q++[r])=.ok (fs++[(a,b)])):
   Fg w W1 (w5.setCell ⟨b7,0,Y1⟩ v') p sc b5 b6 b7 iv xv items orders cs o (Q++[r]) (fs++[(a,b)]) v' (es++[(x1,x2)]) y:=by
 have T:ax (own fv) (W.alloc (Yk #[x1,x2] 195)) w5:=ax.grown hg (fun k hk=>by simp[own,hk])
 have hfv:∀g∈own fv,W1.heap.size+4<=g:=fun g hg=>(h.ow.lt g (by simpa[own]using hg)).1
 have hA:aaS W.heap.size W (W.alloc (Yk #[x1,x2] 195)):=(Zh _ W).alloc (nlr _) _;have hsz:=h.size;have hs5:W.heap.size<=w5.heap.size:=YB hA.size T.size
 have hk5:∀k,k<W1.heap.size->w5.heap[k]? =W.heap[k]?:=fun k hk=>(T.block k (nlA (by omega) hA.size) (fun hx=>by have:=hfv k hx;omega)).trans (hA.block k (by omega))
 have hkb:∀k,k<W1.heap.size->k≠b7->(w5.setCell ⟨b7,0,Y1⟩ v').heap[k]? =W.heap[k]?:=fun k hk hne=>(Zb _ _ _ _ (by show k≠b7;exact hne)).trans (hk5 k hk)
 have hval:∀{u:Y3} {n:Nat} {xs:List Y3},W.ownsRow (W1.heap.size+4) 39 3 u n xs->(w5.setCell ⟨b7,0,Y1⟩ v').ownsRow (W1.heap.size+4) 39 3 u n xs:=fun{u n xs} hu=>by
  have q:=af (hu.alloc (Yk #[x1,x2] 195)) T (Tb.own_ne hu h.ow (by decide))
  exact aK q fun g hg=>Zb _ _ _ _ (by have:=(q.lt g (by simpa[own]using hg)).1;show g≠b7;omega)
 have hK7:ae w5 b7 #[fv] 193:=by
  have:=hk5 b7 h7;have hk:=h.k7;unfold ae at*;rw[this];exact hk
 refine⟨h.sg.keep b7 hlt (T.os.trans rfl) (T.tape.trans rfl) (T.output.trans rfl) (by simpa using hs5) (fun k h1 _=>hkb k (by omega) (by omega)),ae.set1 (u:=fv) hK7,?_,by simp[h.len],fun j j1 j2=> ?_,hf,by simp;omega,fun k h1 h2 h3=>(hkb k h2 (by omega)).trans (h.kept k h1 h2 h3)⟩
 · rw[aaN,gy]
   exact aK hown fun g hg=>Zb _ _ _ _ (by have:=(hown.lt g (by simpa[own]using hg)).1;show g≠b7;omega)
 rcases aeW j es.length with hj|hj
 · rw[ael hj,ael (by rw[<-h.len];exact hj)];exact⟨hval (h.cells j hj (by rw[<-h.len];exact hj)).1,hval (h.cells j hj (by rw[<-h.len];exact hj)).2⟩
 have hje:j=es.length:=by simp at j1;omega
 subst hje;rw[aem (nlr _),aem (by rw[h.len];exact nlr _)];simp only[h.len,adT,agQ];exact⟨hval h1,hval h2⟩
theorem Fg.mid{w5:Y4}{items orders:List ZU}{cs:abS}{o:Option ZU}{Q:List (List abZ)}{fs:List (List abZ×List abZ)}{es:List (Y3×Y3)}(h:Fg w W1 W p sc b5 b6 b7 iv xv items orders cs o Q fs fv es y)(hlt:w.heap.size+1+1<W1.heap.size/\b5<W1.heap.size/\b6<W1.heap.size/\(∀g∈own iv,g<W1.heap.size)/\∀g∈own xv,g<W1.heap.size)(h7:b7<W1.heap.size){x1 x2:Y3}
   (hg:(W.alloc (Yk #[x1,x2] 195)).grownBy w5 fv.ownBlock):Sg w w5 p sc b5 b6 iv xv items orders/\ae w5 b7 #[fv] 193/\W.heap.size+1<=w5.heap.size/\(∀k,k<W.heap.size->k∉own fv->w5.heap[k]? =W.heap[k]?)/\∀g∈own fv,W1.heap.size+4<=g:=by
 have T:ax (own fv) (W.alloc (Yk #[x1,x2] 195)) w5:=ax.grown hg (fun k hk=>by simp[own,hk])
 have hfv:∀g∈own fv,W1.heap.size+4<=g:=fun g hg=>(h.ow.lt g (by simpa[own]using hg)).1
 have hA:aaS W.heap.size W (W.alloc (Yk #[x1,x2] 195)):=(Zh _ W).alloc (nlr _) _;have hsz:=h.size
 have hs5:W.heap.size+1<=w5.heap.size:=by have:=T.size;rw[ZC]at this;exact this
 have hk5:∀k,k<W.heap.size->k∉own fv->w5.heap[k]? =W.heap[k]?:=fun k hk hx=>(T.block k (nlA hk hA.size) hx).trans (hA.block k hk)
 have hlow:∀k,k<W1.heap.size->w5.heap[k]? =W.heap[k]?:=fun k hk=>hk5 k (by omega) (fun hx=>by have:=hfv k hx;omega)
 refine⟨h.sg.keep W1.heap.size hlt (T.os.trans rfl) (T.tape.trans rfl) (T.output.trans rfl) (by omega) (fun k h1 _=>hlow k h1),?_,hs5,hk5,hfv⟩;have:=hlow b7 h7;have hk:=h.k7;unfold ae at*;rw[this];exact hk
def rowOf(M:Tb.aN)(e:Y3×Y3):List abZ:=match e.1 with
 |.int _ z=>((M.find? fun m=>m.1==z).map agU).getD []
 |_=>[]
theorem rP{M:Tb.aN}(hr:M.Pairwise fun a b=>a.1<b.1){m:Int×List abZ}(hm:m∈M){e:Y3×Y3}(he:e.1=Yg Yh m.1):rowOf M e=m.2:=by
 unfold rowOf;rw[he];simp only
 have:M.find? (fun x=>x.1==m.1)=Y2 m:=by
  induction M with
  |nil=>simp at hm
  |cons a r ih=>
   rcases List.mem_cons.1 hm with rfl|hm
   · simp
   have h1:=aeT hr hm;rw[List.find?_cons_of_neg (by simp;omega)];exact ih hr.of_cons hm
 rw[this];rfl
theorem AL{M0:Tb.aN}(hr:M0.Pairwise fun a b=>a.1<b.1):∀{L:List (Y3×Y3)} {M:Tb.aN},Tb.bg w L M->(∀m∈M,m∈M0)->L.map (rowOf M0)=M.map agU
 |[],[],_,_=>rfl
 |e::L,m::M,h,hs=>by
  simp only[YZ];rw[rP hr (hs m (by simp)) h.1.1,AL hr h.2 fun m hm=>hs m (by simp[hm])]
 |[],_::_,h,_=>h.elim
 |_::_,[],h,_=>h.elim
end Tw
end
section
namespace Tw
open Bt
theorem Et(os:List (ZU×Bool))(hn:os.length<=1000000)(xa xb:List abZ)(ha:xa.length=os.length)(hb:xb.length=os.length)(hal:Tb.Alike xa xb)(v va vb ca cb:Y3)(b:Nat)(x0 x1 x2 x4 x5:Y3)(w:Y4)(hK:ae w b #[x0,x1,x2,v,x4,x5] 109)(hE:w.ownsRow 0 227 2 v os.length (os.flatMap dA))(hA:agr w va xa)(hB:agr w vb xb):
   aaT Zc 95 #[Yj #[ca,va],Yj #[cb,vb],Ym (Y2 ⟨b,0,Y1⟩)] w fun x w'=>x=Yl (Yg Yh (Mg.qd (os.map agU) xa xb))/\aaS w.heap.size w w':=by
 have c3:=hK.cell 3;simp at c3;have hlt:=hK.lt;have HC:=hd (fun(W:Y4) (hW:aaS w.heap.size w W)=>Tb.Cr os hn xa xb ha hb hal v va vb W (eO hE hW) (hA.below hW) (hB.below hW));clear hE hA hB hK;go_enter Tryz.func95,Tryz.ntmps95;go_wp2_with fail;refine(HC.o _ (by go_grown)).mono ?_;rintro x W1 ⟨rfl,hW⟩;have HW:=hd hW;clear hW;go_wp2_with fail;go_ret;have hW:=HW.o
 have h0:aaS w.heap.size w ((w.alloc (Yk #[ca,va] 195)).alloc (Yk #[cb,vb] 195)):=by go_grown
 exact⟨rfl,h0.trans (hW.mono h0.size)⟩
structure UJ(ts:Nat->Nat)(n:Nat)(g:Nat)(w:Y4)(a:(Y3×Y3)×(List abZ×List abZ)):Prop where
 two:So.Two a.1
 len:a.2.2.length=n
 row:agr w a.1.2 a.2.2
 off:∀x∈own a.1.2,x<w.heap.size/\x≠g
 has:∀(j:Nat) (h:j<a.2.2.length),agT a.2.2[j] (ts j)
theorem Ui(os:List (ZU×Bool))(hn:os.length<=1000000)(ts:Nat->Nat)(g b:Nat)(v:Y3)(x0 x1 x2 x4 x5:Y3)(w:Y4)(hK:ae w b #[x0,x1,x2,v,x4,x5] 109)(hbg:b≠g)(hE:w.ownsRow 0 227 2 v os.length (os.flatMap dA))(hg:g∉own v):
   So.BA agx (fun a b=>Mg.Aa (os.map agU) a.2 b.2) (UJ ts os.length g w) (Ym (Y2 ⟨b,0,Y1⟩)) g w:=by
 intro W hW x y hx hy
 have h1:ae W b #[x0,x1,x2,v,x4,x5] 109:=by
  have:=hW.block b hK.lt (by simpa using hbg);unfold ae at*;rw[this];exact hK
 have h2:W.ownsRow 0 227 2 v os.length (os.flatMap dA):=aK hE fun k hk=>hW.block k (aQ hE k hk) (by simp;rintro rfl;exact hg hk)
 have hr:∀z,UJ ts os.length g w z->agr W z.1.2 z.2.2:=fun z hz=>hz.row.keep hW.size fun k hk=>hW.block k (hz.off k hk).1 (by simpa using(hz.off k hk).2)
 have h:=Et os hn x.2.2 y.2.2 hx.len hy.len (fun j j1 j2=>⟨ts j,hx.has j j1,hy.has j j2⟩) v x.1.2 y.1.2 x.1.1 y.1.1 b x0 x1 x2 x4 x5 W h1 h2 (hr x hx) (hr y hy);rw[Mg.MN _ _ _ (by simpa using hx.len) (by simpa using hy.len)]at h;exact h
end Tw
end
section
namespace Tw
open Bt
def BG(w:Y4)(v:Y3)(zs:List (Y3×Y3)):Prop:=∃ao cap,v=Yp ao zs.length cap/\∀(j:Nat) (h:j<zs.length),∃g,ao=Y2 ⟨g,0,Y1⟩/\g<w.heap.size/\w.cell? ⟨g,j*2,Y1⟩=Y2 zs[j].1/\w.cell? ⟨g,j*2+1,Y1⟩=Y2 zs[j].2
def fC(os:List (ZU×Bool))(a b:(Y3×Y3)×(List abZ×List abZ)):Int:=Mg.Aa (os.map agU) a.2 b.2
theorem SY(os:List (ZU×Bool)):So.sM (So.ed (fC os)):=((Mg.M9 (os.map agU)).on agU).swo
theorem IP(os:List (ZU×Bool))(hn:os.length<=1000000)(ts:Nat->Nat)(b B:Nat)(v:Y3)(x0 x1 x2 x4 x5:Y3)(W:Y4)(es:List (Y3×Y3))(fs:List (List abZ×List abZ))(fv:Y3)(hlen:es.length=fs.length)(hm:es.length<=1000000)
   (ow:W.ownsRow B 195 2 fv es.length (ah es)) (hK:ae W b #[x0,x1,x2,v,x4,x5] 109) (hE:W.ownsRow 0 227 2 v os.length (os.flatMap dA)) (hb:b<B) (hv:∀g∈own v,g<B)
   (hF:∀g∈own fv,∀a∈es.zip fs,UJ ts os.length g W a):
   aaT Zc 94 #[fv,.func (.func 95) #[] #[Ym (Y2 ⟨b,0,Y1⟩)]] W fun e W'=>e=Yl (Yn #[])/\ax (own fv) W W'/\∃zs,So.dR (So.ed (fC os)) zs/\So.eP (So.ed (fC os)) (es.zip fs) zs/\zs.length=es.length/\BG W' fv (zs.map agx):=by
 have WH:(es.zip fs).map agx=es:=List.map_fst_zip (by omega)
 have hzl:(es.zip fs).length=es.length:=by simp;omega
 rcases ow.2 with⟨hfv,h0⟩|⟨g,cap,cur,hfv,hB,hg,h1,h2,h3,h4⟩
 · subst hfv;have he:es=[]:=aed h0;subst he;refine(So.M6 _ W).mono ?_;rintro x W1 ⟨rfl,rfl⟩;exact⟨rfl,ax.refl _ _,[],So.dR.nil _,So.eP.refl _ _,rfl,Y1,0,rfl,fun j h=>by simp at h⟩
 subst hfv;have hL:=So.dB.own ow;refine(So.Qa agx (fC os) (UJ ts os.length g W) (SY os) g es.length cap ⟨b,0,Y1⟩ W (es.zip fs) ⟨by rw[WH];exact hL,hzl.symm,hm,hF g (by simp[own,aaR]),fun a h=>h.two,Ui os hn ts g b v x0 x1 x2 x4 x5 W hK (by omega) hE (fun h=>by have:=hv g h;omega)⟩).mono ?_;rintro x W1 ⟨rfl,hT,zs,hs1,hs2,hD⟩;refine⟨rfl,by simpa[own,aaR]using hT,zs,hs1,hs2,hD.len.symm,Y2 ⟨g,0,Y1⟩,cap,by rw[hD.len];simp,fun j h=>⟨g,rfl,hD.lies.lt,hD.lies.at j h⟩⟩
end Tw
end
section
namespace Mg
open Px (E)
theorem mK{cs:ay}{row:List V}:∀{es:List E} {l:List V},vals cs row es=.ok l->l.length=es.length/\∀(j:Nat) (h1:j<es.length) (h2:j<l.length),value cs row es[j]=.ok l[j]
 |[],l,h=>by simp only[vals]at h;cases h;exact⟨rfl,fun j h1=>by simp at h1⟩
 |e::r,l,h=>by
  simp only[vals]at h
  cases hv:value cs row e with
  |error c=>rw[hv]at h;cases h
  |ok v=>
   rw[hv]at h;simp only at h
   cases hl:vals cs row r with
   |error c=>rw[hl]at h;cases h
   |ok s=>
    rw[hl]at h;simp only at h
    cases h
    have ih:=mK hl;refine⟨by simp[ih.1],fun j h1 h2=> ?_⟩
    cases j with
    |zero=>exact hv
    |succ j=>exact ih.2 j (by simpa using h1) (by simpa using h2)
theorem ji{cs:ay}{items orders:List E}{o:Option E}:∀{Q:List (List V)} {fs:List (List V×List V)},aG cs items orders o Q=.ok fs->fs.length<=Q.length/\∀f∈fs,∃r∈Q,vals cs r items=.ok f.1/\vals cs r orders=.ok f.2
 |[],fs,h=>by simp only[aG]at h;cases h;exact⟨nlr _,fun f hf=>by simp at hf⟩
 |r::l,fs,h=>by
  simp only[aG]at h
  cases hc:aY cs r o with
  |error c=>rw[hc]at h;cases h
  |ok b=>
   rw[hc]at h
   cases b with
   |false=>
    simp only at h;have ih:=ji h;exact⟨by simp;omega,fun f hf=>by obtain⟨q,h1,h2⟩:=ih.2 f hf;exact⟨q,by simp[h1],h2⟩⟩
   |true=>
    simp only at h
    cases ha:vals cs r items with
    |error c=>rw[ha]at h;cases h
    |ok a=>
     rw[ha]at h;simp only at h
     cases hb:vals cs r orders with
     |error c=>rw[hb]at h;cases h
     |ok b=>
      rw[hb]at h;simp only at h
      cases hl:aG cs items orders o l with
      |error c=>rw[hl]at h;cases h
      |ok gs=>
       rw[hl]at h;simp only at h
       cases h
       have ih:=ji hl;refine⟨by simp;omega,fun f hf=> ?_⟩;rcases List.mem_cons.1 hf with rfl|hf
       · exact⟨r,by simp,ha,hb⟩
       obtain⟨q,h1,h2⟩:=ih.2 f hf;exact⟨q,by simp[h1],h2⟩
def QU(cs:ay)(orders:List E)(j:Nat):Nat:=match orders[j]? with
 |none=>0
 |some e=>match typ cs e with
  |.ok t=>t
  |.error _=>0
theorem Nk{cs:ay}{row:List V}(hr:jB cs row){orders:List E}{l:List V}(ho:∀e∈orders,e.ok 2000/\knows cs e=true/\∃t,typ cs e=.ok t)(h:vals cs row orders=.ok l)(j:Nat)(hj:j<l.length):Has l[j] (QU cs orders j):=by
 obtain⟨h1,h2⟩:=mK h
 have hj':j<orders.length:=by omega
 obtain⟨q1,_,t,q2⟩:=ho orders[j] (acw hj');have:=(sound hr _ _ _ q1 q2 (h2 j hj' hj)).2;simpa[QU,hj',q2]using this
end Mg
namespace Tw
open Bt
theorem Fg.X7{items orders:List ZU}{cs:abS}{o:Option ZU}{Q:List (List abZ)}{fs:List (List abZ×List abZ)}{es:List (Y3×Y3)}(h:Fg w W1 W p sc b5 b6 b7 iv xv items orders cs o Q fs fv es y)
   (hr:∀r∈Q,agp cs r) (ho:∀e∈orders,e.ok 2000/\acm cs e=true/\∃t,acD cs e=.ok t):∀g∈own fv,∀a∈es.zip fs,UJ (Mg.QU cs orders) orders.length g W a:=by
 intro g hg a ha;obtain⟨j,hj,rfl⟩:=List.mem_iff_getElem.1 ha;simp only[agW]at hj
 have h1:j<es.length:=by omega
 have h2:j<fs.length:=by omega
 obtain⟨c1,c2⟩:=h.cells j h1 h2;obtain⟨r,hrQ,v1,v2⟩:=(Mg.ji h.found).2 fs[j] (acw h2);simp only[agX];obtain⟨a1,p1,e1⟩:=ai c1;obtain⟨a2,p2,e2⟩:=ai c2;refine⟨⟨a1,_,p1,a2,_,p2,Prod.ext e1 e2⟩,(Mg.mK v2).1,Tb.C9 c2,fun x hx=>⟨aQ c2 x hx,?_⟩,fun k hk=>Mg.Nk (hr r hrQ) ho v2 k hk⟩;rintro rfl;exact Tb.own_ne h.ow c2 (by decide) _ hg hx
end Tw
end
section
namespace Tw
open Bt
structure Gz(w W:Y4)(p:Nat)(sc:Array Y3)(b5 b6 b7:Nat)(iv xv:Y3)(items orders:List ZU)(B df:Nat)(fv:Y3)(zs:List ((Y3×Y3)×(List abZ×List abZ))):Prop where
 sg:Sg w W p sc b5 b6 iv xv items orders
 k7:ae W b7 #[fv] 193
 dfr:W.heap[df]? =Y2 (.deferred (Y2 []))
 rows:BG W fv (zs.map agx)
 cells:∀z∈zs,W.ownsRow B 39 3 z.1.1 z.2.1.length (z.2.1.flatMap Mg.vC)
 size:B<=W.heap.size+4
theorem Fg.sorted{items orders:List ZU}{cs:abS}{o:Option ZU}{Q:List (List abZ)}{fs:List (List abZ×List abZ)}{es:List (Y3×Y3)}(h:Fg w W1 W p sc b5 b6 b7 iv xv items orders cs o Q fs fv es y)
   (hlt:w.heap.size+1+1<W1.heap.size/\b5<W1.heap.size/\b6<W1.heap.size/\(∀g∈own iv,g<W1.heap.size)/\∀g∈own xv,g<W1.heap.size) (h7:b7<W1.heap.size) (hdf:df<W1.heap.size) (hd:W.heap[df]? =Y2 (.deferred (Y2 [])))
   (hT:ax (own fv) W W') {zs:List ((Y3×Y3)×(List abZ×List abZ))} (hz:∀z∈zs,z∈es.zip fs) (hp:BG W' fv (zs.map agx)):Gz w W' p sc b5 b6 b7 iv xv items orders (W1.heap.size+4) df fv zs:=by
 have hs:=h.size
 have hge:∀k,k<W1.heap.size->k∉own fv:=fun k hk hm=>by have:=(h.ow.lt k (by simpa[own]using hm)).1;omega
 have hk:∀k,k<W1.heap.size->k<W.heap.size->W'.heap[k]? =W.heap[k]?:=fun k h1 h2=>hT.block k h2 (hge k h1)
 refine⟨h.sg.keep W1.heap.size hlt hT.os hT.tape hT.output hT.size hk,?_,(hk df hdf (by omega)).trans hd,hp,fun z hzm=> ?_,by have:=hT.size;omega⟩
 · have:=hk b7 h7 h.k7.lt;have hk7:=h.k7;unfold ae at*;rw[this];exact hk7
 obtain⟨j,hj,rfl⟩:=List.mem_iff_getElem.1 (hz z hzm);simp only[agW]at hj
 have h1:j<es.length:=by omega
 have h2:j<fs.length:=by omega
 simp only[agX]
 exact aK (h.cells j h1 h2).1 fun g hg=>hT.block g (aQ (h.cells j h1 h2).1 g hg) fun hm=>Tb.own_ne h.ow (h.cells j h1 h2).1 (by decide) _ hm hg
end Tw
end
namespace So
theorem dR.map{α β:Type}{lt:β->β->Bool}{f:α->β}{l:List α}(h:dR (fun a b=>lt (f a) (f b)) l):dR lt (l.map f):=by
 unfold dR at*;exact List.pairwise_map.2 h
theorem Py{β:Type}{lt:β->β->Bool}(o:sM lt){x a:β}(h:eqv lt x a=true)(b:β):eqv lt x b=eqv lt a b:=by
 simp only[eqv,YD,Bool.not_eq_true']at h
 have h1:lt x b=lt a b:=by
  rw[Zd];exact⟨fun q=>(o.nt x a b q).resolve_left (by simp[h.1]),fun q=>(o.nt a x b q).resolve_left (by simp[h.2])⟩
 have h2:lt b x=lt b a:=by
  rw[Zd];exact⟨fun q=>(o.nt b a x q).resolve_right (by simp[h.2]),fun q=>(o.nt b x a q).resolve_right (by simp[h.1])⟩
 simp[eqv,h1,h2]
theorem eP.map{α β:Type}{lt:β->β->Bool}(o:sM lt){f:α->β}{l l':List α}(h:eP (fun a b=>lt (f a) (f b)) l l'):eP lt (l.map f) (l'.map f):=by
 refine⟨h.perm.map f,fun x=> ?_⟩;rw[agY,agY]
 congr 1
 by_cases hx:∃y∈l,eqv lt x (f y)=true
 · obtain⟨y,hy,hxy⟩:=hx
   have hf:(eqv lt x∘f)=eqv (fun a b=>lt (f a) (f b)) y:=funext fun z=>Py o hxy (f z)
   rw[hf];exact h.same y
 have h1:∀m:List α,(∀z∈m,z∈l)->m.filter (eqv lt x∘f)=[]:=fun m hm=>List.filter_eq_nil_iff.2 fun z hz hq=>hx ⟨z,hm z hz,hq⟩
 rw[h1 l' fun z hz=>h.perm.mem_iff.1 hz,h1 l fun z hz=>hz]
end So
namespace Tw
theorem BG.below{zs:List (Y3×Y3)}(h:BG w v zs)(hb:aaS w.heap.size w w'):BG w' v zs:=by
 obtain⟨ao,cap,h1,h2⟩:=h;refine⟨ao,cap,h1,fun j hj=> ?_⟩;obtain⟨g,a,b,c,d⟩:=h2 j hj;exact⟨g,a,nlA b hb.size,(hb.cell (p:=⟨g,j*2,Y1⟩) b).trans c,(hb.cell (p:=⟨g,j*2+1,Y1⟩) b).trans d⟩
theorem Gz.below{items orders:List ZU}{zs:List ((Y3×Y3)×(List abZ×List abZ))}(h:Gz w W p sc b5 b6 b7 iv xv items orders B df fv zs)(hb:aaS W.heap.size W W')(hdf:df<W.heap.size):Gz w W' p sc b5 b6 b7 iv xv items orders B df fv zs:=
 ⟨h.sg.below hb,h.k7.below hb h.k7.lt,(hb.block df hdf).trans h.dfr,h.rows.below hb,fun z hz=>eO (h.cells z hz) hb,by have:=h.size;have:=hb.size;omega⟩
end Tw
section
namespace Tw
open Bt
theorem JW{α β:Type}(f:α->List β)(n:Nat):∀l:List α,(∀x∈l,(f x).length<=n)->(l.flatMap f).length<=l.length*n
 |[],_=>by simp
 |a::l,h=>by
  have h1:=h a (by simp)
  have h2:=JW f n l fun x hx=>h x (by simp[hx])
  simp only[YU,aaN,Yw,Nat.add_mul,Nat.one_mul];omega
theorem Rz{ao:Option abR}{m:Nat}(h:w.ownsRow B T s (Yp ao n c) m xs):m<=c:=by
 rcases h.2 with⟨h1,h2⟩|⟨g,cap',cur,h1,h2,h3,h4,h5,h6⟩
 · injection h1 with _ e1 e2;omega
 injection h1 with _ e1 e2;subst e2;omega
theorem Oq{l:List abZ}:∀u∈l.flatMap Mg.vC,u.oneCell'=true:=by
 intro u hu;obtain⟨v,_,h⟩:=List.mem_flatMap.1 hu;simp only[Mg.vC,aeQ,afA,or_false]at h;rcases h with rfl|rfl|rfl<;>rfl
theorem Lf{α β:Type}(f:α->List β)(l:List α)(k:Nat)(h:k<l.length):(l.take (k+1)).flatMap f=(l.take k).flatMap f++f l[k]:=by
 rw[aeq h,aeN];simp
theorem Ra{cs:abS}{items orders:List ZU}{o:Option ZU}{Q:List (List abZ)}{fs:List (List abZ×List abZ)}{es:List (Y3×Y3)}{zs:List ((Y3×Y3)×(List abZ×List abZ))}(hf:Mg.aG cs items orders o Q=.ok fs)(hz:∀z∈zs,z∈es.zip fs):∀z∈zs,z.2.1.length=items.length:=by
 intro z hzm;obtain⟨r,_,h1,_⟩:=(Mg.ji hf).2 z.2 (agP (hz z hzm)).2;exact(Mg.mK h1).1
theorem Gz.cut{items orders:List ZU}{ao:Option abR}{zs:List ((Y3×Y3)×(List abZ×List abZ))}(h:Gz w W p sc b5 b6 b7 iv xv items orders B df (Yp ao n c) zs)(m:Nat)(hm:m<=zs.length)
   (h7:w.heap.size+1+1<b7/\b5<b7/\b6<b7/\(∀g∈own iv,g<b7)/\∀g∈own xv,g<b7) (hbB:b7<B) (hdf:df≠b7) (hfv:∀g∈own (Yp ao n c),g≠b7):Gz w (W.setCell ⟨b7,0,Y1⟩ (Yp ao m c)) p sc b5 b6 b7 iv xv items orders B df (Yp ao m c) (zs.take m):=by
 refine⟨h.sg.keep b7 h7 rfl rfl rfl (by simp) (fun k hk _=>Zb _ _ _ _ (by show k≠b7;omega)),by simpa using h.k7.set 0 (Yp ao m c),(Zb _ _ _ _ (by show df≠b7;exact hdf)).trans h.dfr,?_,fun z hz=>aW (h.cells z (List.mem_of_mem_take hz)) _ (by show b7<B;exact hbB),by have:=h.size;simpa using this⟩;obtain⟨ao',cap,e,f⟩:=h.rows;injection e with e1 e2 e3;subst e1 e3;refine⟨ao,c,by simp;omega,fun j hj=> ?_⟩;simp only[List.length_map,adO]at hj;obtain⟨g,hg,hlt,c0,c1⟩:=f j (by simp;omega)
 have hne:b7≠g:=fun e=>hfv g (by simp[own,aaR,hg]) e.symm
 refine⟨g,hg,by simpa using hlt,(agV W _ _ _ (by show b7≠g;exact hne)).trans ?_,(agV W _ _ _ (by show b7≠g;exact hne)).trans ?_⟩
 · simpa using c0
 simpa using c1
theorem Oy{α β:Type}(f:α->β)(zs:List α)(n:Nat):(zs.take (min n zs.length)).map f=(zs.map f).take n:=by
 rw[<-afB]
 congr 1
 rcases Nat.le_total n zs.length with h|h
 · rw[Nat.min_eq_left h]
 rw[Nat.min_eq_right h,afI,acU h]
theorem Er{α β γ:Type}(g:β->List γ)(l:List (α×β)):l.flatMap (fun z=>g z.2)=(l.map agU).flatMap g:=by
 rw[List.flatMap_map]
end Tw
end
end Go.Proofs.YthhhfcdakfbpkaaGreatDoor
