/- Parts of the proof -/
import Derived.Test.YthhhfcdakfbpkaaGreatDoorU11
import Derived.Lib.ItoaMem
import Derived.Lib.Replace
import Derived.Lib.CountLaws
import Derived.Lib.IndexBytes
import Derived.Test.YthhhfcdakfbpkaaGreatDoorU2
import Derived.Test.YthhhfcdakfbpkaaGreatDoorUShelfC
import Derived.Lib.AppendIntMem
import Derived.Test.YthhhfcdakfbpkaaGreatDoorU9
import Derived.Test.YthhhfcdakfbpkaaGreatDoorU10
import Derived.OwnWalkIn
import Derived.Deep.CutRange
import Derived.Deep.RegionHeld3
import Derived.Stop.RegionWithIn
import Derived.Sort.CutIn
import Derived.Test.YthhhfcdakfbpkaaGreatDoorU1
open Go.Value renaming int -> Yg, string -> Yi, agg -> Yj, pointer -> Ym, tuple -> Yn, iface -> Yo, slice -> Yp, nilIface -> Yq
open Go.IntKind renaming i64 -> Yh
open Go.Obj renaming cells -> Yk
open Go.Ending renaming returned -> Yl
open Go.Proofs.YthhhfcdakfbpkaaGreatDoor.Px renaming wH -> ahw, E -> ZU, Reads -> ahI, qY -> ahL, ig -> ahM, aT -> ahN, bT -> ahO, cT -> ahP, bq -> Z4, gW -> ahQ, dK -> ahR
open Go.Proofs.Tryz renaming prog -> Zc, func36 -> ahC, func22 -> ahD, ntmps22 -> ahE, results22 -> ahF, func10 -> ahJ, ntmps10 -> ahK, results8 -> ahT
open List renaming nil_append -> YK, cons_append -> YI, Nodup -> ahy, map_cons -> YZ, length_cons -> Yw, filter_cons_of_neg -> ahz, length_append -> aaN, size_toArray -> afe, length_nil -> aeC, mem_cons -> aeQ, map_append -> aev, take_succ_eq_append_getElem -> aeq, take_length -> afI, mem_append -> YW, mem_singleton -> aaP, not_mem_nil -> afA, flatMap_cons -> YU
open Prod renaming fst -> agx, snd -> agU
open Go.Proofs.YthhhfcdakfbpkaaGreatDoor.Mg renaming ay -> abS, bJ -> ahx, V -> abZ, bF -> ahG, jb -> ahg
open Nat renaming le_trans -> YB, zero_le -> aeR
open Go.Proofs.YthhhfcdakfbpkaaGreatDoor.Bt renaming keyOf -> ahA
open Go.RowKit.Below renaming refl -> Zh, heap_setCell -> Zb
open Go.World renaming size_alloc -> ZC, drew -> abA, ownsRow_nil -> adi
open Go.Proofs.YthhhfcdakfbpkaaGreatDoor.Tb renaming aN -> ahB, gL -> ahn
open Go.Act renaming put -> afl
open Go.AllReadyH renaming cons -> ahj, nil -> ahk
open Go.Proofs.YthhhfcdakfbpkaaGreatDoor.Ts renaming au -> afw
open Go.Instr renaming typeAssert -> ZV
open Go.Proofs.YthhhfcdakfbpkaaGreatDoor.Lx renaming Bs -> Y6
open Go.Proofs.YthhhfcdakfbpkaaGreatDoor.Tw renaming aW -> ahH
open ByteArray renaming size_append -> ahS
open Option renaming none -> Y1, some -> Y2
open Go renaming Value -> Y3, World -> Y4, TypeId -> Y5, Calls -> aaT, maxLen -> aaV, results -> aaW
open Go.RowKit renaming Below -> aaS, intOf -> aeJ
namespace Go.Proofs.YthhhfcdakfbpkaaGreatDoor
set_option linter.unusedSimpArgs false
set_option linter.unusedVariables false
set_option maxRecDepth 100000
set_option maxHeartbeats 16000000
open Go.RowKit
variable {W W' W1 w w':Y4}{B b b5 c ce ge p y:Nat}{nx:Int}{fv v:Y3}{F R:List Nat}
section
open Lx (Bs)
theorem xM:∀(f n:Nat),n<10^(f+1)->ahw (f+1) n=Lib.decDigits n
 |0,n,h=>by
  have h1:n<10:=by simpa using h
  rw[ahw,Lib.decDigits,if_pos h1,dif_pos h1]
 |f+1,n,h=>by
  rw[ahw,Lib.decDigits];by_cases h1:n<10
  · rw[if_pos h1,dif_pos h1]
  rw[if_neg h1,dif_neg h1,xM f (n/10) (by rw[Nat.pow_succ]at h;omega)]
theorem Pp(n:Nat)(h:n<=9223372036854775808):Lib.itoa (n:Int)=ahw 20 n:=by
 rw[Lib.itoa_nonneg,xM 19 n (by omega)]
theorem NA(n:Nat)(h0:1<=n)(h:n<=9223372036854775808):Lib.itoa (-(n:Int))=45::ahw 20 n:=by
 rw[Lib.itoa_neg n h0,xM 19 n (by omega)]
end
section
namespace Px
open Lx (Bs Tok)
def uU(z:Int):Bs:=if z<0 then 45::wH 20 z.natAbs else wH 20 z.natAbs
def t1(k:Nat)(a b:Int):Bs:=uU a++(32::((wL k).1++(32::uU b)))
def t2(a b:Int):Bs:=40::(uU a++([32,43,32]++(uU b++([41,32,45,32]++uU b))))
def t3(a b:Int):Bs:=40::(uU a++([32,47,32]++(uU b++([41,32,42,32]++(uU b++([32,43,32]++(uU a++([32,37,32]++uU b))))))))
end Px
end
structure Av(w:Y4):Prop where
 envp:jJ w
 pow:∃t fr,w.heap[0]? =Y2 (.cells (Lib.pow10Tab.map fun z=>Value.int .u64 z).toArray t fr)
theorem Av.below(h:Av w)(hb:aaS w.heap.size w w'):Av w':=by
 refine⟨h.envp.below hb,?_⟩;have hr:=h.envp.env.room;rw[hb.block _ (nlA (by simp) hr)];exact h.pow
theorem Av.tab(h:Av w):Lib.TabIs Zc w "internal/strconv.uint64pow10" .u64 Lib.pow10Tab:=by
 obtain⟨t,fr,hp⟩:=h.pow
 have hg:Tryz.prog.globalNamed "internal/strconv.uint64pow10" =Y2 0:=by kernel_rfl
 unfold Lib.TabIs World.var?;rw[hg];simp only[Option.bind_some,hp]
theorem Ot(z:Int)(h1: -9223372036854775808<=z)(h2:z<=9223372036854775807):Lib.itoa z=Px.uU z:=by
 unfold Px.uU;by_cases hz:z<0
 · rw[if_pos hz];have:=NA z.natAbs (by omega) (by omega)
   rwa [show-(z.natAbs:Int)=z by omega]at this
 rw[if_neg hz];have:=Pp z.natAbs (by omega)
 rwa [show(z.natAbs:Int)=z by omega]at this
section
namespace Mg
open Px
def dz(cs:ay)(o:Option E):List (Int×List V)->Except Nat (List Int)
 |[]=> .ok []
 |m::M=>match aY cs m.2 o with
  |.error c=> .error c
  |.ok b=>match dz cs o M with
   |.error c=> .error c
   |.ok ns=> .ok (if b=true then m.1::ns else ns)
theorem sS{cs:ay}{o:Option E}{s:List (Int×List V)}:∀{l:List (Int×List V)} {ns:List Int},dz cs o l=.ok ns->dz cs o (l++s)=match dz cs o s with
   |.error c=> .error c
   |.ok t=> .ok (ns++t)
 |[],ns,h=>by
  simp only[dz]at h
  cases h
  simp only[YK]
  cases dz cs o s<;>rfl
 |m::l,ns,h=>by
  simp only[dz]at h
  cases hc:aY cs m.2 o with
  |error c=>rw[hc]at h;cases h
  |ok b=>
   rw[hc]at h;simp only at h
   cases hg:dz cs o l with
   |error c=>rw[hg]at h;cases h
   |ok t=>
    rw[hg]at h;simp only at h
    cases h
    rw[YI];simp only[dz,hc,sS hg]
    cases dz cs o s with
    |error c=>rfl
    |ok u=>cases b<;>rfl
theorem LA{cs:ay}{o:Option E}{m:Int×List V}{l:List (Int×List V)}{ns:List Int}(h:dz cs o l=.ok ns)(hc:aY cs m.2 o=.ok false):dz cs o (l++[m])=.ok ns:=by
 rw[sS h];simp[dz,hc]
theorem KE{cs:ay}{o:Option E}{m:Int×List V}{l:List (Int×List V)}{ns:List Int}(h:dz cs o l=.ok ns)(hc:aY cs m.2 o=.ok true):dz cs o (l++[m])=.ok (ns++[m.1]):=by
 rw[sS h];simp[dz,hc]
theorem OO{cs:ay}{o:Option E}{m:Int×List V}{l s:List (Int×List V)}{ns:List Int}(h:dz cs o l=.ok ns)(hc:aY cs m.2 o=.error c):dz cs o (l++m::s)=.error c:=by
 rw[sS h];simp[dz,hc]
theorem um{cs:ay}{o:Option E}:∀{l:List (Int×List V)} {ns:List Int},dz cs o l=.ok ns->ns.Sublist (l.map agx)
 |[],ns,h=>by simp only[dz]at h;cases h;exact List.Sublist.refl _
 |m::l,ns,h=>by
  simp only[dz]at h
  cases hc:aY cs m.2 o with
  |error c=>rw[hc]at h;cases h
  |ok b=>
   rw[hc]at h;simp only at h
   cases hg:dz cs o l with
   |error c=>rw[hg]at h;cases h
   |ok t=>
    rw[hg]at h;simp only at h
    cases h
    have:=um hg
    cases b
    · exact this.cons _
    exact this.cons_cons _
end Mg
namespace Tb
open Bt
def Ai(cs:abS)(M:aN)(o:Option ZU):Except Nat (List Int):=match ahx cs (gL o)with
 |.error c=> .error c
 |.ok _=>Mg.dz cs o M
def without(ns:List Int)(M:aN):aN:=M.filter fun m=> !(ns.contains m.1)
theorem EH(M:aN):without [] M=M:=by simp[without]
theorem CP(ns:List Int)(z:Int)(M:aN):without (ns++[z]) M=(without ns M).filter fun m=> !(m.1==z):=by
 unfold without;rw[List.filter_filter]
 congr 1
 funext m
 by_cases h1:m.1=z<;>by_cases h2:m.1∈ns<;>simp[h1,h2]
theorem zA{M:aN}(h:M.Pairwise fun a b=>a.1<b.1):(M.map agx).Nodup:=by
 unfold ahy;rw[List.pairwise_map]
 exact h.imp fun hab=>by omega
theorem o7:∀{M:aN} {ns:List Int},(M.map agx).Nodup->ns.Sublist (M.map agx)->(without ns M).length+ns.length=M.length
 |[],ns,_,h=>by
  have:ns=[]:=by simpa using h
  subst this;rfl
 |m::M,ns,hn,h=>by
  rw[YZ]at hn h;obtain⟨hn1,hn2⟩:=List.nodup_cons.1 hn
  cases h with
  |cons _ h=>
   have hm:m.1∉ns:=fun hx=>hn1 (h.subset hx)
   have:=o7 hn2 h;unfold without at*;rw[List.filter_cons_of_pos (by simpa using hm)];simp only[Yw];omega
  |cons_cons _ h=>
   rename_i t;have:=o7 hn2 h
   have he:without (m.1::t) (m::M)=without t M:=by
    unfold without;rw[ahz (by simp)]
    refine List.filter_congr fun x hx=> ?_
    have:x.1≠m.1:=fun h=>hn1 (by rw[<-h];exact List.mem_map.2 ⟨x,hx,rfl⟩)
    simp[this]
   rw[he];simp only[Yw];omega
theorem bg.cut{m:Int×List abZ}{M2:aN}:∀{M1:aN} {L:List (Y3×Y3)},bg w L (M1++m::M2)->∃L1 e L2,L=L1++e::L2/\bg w L1 M1/\(e.1=Yg Yh m.1/\Mn.fI w e.2 m.2)/\bg w L2 M2
 |[],e::L,h=>⟨[],e,L,rfl,trivial,h.1,h.2⟩
 |[],[],h=>h.elim
 |a::M1,[],h=>h.elim
 |a::M1,x::L,h=>by
  obtain⟨L1,e,L2,rfl,h1,h2,h3⟩:=bg.cut (M1:=M1) (L:=L) h.2;exact⟨x::L1,e,L2,rfl,⟨h.1,h1⟩,h2,h3⟩
theorem bg.app{L2:List (Y3×Y3)}{M2:aN}(h2:bg w L2 M2):∀{L1:List (Y3×Y3)} {M1:aN},bg w L1 M1->bg w (L1++L2) (M1++M2)
 |[],[],_=>h2
 |_::_,_::_,h=>⟨h.1,bg.app h2 h.2⟩
 |[],_::_,h=>h.elim
 |_::_,[],h=>h.elim
theorem filter_one{M1 M2:aN}{m:Int×List abZ}(h:(M1++m::M2).Pairwise fun a b=>a.1<b.1):(M1++m::M2).filter (fun x=> !(x.1==m.1))=M1++M2:=by
 obtain⟨h1,h2,h3⟩:=List.pairwise_append.1 h;rw[List.filter_append,ahz (by simp)];rw[List.filter_eq_self.2 fun x hx=> ?_,List.filter_eq_self.2 fun x hx=> ?_]
 · have:=List.rel_of_pairwise_cons h2 hx;simp;omega
 have:=h3 x hx m (by simp);simp;omega
theorem jL.less'{cs:abS}{M:aN}(h:jL cs M nx)(f:Int×List abZ->Bool):jL cs (M.filter f) nx:=
 ⟨h.cols,fun m hm=>h.rows m (List.mem_filter.1 hm).1,h.rise.sublist List.filter_sublist,fun m hm=>h.less m (List.mem_filter.1 hm).1,h.pos,YB (List.length_filter_le _ _) h.few⟩
theorem Q8(z:Int)(r:List abZ)(p:Nat)(cs:abS)(M:aN)(nx:Int)(F R:List Nat)(sv ve vk:Y3)(d:Nat)(L:List (Y3×Y3))(w:Y4)(hT:TabAt w p cs M nx F R sv ve vk d L)(hO:jL cs M nx)(hz:(z,r)∈M):
   aaT Zc 86 #[Ym (Y2 ⟨p,1,Y1⟩),Yg Yh z] w fun x w'=>x=Yl (Yn #[])/\∃F' ve' vk' d' L',TabAt w' p cs (M.filter fun m=> !(m.1==z)) nx F' R sv ve' vk' d' L'/\ax (p::F) w w'/\∀x,F'.count x<=F.count x\/(w.heap.size<=x/\F'.count x<=1):=by
 obtain⟨M1,M2,rfl⟩:=List.append_of_mem hz;obtain⟨L1,e,L2,rfl,e1,e2,e3⟩:=hT.bz.cut
 have hk:ahA e=z:=by unfold ahA;rw[e2.1]
 have hf:=hO.few;refine(FN z d L1 L2 e p 1 (EG sv ve vk ((M1++(z,r)::M2).length:Nat) nx) 128 ve vk F ((M1++(z,r)::M2).length:Nat) w ⟨by simp;omega,by omega⟩ hT.blk rfl rfl rfl hT.root hk hT.bz.kT (hT.bz.ord hO.rise).key hT.nodup).mono ?_;rintro x w' ⟨rfl,d',ve',vk',F',O⟩
 have hkeep:∀g∈R,w'.heap[g]? =w.heap[g]?:=fun g hg=>O.gP.block g (hT.low g hg) (hT.apart g hg)
 have hb:EG sv ve' vk' ((M1++M2).length:Nat) nx=(((EG sv ve vk ((M1++(z,r)::M2).length:Nat) nx).setIfInBounds 1 ve').setIfInBounds (1+1) vk').setIfInBounds (1+2) (Yg Yh (((M1++(z,r)::M2).length:Nat)-1)):=by
  have:(((M1++(z,r)::M2).length:Nat):Int)-1=((M1++M2).length:Nat):=by simp;omega
  rw[this]
  rfl
 refine⟨rfl,F',ve',vk',d',L1++L2,⟨?_,hT.cols.keep O.gP.size fun g hg=>hkeep g (hT.colr g hg),O.root,?_,?_,fun y hy=>hT.rows y (by simp at hy⊢;rcases hy with h|h<;>simp[h]),hT.colr,?_,fun g hg=>nlA (hT.low g hg) O.gP.size⟩,O.gP,O.cnt⟩
 · rw[filter_one hO.rise,hb];exact O.blk
 · rw[filter_one hO.rise]
   refine bg.keep O.gP.size (bg.app e3 e1) fun y hy g hg=>hkeep g (hT.rows y ?_ g hg)
   simp at hy⊢;rcases hy with h|h<;>simp[h]
 · refine fJ fun x=> ?_
   have a1:=O.cnt x;have a2:=bu hT.nodup x;have a3:=hT.blk.lt;simp only[aD]at a2⊢;have i1:=jl p x;omega
 intro g hg hx;have h1:=hT.apart g hg;have h2:=hT.low g hg;rcases List.mem_cons.1 hx with rfl|hx
 · exact h1 (by simp)
 have a1:=O.cnt g;have a2:=List.count_pos_iff.2 hx
 have a3:F.count g=0:=List.count_eq_zero.2 fun h=>h1 (by simp[h])
 omega
end Tb
end
section
open Go.RowKit Go.Shelf
namespace Tw
open Bt
def Ll(ns:List Int):List Y3:=ns.map (Yg Yh)
structure Dg(w W1 W:Y4)(b5:Nat)(ns:List Int)(fv:Y3)(y:Nat):Prop where
 low:aaS w.heap.size w W
 k5:ae W b5 #[fv] 22
 ow:W.ownsRow (W1.heap.size+4) 3 1 fv ns.length (Ll ns)
 size:W1.heap.size<=W.heap.size
 kept:∀k,b5<k->k<W1.heap.size->k≠y->W.heap[k]? =W1.heap[k]?
theorem Dg.below{ns:List Int}(h:Dg w W1 W b5 ns fv y)(hb:aaS W.heap.size W W'):Dg w W1 W' b5 ns fv y:=
 ⟨h.low.trans (hb.mono h.low.size),h.k5.below hb h.k5.lt,eO h.ow hb,YB h.size hb.size,fun k h1 h2 h3=>(hb.block k (nlA h2 h.size)).trans (h.kept k h1 h2 h3)⟩
theorem Dg.apart{ns:List Int}(h:Dg w W1 W b5 ns fv y)(h5:b5<W1.heap.size)(hw:w.heap.size<=W1.heap.size)(ha:Apart W1.heap.size (W1.heap.size+4) W W'):Dg w W1 W' b5 ns fv y:=
 ⟨h.low.trans (ha.below hw h.low.size),by have:=ha.block b5 (.inl h5) h.k5.lt;have hk:=h.k5;unfold ae at*;rw[this];exact hk,DD h.ow ha (nlr _),YB h.size ha.size,fun k h1 h2 h3=>(ha.block k (.inl h2) (nlA h2 h.size)).trans (h.kept k h1 h2 h3)⟩
theorem Dg.turn{ns:List Int}(h:Dg w W1 W b5 ns fv y)(hw:w.heap.size<=b5){l:Nat}(h5:b5<l)(hl:l<W1.heap.size)(ob:Obj)(y':Nat)(hy:∀k,b5<k->k<W1.heap.size->k≠y'->(W.putObj l ob).heap[k]? =W1.heap[k]?):Dg w W1 (W.putObj l ob) b5 ns fv y':=by
 have hs:(W.putObj l ob).heap.size=W.heap.size:=by simp[World.putObj]
 have hk:∀k,k≠l->(W.putObj l ob).heap[k]? =W.heap[k]?:=fun k hk=>World.putObj_heap_other hk
 refine⟨⟨h.low.os,h.low.tape,h.low.output,by rw[hs];exact h.low.size,fun k hkk=>(hk k (by omega)).trans (h.low.block k hkk)⟩,?_,aK h.ow fun g hg=>hk g (by have:=(h.ow.lt g (by simpa[own]using hg)).1;omega),by rw[hs];exact h.size,hy⟩;have:=hk b5 (by omega);have hk5:=h.k5;unfold ae at*;rw[this];exact hk5
theorem Dg.add{w5:Y4}{ns:List Int}{z:Int}(h:Dg w W1 W b5 ns fv y)(hw:w.heap.size<=b5)(h5:b5<W1.heap.size){v':Y3}
   (hg:(W.alloc (Yk #[Yg Yh z] 3)).grownBy w5 fv.ownBlock) (hown:w5.ownsRow (W1.heap.size+4) 3 1 v' (ns.length+1) (Ll ns++[Yg Yh z])):
   ae w5 b5 #[fv] 22/\W.heap.size+1<=w5.heap.size/\(∀k,k<W.heap.size->k∉own fv->w5.heap[k]? =W.heap[k]?)/\(∀g∈own fv,W1.heap.size+4<=g)/\Dg w W1 (w5.setCell ⟨b5,0,Y1⟩ v') b5 (ns++[z]) v' y:=by
 have T:ax (own fv) (W.alloc (Yk #[Yg Yh z] 3)) w5:=ax.grown hg (fun k hk=>by simp[own,hk])
 have hfv:∀g∈own fv,W1.heap.size+4<=g:=fun g hg=>(h.ow.lt g (by simpa[own]using hg)).1
 have hA:aaS W.heap.size W (W.alloc (Yk #[Yg Yh z] 3)):=(Zh _ W).alloc (nlr _) _;have hsz:=h.size
 have hs5:W.heap.size+1<=w5.heap.size:=by have:=T.size;rw[ZC]at this;exact this
 have hk5:∀k,k<W.heap.size->k∉own fv->w5.heap[k]? =W.heap[k]?:=fun k hk hx=>(T.block k (nlA hk hA.size) hx).trans (hA.block k hk)
 have hlow:∀k,k<W1.heap.size->w5.heap[k]? =W.heap[k]?:=fun k hk=>hk5 k (by omega) (fun hx=>by have:=hfv k hx;omega)
 have hK5:ae w5 b5 #[fv] 22:=by
  have:=hlow b5 h5;have hk:=h.k5;unfold ae at*;rw[this];exact hk
 have hkb:∀k,k<W1.heap.size->k≠b5->(w5.setCell ⟨b5,0,Y1⟩ v').heap[k]? =W.heap[k]?:=fun k hk hne=>(Zb _ _ _ _ (by show k≠b5;exact hne)).trans (hlow k hk)
 refine⟨hK5,hs5,hk5,hfv,⟨T.os.trans h.low.os,T.tape.trans h.low.tape,T.output.trans h.low.output,by have:=h.low.size;simp;omega,fun k hkk=>(hkb k (by omega) (by omega)).trans (h.low.block k hkk)⟩,ae.set1 (u:=fv) hK5,?_,by simp;omega,fun k h1 h2 h3=>(hkb k h2 (by omega)).trans (h.kept k h1 h2 h3)⟩
 have e1:Ll (ns++[z])=Ll ns++[Yg Yh z]:=by simp[Ll]
 rw[aaN,e1]
 exact aK hown fun g hg=>Zb _ _ _ _ (by have:=(hown.lt g (by simpa[own]using hg)).1;show g≠b5;omega)
theorem BV{F:Fence}{n:Nat}{P:Program}(w:Y4){ops:Array Oper}{rest:List Oper}{o:Oper}{a:Act}{Q:Exit->Act->Y4->Prop}
   (hg:o.guard=Y1) (s x:Operand) (t:Y5) (hop:o.op=Op.call {callee:=Callee.builtin Builtin.append,args:=#[s,x],argTypes:=#[t,t]})
   (base:Nat) (e:Y5) (i:TypeInfo) (z:Y3) (size bytes:Nat) (h1:P.underlying t=Y2 (.slice e)) (h2:P.info? e=Y2 i) (h3:i.zero=Y2 z) (h4:i.size=size) (h5:i.bytes=bytes) (h6:z.cells.size=size) (h7:0<size)
   (v:Y3) (k:Nat) (xs:List Y3) (hs:a.eval s=v) (hown:w.ownsRow base e size v k xs) (ad:Addr) (m c:Nat) (news:List Y3) (hx:a.eval x=Yp (Y2 ad) m c) (hn:news.length=m*size)
   (hc:∀j u,news[j]? =Y2 u->w.cell? (ad.add j)=Y2 u) (h1c:∀u∈news,u.oneCell'=true) (b1:k+m<=aaV) (b2:(k+m)*bytes<=140737488355328) (b3:base<=w.heap.size)
   (hK:∀v' w',w'.ownsRow base e size v' (k+m) (xs++news)->w.grownBy w' v.ownBlock->(∀g∈own v',g∈own v\/w.heap.size<=g)->wpListIn F n P ops Q rest (a.put o.dst v') w'):
   wpListIn F n P ops Q (o::rest) a w:=by
 refine wpListIn_plain hg fun K hK'=> ?_
 obtain⟨v',w',hrun,r1,r2,r3⟩:=ry (P:=P) w base t o.type e i z size bytes h1 h2 h3 h4 h5 h6 h7 v k xs hown ad m c news hn hc h1c b1 b2 b3;unfold Oper.wpIn;refine⟨?_,?_⟩
 · simp[Oper.about,hop,resolve,Target.leads,Sem.run_pure]
 rw[Oper.semAt_plain F _ _ (by rw[hop];intro c hc';cases hc')];simp[execOp,hop,resolve,invoke,builtin,hs,hx,hrun,Result.andThen];exact hK' _ _ (hK v' w' r1 r2 r3)
def nW(M:ahB)(e:Y3×Y3):Int×List abZ:=(ahA e,rowOf M e)
theorem zP{M0:ahB}(hr:M0.Pairwise fun a b=>a.1<b.1):∀{L:List (Y3×Y3)} {M:ahB},Tb.bg w L M->(∀m∈M,m∈M0)->L.map (nW M0)=M
 |[],[],_,_=>rfl
 |e::L,m::M,h,hm=>by
  rw[YZ,zP hr h.2 fun x hx=>hm x (by simp[hx])]
  congr 1
  unfold nW;rw[rP hr (hm m (by simp)) h.1.1];unfold ahA;rw[h.1.1]
 |[],_::_,h,_=>h.elim
 |_::_,[],h,_=>h.elim
end Tw
end
section
open Go.RowKit Go.Shelf
attribute [local go_sem] Oper.semAt_some
namespace Tw
open Bt
theorem N9:∃i,Tryz.prog.info? 3=Y2 i/\i.zero=Y2 (Yg Yh 0)/\i.size=1/\i.bytes=8:=⟨_,rfl,rfl,rfl,rfl⟩
theorem Ru(w:Y4)(a:Y3)(t:Y5):∀j u,([a]:List Y3)[j]? =Y2 u->(w.alloc (Yk #[a] t)).cell? ((⟨w.heap.size,0,Y1⟩:Addr).add j)=Y2 u:=by
 intro j u hu
 match j,hu with
 |0,hu=>
  simp at hu;subst hu;exact((ae.new w #[a] t).cell 0)
theorem I7{ns:List Int}(h:ns.Nodup)(k:Nat)(hk:k<ns.length):ns[k]∉ns.take k:=fun hx=>by
 have h':(ns.take k++ns[k]::ns.drop (k+1)).Nodup:=by rw[<-Bt.J6 ns k hk];exact h
 exact(List.nodup_append.1 h').2.2 _ hx _ (List.mem_cons_self ..) rfl
theorem RL(w:Y4)(l:Nat)(ob:Obj):ax [l] w (w.putObj l ob):=⟨rfl,rfl,rfl,by simp[World.putObj],fun k _ hk=>World.putObj_heap_other (by simpa using hk)⟩
def xW(w:Y4)(p:Nat)(cs:abS)(M:ahB)(nx:Int)(F R:List Nat)(r:Except Nat (List Int))(x:Ending)(w':Y4):Prop:=match r with
 |.error c=>x=lL 0 c/\aaS w.heap.size w w'
 |.ok ns=>x=Yl (Yg Yh (ns.length:Nat))/\Tb.IQ w w' p cs (Tb.without ns M) nx F R
theorem IC(o:Option ZU)(tn:ByteArray)(p:Nat)(cs:abS)(M:ahB)(nx:Int)(F R:List Nat)(sv ve vk:Y3)(d:Nat)(L:List (Y3×Y3))(w:Y4)
   (hT:Tb.TabAt w p cs M nx F R sv ve vk d L) (hO:Tb.jL cs M nx) (hok:∀e,o=Y2 e->e.ok 2000):
   aaT Zc 36 #[Ym (Y2 ⟨p,0,Y1⟩),Yj #[.string tn,ev? o]] w (xW w p cs M nx F R (Tb.Ai cs M o)):=by
 have HT:=hd hT;have HO:=hd hO;have hp:=hT.blk.lt;obtain⟨wt,hwt⟩:∃wt,ev? o=wt:=⟨_,rfl⟩;have HWT:=hd hwt
 have hwc:wt=Yq\/∃t y,wt=Yo t y:=by rw[<-hwt];cases o with
  |none=>exact .inl rfl
  |some e=>exact .inr (jc e)
 rw[hwt]
 have HDO:Yf (∀d∈ahn o,d.1.ok 2000):=by
  intro d hd
  cases o with
  |none=>simp[ahn]at hd
  |some e=>simp[ahn]at hd;subst hd;exact hok e rfl
 have HDW:Yf ((ahn o).length<=1):=by show _<=_;cases o<;>simp[ahn]
 have HOK:=hd hok;clear hT hO hwt hok;refine(callsIn_wide (n:=0)).1 (lU ahC rfl ?_);simp only[Tryz.ntmps36,afe,Yw,aeC,Nat.reduceAdd,Nat.reduceSub,Array.replicate_succ,Array.replicate_zero,List.push_toArray,List.append_toArray,YK,YI]
 have HB0:Yf (aaS w.heap.size w (w.alloc (Yk #[.string tn,wt] 100))):=by show aaS _ _ _;go_grown
 have HK0:=hd (ae.new w #[.string tn,wt] 100);rcases hwc with rfl|⟨wt1,wt2,rfl⟩
 all_goals
  refine fV fun K hK=> ?_
  go_wp2_with fail;generalize w.alloc (.cells _ 100)=V at*
  first|generalize Yo wt1 wt2=wt at* |generalize Yq=wt at*
  refine fV fun K hK=> ?_
  have v1:=HK0.o.cell 1;simp at v1;have hv0:=HK0.o.lt;have HTV:=hd (HT.o.below HB0.o);have vp:=(HTV.o.blk.cell 0).trans (show _=Y2 sv from rfl);refine Code.wp_mono (Q:=Qd _ _) Dl ?_;refine wp_region_held_drew (S:=fun w'=>w'.cell? ⟨p,0,Y1⟩=Y2 sv/\w'.cell? ⟨w.heap.size,1,Y1⟩=Y2 wt) (by kernel_rfl) ⟨vp,v1⟩ (fun hHeld=> ?_);have HBD:=hd (HB0.o.drew);have HKD:=hd (HK0.o.drew);generalize hV0:abA V=V0 at*;clear hV0;refine pU 0 (Ym (Y2 ⟨p,0,Y1⟩)) ?_ ?_
  · intro w hSw
    try dsimp only at hSw
    go_simp
  simp only[afl,siA,szA,ssA];refine pU 1 (Ym (Y2 ⟨p,0,Y1⟩)) ?_ ?_
  · intro w hSw
    try dsimp only at hSw
    go_simp
  simp only[afl,siA,szA,ssA];refine pU 2 (Ym (Y2 ⟨p,0,Y1⟩)) ?_ ?_
  · intro w hSw
    try dsimp only at hSw
    go_simp
  simp only[afl,siA,szA,ssA];refine pU 3 sv ?_ ?_
  · intro w hSw
    try dsimp only at hSw
    go_simp
  simp only[afl,siA,szA,ssA];refine pU 4 (Ym (Y2 ⟨w.heap.size,1,Y1⟩)) ?_ ?_
  · intro w hSw
    try dsimp only at hSw
    go_simp
  simp only[afl,siA,szA,ssA];refine pU 5 wt ?_ ?_
  · intro w hSw
    try dsimp only at hSw
    go_simp
  simp only[afl,siA,szA,ssA];refine wpAnyH_ready (rs:=[6]) (by kernel_rfl) (by simp) ?_;refine ahj rfl (fun K hK=> ?_) ahk
  go_simp
  have hwh:=Tb.AQ o V0;rw[HWT.o]at hwh;refine hwh.mono ?_;rintro x w1 ⟨hb1,y1,rfl,hown1⟩;obtain⟨y1a,y1c,rfl⟩:=ai hown1;have HB1:=hd (HBD.o.trans (hb1.mono HBD.o.size));have HK1:=hd (HKD.o.below hb1 HKD.o.lt);have HT1:=hd (HT.o.below HB1.o);have HO1:=hd (afw hown1 (aeR _));have a1:=HK1.o.cell 1;have ap:=(HT1.o.blk.cell 0).trans (show _=Y2 sv from rfl);simp at a1;clear hb1 hown1 hwh;refine hK.out _ _ ⟨ap,a1⟩ (fun hHeld=> ?_);clear hK K
  try simp only[afl,siA,szA,ssA]
  refine wpAnyH_ready (rs:=[7]) (by kernel_rfl) (by simp) ?_;refine ahj rfl (fun K hK=> ?_) ahk
  go_simp
  have HCK:=hd (Tb.vg cs HO.o.cols sv (ahn o) HDO.o (by have:=HDW.o;omega) _ w1 HT1.o.cols HO1.o);refine HCK.o.mono ?_;rintro x w6 ⟨hb6,hx6⟩;have HB6:=hd (HB1.o.trans (hb6.mono HB1.o.size));have HK6:=hd (HK1.o.below hb6 HK1.o.lt);rcases hck:ahx cs (ahn o)with c|un
  · rw[hck]at hx6;obtain rfl:=hx6;refine⟨rfl,?_⟩;unfold xW Tb.Ai;rw[hck];exact⟨rfl,HB6.o⟩
  rw[hck]at hx6;obtain rfl:=hx6;have Aw:=hd hck;have HT6:=hd (HT.o.below HB6.o);have j1:=HK6.o.cell 1;have jp:=(HT6.o.blk.cell 0).trans (show _=Y2 sv from rfl);simp at j1;clear hb6 hck HCK;refine hK.out _ _ ⟨jp,j1⟩ (fun hHeld=> ?_);clear hK K;refine wpAnyH_done (by kernel_rfl) ?_ _;refine hK _ _ ?_;clear HK0 HK1 HKD HT1 HTV HB1 HBD HO1 v1 vp a1 ap hHeld hv0;have HB7:Yf (aaS w.heap.size w (w6.alloc (Yk #[Yp Y1 0 0] 22))):=HB6.o.alloc HB6.o.size _;have HK7:=hd (HK6.o.alloc (Yk #[Yp Y1 0 0] 22));have HN7:=hd (ae.new w6 #[Yp Y1 0 0] 22)
  refine fV fun K hK=> ?_
  go_wp2_with fail;have hl6:w.heap.size<w6.heap.size:=HK6.o.lt;generalize hV4:w6.alloc (Yk #[Yp Y1 0 0] 22)=V4 at*
  have HV4:Yf (V4.heap.size=w6.heap.size+1):=by rw[<-hV4];exact ZC _ _
  generalize hb5:w6.heap.size=b5 at*;refine Bw ?_
  refine fV fun K hK=> ?_
  have d1:=HK7.o.cell 1;simp at d1;have hl1:=HK7.o.lt;go_wp2_with fail;have hch:=Bd (Y2 ⟨p,0,Y1⟩) o V4;rw[HWT.o]at hch;refine hch.mono ?_;rintro x w4 ⟨rfl,rfl⟩;clear hch;go_wp2_with fail
  have hbb:aaS V4.heap.size V4 ((V4.alloc (Yk #[Ym (Y2 ⟨p,0,Y1⟩)] 94)).alloc (Yk #[wt] 98)):=by go_grown
  have HB8:Yf (aaS w.heap.size w ((V4.alloc (Yk #[Ym (Y2 ⟨p,0,Y1⟩)] 94)).alloc (Yk #[wt] 98))):=HB7.o.trans (hbb.mono HB7.o.size);have HN8:=hd (HN7.o.below hbb HN7.o.lt);have HT0:=hd ((ae.new V4 #[Ym (Y2 ⟨p,0,Y1⟩)] 94).alloc (Yk #[wt] 98));have HTW:Yf (ae ((V4.alloc (Yk #[Ym (Y2 ⟨p,0,Y1⟩)] 94)).alloc (Yk #[wt] 98)) (V4.heap.size+1) #[wt] 98):=ae.UY (by simp)
  have h54:V4.heap.size+2=((V4.alloc (Yk #[Ym (Y2 ⟨p,0,Y1⟩)] 94)).alloc (Yk #[wt] 98)).heap.size:=by simp
  clear hbb HN7 hV4 hb5 d1 hl1;generalize (V4.alloc (Yk #[Ym (Y2 ⟨p,0,Y1⟩)] 94)).alloc (Yk #[wt] 98)=V5 at*;refine qR (og (n:=0) (gf:=151) (lb:=#[Ym (Y2 ⟨V4.heap.size,0,Y1⟩),Ym (Y2 ⟨V4.heap.size+1,0,Y1⟩)]) rfl (enters_of Tryz.func151 (by kernel_rfl) rfl) ?_);intro W1 hrec hdef hb1 hs1;have uZ:=hd hrec;have FP:=hd hdef;have HB1:=hd hb1;have HB9:=hd (HB8.o.trans (hb1.mono HB8.o.size));clear hrec hdef;have hk8:=HN8.o.lt;show CallsIn Fence.wide (0-1) Zc 151 #[.func (.yield (V5.heap.size+1)) #[] #[],Ym (Y2 ⟨V4.heap.size,0,Y1⟩),Ym (Y2 ⟨V4.heap.size+1,0,Y1⟩)] W1 _
  skip
  have hv4:=HV4.o
  have VT:b5<W1.heap.size:=by omega
  have HTB:=hd (HT.o.below HB9.o);have hrise:=HO.o.rise;have HMP:=hd (zP hrise HTB.o.bz fun m hm=>hm);have hwW:w.heap.size<=W1.heap.size:=HB9.o.size
  have HOO:Yf (∀e,o=Y2 e->e.ok 2000/\Mg.knows cs e=true/\∃t,Mg.typ cs e=.ok t):=fun e he=>by
   obtain⟨q1,t,q2,_⟩:=Mg.lJ Aw.o (e,3) (by subst he;simp[ahn]);exact⟨HOK.o e he,q1,t,q2⟩
  have HRW:Yf (∀e∈L,Mn.fI W1 e.2 (rowOf M e)/\Mg.jB cs (rowOf M e)):=fun e he=>by
   obtain⟨m,hm,q1,q2⟩:=HTB.o.bz.mem e he;rw[rP hrise hm q1];exact⟨q2,HO.o.rows m hm⟩
  refine(vK (0-1) (V5.heap.size+1) V4.heap.size (V4.heap.size+1) p cs HO.o.cols sv o HOO.o (rowOf M) L (V4.heap.size::(V4.heap.size+1)::p::(F++R))
    (fun Q C W=>∃ns fv,C=own fv/\Mg.dz cs o (Q.map (nW M))=.ok ns/\Dg w W1 W b5 ns fv 0)
    (fun c W=>∃k,Mg.dz cs o M=.error k/\lL 0 k=.panicked c/\aaS w.heap.size w W/\W1.heap.size<=W.heap.size/\W.heap[V5.heap.size]? =W1.heap[V5.heap.size]?) W1
    ⟨?gm,?gl,?ga,?gk,HTB.o.bz.kT,?yield,?gs,?ge,?gx⟩ (by omega) ((hb1.cell (p:=⟨V4.heap.size,0,Y1⟩) HT0.o.lt).trans ((HT0.o.cell 0).trans rfl)) (by omega) (by rw[HWT.o];exact(hb1.cell (p:=⟨V4.heap.size+1,0,Y1⟩) HTW.o.lt).trans ((HTW.o.cell 0).trans rfl)) d (if d=0 then 0 else 1) 6 ve vk F (by omega) (by by_cases h:d=0;exact .inl h;right;simp[h]) HTB.o.root HTB.o.blk.lt ((HTB.o.blk.cell 0).trans rfl) ((HTB.o.blk.cell 1).trans rfl) ((HTB.o.blk.cell 2).trans rfl) HTB.o.cols HRW.o ⟨by simp,by simp,by simp,fun k hk=>by simp[hk],fun g hg=>by simp[HTB.o.colr g hg],fun e he g hg=>by simp[HTB.o.rows e he g hg]⟩ ?start).mono ?after
  case start=>exact⟨[],Yp Y1 0 0,rfl,rfl,HB9.o,HN8.o.below hb1 (by omega),adi _ _ _ _,nlr _,fun k _ _ _=>rfl⟩
  case gm=>
   rintro Q C W W' ⟨ns,fv,hC,hg,hF⟩ hb;exact⟨ns,fv,hC,hg,hF.below hb⟩
  case gl=>
   rintro Q C W ⟨ns,fv,rfl,hg,hF⟩ k hk;exact Tb.ky hF.ow k hk
  case ga=>
   rintro Q C W W' ⟨ns,fv,hC,hg,hF⟩ ha;exact⟨ns,fv,hC,hg,hF.apart VT hwW ha⟩
  case gk=>
   rintro Q C W ⟨ns,fv,hC,hg,hF⟩;refine⟨hF.size,fun k hk=> ?_⟩;simp only[aeQ]at hk;rcases hk with rfl|rfl|hk
   · exact hF.kept _ (by omega) (by omega) (by omega)
   · exact hF.kept _ (by omega) (by omega) (by omega)
   have hkl:k<w.heap.size:=HT.o.lt k (by simpa using hk);rw[hF.low.block k hkl,HB9.o.block k hkl]
  case gs=>
   rintro Q e S hQ hch C W ⟨ns,fv,hC,hg,hF⟩;refine⟨ns,fv,hC,?_,hF⟩;rw[aev];exact Mg.LA (m:=nW M e) hg hch
  case ge=>
   rintro Q e S c hQ hch C W ⟨ns,fv,hC,hg,hF⟩;refine⟨c,?_,rfl,hF.low,hF.size,hF.kept _ (by omega) (by omega) (by omega)⟩;rw[<-HMP.o,<-hQ,aev,YZ];exact Mg.OO (m:=nW M e) hg hch
  case gx=>
   rintro c W W' ⟨k,h1,h2,h3,h4,h5⟩ ha;exact⟨k,h1,h2,h3.trans (ha.below hwW (by omega)),YB h4 ha.size,(ha.block _ (.inl (by omega)) (by omega)).trans h5⟩
  case yield=>
   rintro Q e S hQ hch m C W ⟨ns,fv,rfl,hg,hF⟩ hs4
   have heL:e∈L:=by rw[<-hQ];simp
   have hrW:=(hF.kept (V5.heap.size+1) (by omega) (by omega) (by omega)).trans uZ.o;obtain⟨z,ra,rn,rc,hez⟩:=HTB.o.bz.kT e heL;have HQ:=hd (hQ);have HG:=hd hg;have HCH:=hd hch
   have HNE:Yf (Mg.dz cs o ((Q++[e]).map (nW M))=.ok (ns++[z])):=by
    show _=_;rw[aev];have:=Mg.KE (m:=nW M e) hg hch;rw[show(nW M e).1=z by rw[hez];rfl]at this;exact this
   refine⟨_,_,_,_,run_yield hrW rfl,vE trivial ⟨_,ahC⟩ ?_⟩;simp only[jk]
   gi_wp2
   refine⟨_,run_beginRound hrW rfl,?_⟩;generalize hW2:W.putObj (V5.heap.size+1) _=W2
   have hs2:W2.heap.size=W.heap.size:=by rw[<-hW2];simp[World.putObj]
   have HR2:Yf (∃r:Loop,W1.heap[V5.heap.size+1]? =Y2 (.loop r)/\r.pending=Y1/\r.state=.ready/\W2.heap[V5.heap.size+1]? =Y2 (.loop {r with state:=.busy})):=⟨_,uZ.o,rfl,rfl,by rw[<-hW2];exact World.putObj_heap_same (by omega)⟩
   have HP:Yf (∀k,k≠V5.heap.size+1->W2.heap[k]? =W.heap[k]?):=fun k hk=>by rw[<-hW2];exact World.putObj_heap_other hk
   have HF2:Yf (Dg w W1 W2 b5 ns fv (V5.heap.size+1)):=by
    rw[<-hW2];exact hF.turn (by omega) (by omega) (by omega) _ _ (fun k h1 h2 h3=>(World.putObj_heap_other h3).trans (hF.kept k h1 h2 (by omega)))
   have hns:ns.length<=200:=by
    have h1:=(Mg.um hg).length_le;have h3:=congrArg List.length hQ;have h4:=HTB.o.bz.len;have h5:=HO.o.few;simp at h1 h3;omega
   obtain⟨ek,er⟩:=e;injection hez with hz1 hz2;subst hz1 hz2;have e5:=HF2.o.k5.d1;have g5:=HF2.o.k5.lt;obtain⟨fa,fc,rfl⟩:=ai HF2.o.ow;obtain⟨j0,hj,hy0,hy1,hy2⟩:=N9;clear hrW hF hW2 hQ hch hg;have HS2:=hd hs2;clear hs2
   gi_wp2_with (first
    |(gi_at_builtin;refine BV _ rfl _ _ 22 rfl (W1.heap.size+4) 3 j0 (Yg Yh 0) 1 8 Tryz.underlying22 hj hy0 hy1 hy2 rfl (by decide) _ _ _ rfl (HF2.o.ow.alloc _) ⟨W2.heap.size,0,Y1⟩ 1 1 [Yg Yh z] rfl rfl (Ru W2 _ _) (by intro u hu;simp at hu;subst hu;rfl) (by simp only[aaV];omega) (by omega) (by have:=HS2.o;simp;omega) ?_
      intro v5 w5 hown5 ni FQ;obtain⟨Rm,hs5,hk5,ND,hF5⟩:=HF2.o.add (by omega) VT ni hown5;obtain⟨va5,vc5,rfl⟩:=ai hown5;have HK5:=hd hk5;have TI:=hd ND;have Uq:=hd FQ;have HF5:=hd hF5;have z5:=Rm.d1;have zf:=Rm.free 0;have zl:=Rm.lt
      clear Rm hk5 ND FQ hF5 hown5 ni))
   have hs2:=HS2.o;obtain⟨r,hr1,hp1,Tm,hr2⟩:=HR2.o
   have hnv:V5.heap.size+1∉own (Yp fa ns.length fc):=fun hx=>by have:=TI.o _ hx;omega
   have hr4:(w5.setCell ⟨b5,0,Y1⟩ (Yp va5 (ns.length+1) vc5)).heap[V5.heap.size+1]? =Y2 (.loop {r with state:=.busy}):=by
    rw[Zb _ _ _ _ (by show V5.heap.size+1≠b5;omega),HK5.o _ (by omega) hnv,hr2]
   refine⟨_,_,run_endRound Y1 hr4,own (Yp va5 (ns.length+1) vc5),⟨?_,?_,?_⟩,.inl ⟨rfl,ns++[z],Yp va5 (ns.length+1) vc5,rfl,HNE.o,?_⟩⟩
   · simp[World.putObj];omega
   · intro j h1 h2 h3;rw[World.putObj_heap_other (by omega),Zb _ _ _ _ (by show j≠b5;omega),HK5.o j (by omega) h3,HP.o j (by omega)]
   · intro k hk;rcases Uq.o k hk with h|h
     · exact .inl h
     rw[ZC]at h;right;omega
   refine HF5.o.turn (by omega) (by omega) (by omega) _ 0 (fun k h1 h2 h3=> ?_);by_cases hkn:k=V5.heap.size+1
   · subst hkn;rw[World.putObj_heap_same (by simp;omega),hr1]
     cases r
     cases hp1
     cases Tm
     rfl
   rw[World.putObj_heap_other hkn];exact HF5.o.kept k h1 h2 hkn
  case after=>
   rintro e0 W' h0;clear HN8 HT0 HTW HB8;rcases h0 with⟨rfl,C,ns,fv,rfl,hg,hF⟩|⟨c,rfl,k,hk,SS,hlow,hsz,PI⟩
   · have HF:=hd hF
     have HG:Yf (Mg.dz cs o M=.ok ns):=by show _=_;rw[HMP.o]at hg;exact hg
     clear hF hg;have hr2:=(HF.o.kept (V5.heap.size+1) (by omega) (by omega) (by omega)).trans uZ.o;have hd2:=(HF.o.kept V5.heap.size (by omega) (by omega) (by omega)).trans FP.o;refine⟨_,_,run_endLoop hr2 (by simp[jk]),?_⟩
     have ht8:=fun(ob:Obj)=>HF.o.turn (by omega) (l:=V5.heap.size+1) (by omega) (by omega) ob (V5.heap.size+1) (fun k h1 h2 h3=>(World.putObj_heap_other h3).trans (HF.o.kept k h1 h2 (by omega)))
     generalize hW8:W'.putObj (V5.heap.size+1) _=W8;have HF8:=hd (hW8▸ht8 _)
     have HD8:Yf (W8.heap[V5.heap.size]? =Y2 (.deferred (Y2 []))):=by rw[<-hW8];exact(World.putObj_heap_other (by omega)).trans hd2
     clear ht8 hW8 hr2 hd2 HF;refine JJ (n:=0) (wpIn_wide.2 ?_);have k5:=HF8.o.k5.d1;have l5:=HF8.o.k5.lt;have HT8:=hd (HT.o.below HF8.o.low);obtain⟨fa,fc,rfl⟩:=ai HF8.o.ow;have HSUB:=hd (Mg.um HG.o)
     have hns:ns.length<=200:=by
      have h1:=HSUB.o.length_le;have h5:=HO.o.few;simp at h1;omega
     have hW81:=HF8.o.size
     have XG:Yf (∀(k:Nat) (h:k<ns.length),∃g,fa=Y2 ⟨g,0,Y1⟩/\g<W8.heap.size/\W8.cell? ⟨g,k,Y1⟩=Y2 (Yg Yh ns[k])/\W1.heap.size+4<=g):=fun k h=>by
      obtain⟨ao,cap,hv,hc⟩:=Tb.dI HF8.o.ow;injection hv with hv1 hv2 hv3;obtain⟨g,h1,h2,h3⟩:=hc k (Yg Yh ns[k]) (by simp[Ll,h]);refine⟨g,hv1.trans h1,h2,h3,?_⟩;exact(HF8.o.ow.lt g (by rw[hv1,h1];rfl)).1
     go_wp2_with fail;go_loopw [29] (fun i wr'=>∃(k:Nat) (F':List Nat) (ve' vk':Y3) (d':Nat) (L':List (Y3×Y3)),i=Yg Yh k/\k<=ns.length/\Yf (Tb.TabAt wr' p cs (Tb.without (ns.take k) M) nx F' R sv ve' vk' d' L')/\Yf (ax (p::F) W8 wr')/\Yf (∀x,F'.count x<=F.count x\/(W8.heap.size<=x/\F'.count x<=1))) (fun i _=>ns.length-(aeJ i).toNat)
     case atStart=>exact⟨0,F,ve,vk,d,L,rfl,aeR _,hd (by rw[List.take_zero,Tb.EH];exact HT8.o),hd (ax.refl _ _),hd fun x=> .inl (nlr _)⟩
     case round=>
      obtain⟨k,F',ve',vk',d',L',rfl,hk,HTk,HTch,HCN⟩:=hrel
      have HDk:Yf (wr.heap[V5.heap.size]? =Y2 (.deferred (Y2 []))):=by
       show _=_;rw[HTch.o.block V5.heap.size (by omega) (fun hx=>by have:=HT.o.lt V5.heap.size (by simp at hx⊢;rcases hx with h|h<;>simp[h]);omega)];exact HD8.o
      have hsk:=HTch.o.size;have kB5:ae wr b5 #[Yp fa ns.length fc] 22:=HTch.o.blk HF8.o.k5 (fun hx=>by have:=HT.o.lt b5 (by simp at hx⊢;rcases hx with h|h<;>simp[h]);omega);by_cases hlt:k<ns.length
      · have hkn:(k:Int)<(ns.length:Int):=by omega
        obtain⟨g,hg1,hg2,hg3,hg4⟩:=XG.o k hlt;subst hg1;have x0:=(World.cell?_of_block (w:=W8) (a:=⟨g,k,Y1⟩) (HTch.o.block g hg2 (fun hx=>by have:=HT.o.lt g (by simp at hx⊢;rcases hx with h|h<;>simp[h]);omega))).trans hg3
        have hgw:g<wr.heap.size:=by omega
        have NC:=hd (aeq hlt);have hnd:ns.Nodup:=HSUB.o.nodup (Tb.zA hrise);have hnot:ns[k]∉ns.take k:=I7 hnd k hlt;obtain⟨m,hm1,hm2⟩:=List.mem_map.1 (HSUB.o.subset (List.getElem_mem hlt));obtain⟨mz,mr⟩:=m
        have hm3:(ns[k],mr)∈Tb.without (ns.take k) M:=by
         have hmz:mz=ns[k]:=hm2;subst hmz;exact List.mem_filter.2 ⟨hm1,by simpa using hnot⟩
        have HDL:=hd (Tb.Q8 ns[k] mr p cs _ nx F' R sv ve' vk' d' L' wr HTk.o (HO.o.less' _) hm3);have hpw:=HTk.o.blk.lt;clear hm1 hm2 hm3 hnot hnd;generalize hz:ns[k]=z at*;have HZ:=hd hz;clear hz;go_wp2_with fail;refine HDL.o.mono ?_;rintro x w9 ⟨rfl,F9,ve9,vk9,d9,L9,hT9,Vb,hc9⟩;have HT9:=hd hT9;have WU:=hd Vb;have HC9:=hd hc9;clear hT9 Vb hc9 HDL;go_wp2_with fail;go_roundw
        case rel=>
         refine⟨k+1,F9,ve9,vk9,d9,L9,rfl,by omega,hd ?_,hd ?_,hd fun x=> ?_⟩
         · rw[NC.o,Tb.CP];exact HT9.o
         · refine HTch.o.trans WU.o fun x hx=> ?_
           rcases List.mem_cons.1 hx with rfl|hx
           · exact .inl (by simp)
           have a1:=List.count_pos_iff.2 hx;rcases HCN.o x with h|h
           · exact .inl (by simp[List.count_pos_iff.1 (show 0<F.count x by omega)])
           exact .inr h.1
         have a1:=HC9.o x;have a2:=HCN.o x;omega
        case measure=>simp[aeJ];omega
      have hkn:¬(k:Int)<(ns.length:Int):=by omega
      have hkN:k=ns.length:=by omega
      subst hkN;have HTF:=HTk.o;rw[afI]at HTF;have HTG:=hd HTF;have y5:=kB5.d1;have yl:=kB5.lt;clear HTF HTk;go_wp2_with fail;refine⟨by simp,.inl ⟨_,_,rfl,run_takeDeferred HDk.o,?_⟩⟩;have hlow:=HF8.o.low.size;have hV5:w.heap.size<V5.heap.size/\V5.heap.size<W8.heap.size:=⟨by omega,by omega⟩
      have hF9:∀g∈p::(F'++R),g≠V5.heap.size:=fun g hg=>by
       simp only[aeQ,YW]at hg;rcases hg with rfl|hg|hg
       · omega
       · have a1:=List.count_pos_iff.2 hg;have a2:=HCN.o g;have a3:=cnt_lt (x:=g) HT.o.root.lt;omega
       have:=HT.o.low g hg;omega
      refine⟨Yg Yh (ns.length:Nat),by simp[aaW,Tryz.results36,go_sem],?_⟩;unfold xW Tb.Ai;rw[Aw.o];dsimp only;rw[HG.o];refine⟨rfl,F',R,sv,ve',vk',d',L',HTG.o.keep (by simp[World.putObj]) fun g hg=>World.putObj_heap_other (hF9 g hg),?_,fun x=> ?_,fun g hg=> .inl hg⟩
      · refine((ax.of HF8.o.low).trans HTch.o (fun x hx=> .inl hx)).trans (RL _ V5.heap.size _) fun x hx=> .inr ?_
        simp at hx;omega
      have:=HCN.o x;omega
   have hd2:=PI.trans FP.o;refine⟨by simp,.inl ⟨_,_,rfl,run_takeDeferred hd2,?_⟩⟩;unfold xW Tb.Ai;rw[Aw.o];dsimp only;rw[hk];exact⟨SS.symm,hlow.trans (jQ (by omega))⟩
end Tw
end
section
theorem yG(a b:Y3)(w:Y4):(ZV (Yo 100 (Yj #[a,b])) 52 86 true).run Zc w=.ok (Yn #[Yj #[Yi ⟨#[]⟩,Yp Y1 0 0],.bool false]) w:=by kernel_rfl
theorem CV(a b:Y3)(w:Y4):(ZV (Yo 100 (Yj #[a,b])) 52 89 true).run Zc w=.ok (Yn #[Yj #[Yi ⟨#[]⟩],.bool false]) w:=by kernel_rfl
theorem yB(a b:Y3)(w:Y4):(ZV (Yo 100 (Yj #[a,b])) 52 93 true).run Zc w=.ok (Yn #[Yj #[Yi ⟨#[]⟩,Yp Y1 0 0],.bool false]) w:=by kernel_rfl
theorem yA(a b:Y3)(w:Y4):(ZV (Yo 100 (Yj #[a,b])) 52 100 true).run Zc w=.ok (Yn #[Yj #[a,b],.bool true]) w:=by kernel_rfl
namespace Tx
open Tb Tw Bt
theorem Ns{tn:Y6}{cs:abS}{M:aN}(h:kU w b 1 p ge ce tn cs M nx F R)(e:ZU)(hok:e.ok 2000)(ns:List Int)(hns:Ai cs M (Y2 e)=.ok ns):
   aaT Zc 22 #[Ym (Y2 ⟨b,2,Y1⟩),Yo 100 (Yj #[Yi ⟨tn.toArray⟩,ev? (Y2 e)])] w fun x w'=>
    x=Yl (Yj #[Yg Yh 0,Yp Y1 0 0,Yg Yh (ns.length:Nat)])/\ax (p::F) w w'/\∃F' R',kU w' b 1 p ge ce tn cs (without ns M) nx F' R'/\∀g∈F'++R',g∈F++R\/w.heap.size+2<=g:=by
 have Vh:=yG (Yi ⟨tn.toArray⟩) (ev? (Y2 e));have U8:=CV (Yi ⟨tn.toArray⟩) (ev? (Y2 e));have UO:=yB (Yi ⟨tn.toArray⟩) (ev? (Y2 e));have XB:=yA (Yi ⟨tn.toArray⟩) (ev? (Y2 e));have HO:=hd h;have Tc:Yf (jL cs (without ns M) nx):=h.ok.less' _;have hbl:=h.blk.lt
 have HFL:Yf (∀g∈p::F,g<w.heap.size):=fun g hg=>h.lt g (by simp only[aeQ,YW]at hg⊢;rcases hg with rfl|hg;exact .inr (.inr (.inl rfl));exact .inr (.inr (.inr (.inl hg))))
 have HIN:Yf (∀W1,aaS w.heap.size w W1->aaT Zc 36 #[Ym (Y2 ⟨p,0,Y1⟩),Yj #[Yi ⟨tn.toArray⟩,ev? (Y2 e)]] W1 (xW W1 p cs M nx F R (.ok ns))):=fun W1 hW=>by
  obtain⟨sv,ve,vk,d,L,ht⟩:=h.tab;have:=IC (Y2 e) ⟨tn.toArray⟩ p cs M nx F R sv ve vk d L W1 (ht.below hW) h.ok (fun e' he'=>by injection he' with he';subst he';exact hok);rw[hns]at this;exact this
 have HTS:Yf (∀W1,aaS w.heap.size w W1->_):=fun W1 hW=>pY (HO.o.below hW)
 obtain⟨tt,ty,hwc⟩:∃t y,ev? (Y2 e)=Yo t y:=jc e;clear h hns hok;generalize ev? (Y2 e)=wt at*;subst hwc;generalize (⟨tn.toArray⟩:ByteArray)=T at*;have hB0:aaS w.heap.size w ((w.alloc (Yk #[Yg Yh 0,Yp Y1 0 0,Yg Yh 0] 29)).alloc (Yk #[.string T,Yo tt ty] 100)):=((Zh _ _).alloc (nlr _) _).alloc (by simp) _;have HKA:=hd ((ae.new w #[Yg Yh 0,Yp Y1 0 0,Yg Yh 0] 29).alloc (Yk #[.string T,Yo tt ty] 100));have HKS:Yf (ae ((w.alloc (Yk #[Yg Yh 0,Yp Y1 0 0,Yg Yh 0] 29)).alloc (Yk #[.string T,Yo tt ty] 100)) (w.heap.size+1) #[.string T,Yo tt ty] 100):=(by have h:=ae.new (w.alloc (Yk #[Yg Yh 0,Yp Y1 0 0,Yg Yh 0] 29)) #[.string T,Yo tt ty] 100;rw[ZC]at h;exact h);have HBV:=hd hB0
 have hsv:((w.alloc (Yk #[Yg Yh 0,Yp Y1 0 0,Yg Yh 0] 29)).alloc (Yk #[.string T,Yo tt ty] 100)).heap.size=w.heap.size+2:=by simp
 clear hB0;go_enter ahD,ahE;go_wp2_with fail;generalize ((w.alloc (Yk #[Yg Yh 0,Yp Y1 0 0,Yg Yh 0] 29)).alloc (Yk #[.string T,Yo tt ty] 100))=V at*;have HD:Yf (aaS w.heap.size w (abA V)):=HBV.o.drew;have HTB:=hd (HTS.o (abA V) HD.o);have s0:=HKS.o.cell 0;have s1:=HKS.o.cell 1;have a0:=HKA.o.cell 0;have a1:=HKA.o.cell 1;have a2:=HKA.o.cell 2;simp at s0 s1 a0 a1 a2;have fa0:=HKA.o.free 0;have fa1:=HKA.o.free 1;have fa2:=HKA.o.free 2;have hl1:=HKS.o.lt
 go_region_held3 (fun w'=>w'.cell? ⟨w.heap.size+1,0,Y1⟩=Y2 (.string T)/\w'.cell? ⟨w.heap.size+1,1,Y1⟩=Y2 (Yo tt ty)) (go_keep)
   (first
    |(go_at_call 34
      refine HTB.o.mono ?_;rintro x w1 ⟨rfl,hb1⟩;have HB1:Yf (aaS V.heap.size V w1):=((Zh _ V).drew).trans hb1;have K1:=HKS.o.below HB1.o HKS.o.lt;have t0:=K1.cell 0;have t1:=K1.cell 1;simp at t0 t1;have M8:Yf (aaS w.heap.size w w1):=HBV.o.trans (HB1.o.mono HBV.o.size);have HI1:=hd (HIN.o w1 M8.o);have hl3:=K1.lt
      clear hb1 K1)
    |(go_at_call 36
      refine HI1.o.mono ?_;rintro x w2 ⟨rfl,hTO⟩;obtain⟨hT2,F',R',hS2,hsub⟩:=(HO.o.below M8.o).more hTO Tc.o;have hsz1:=HB1.o.size;have hA3:ax (p::F) V w2:=(ax.of HB1.o).trans hT2 (fun b hb=> .inl hb);have K3:=hA3.blk HKS.o (fun hm=>by have:=HFL.o _ hm;omega);have K4:=hA3.blk HKA.o (fun hm=>by have:=HFL.o _ hm;omega);have HS3:=hd hS2;have HA3:=hd hA3
      have HSU:Yf (∀g∈F'++R',g∈F++R\/w.heap.size+2<=g):=fun g hg=>by rcases hsub g hg with h|h;exact .inl h;exact .inr (by omega)
      clear hTO hT2 hS2 hsub hA3;have u0:=K3.cell 0;have u1:=K3.cell 1;have b0:=K4.cell 0;have b1:=K4.cell 1;have b2:=K4.cell 2;simp at u0 u1 b0 b1 b2;have fb0:=K4.free 0;have fb1:=K4.free 1;have fb2:=K4.free 2
      have hl4:=K4.lt))
 have K5:=((K4.set 0 (Yg Yh 0)).set 1 (Yp Y1 0 0)).set 2 (Yg Yh (ns.length:Nat));have g0:=K5.cell 0;have g1:=K5.cell 1;have g3:=K5.cell 2;simp at g0 g1 g3;have HSA:Yf (Apart w.heap.size (w.heap.size+1) w2 (((w2.setCell ⟨w.heap.size,0,Y1⟩ (Yg Yh 0)).setCell ⟨w.heap.size,1,Y1⟩ (Yp Y1 0 0)).setCell ⟨w.heap.size,2,Y1⟩ (Yg Yh (ns.length:Nat)))):=(dY.trans dY).trans dY;have HST:Yf (ax (p::F) w (((w2.setCell ⟨w.heap.size,0,Y1⟩ (Yg Yh 0)).setCell ⟨w.heap.size,1,Y1⟩ (Yp Y1 0 0)).setCell ⟨w.heap.size,2,Y1⟩ (Yg Yh (ns.length:Nat)))):=((((ax.of HBV.o).trans HA3.o (fun b hb=> .inl hb)).set _ _ (.inr (nlr _))).set _ _ (.inr (nlr _))).set _ _ (.inr (nlr _));clear K5 K4 K3;go_wp2;refine⟨rfl,Yj #[Yg Yh 0,Yp Y1 0 0,Yg Yh (ns.length:Nat)],by simp[aaW,ahF,go_sem,g0,g1,g3],?_⟩;refine⟨rfl,HST.o,F',R',HS3.o.apart HSA.o fun g hg=> ?_,HSU.o⟩
 have hold:g∈b::ge::p::(F++R)\/w.heap.size+2<=g:=by
  simp only[aeQ]at hg⊢;rcases hg with h|h|h|h
  · exact .inl (.inl h)
  · exact .inl (.inr (.inl h))
  · exact .inl (.inr (.inr (.inl h)))
  rcases HSU.o g h with h|h
  · exact .inl (.inr (.inr (.inr h)))
  exact .inr h
 rcases hold with h|h
 · exact .inl (HO.o.lt g h)
 exact .inr (by omega)
end Tx
end
section
namespace Tx
open Tb Tw Bt
theorem NP{tn:Y6}{cs:abS}{M:aN}(h:kU w b 1 p ge ce tn cs M nx F R)(l:List (List ZU))(hle:l.length<=1000000)(hdm:∀n,(ahG n l).length<=1000000)(hrl:∀r∈l,r.length<=1000000)(hok:∀r∈l,∀e∈r,e.ok 2000)
   (hnx:nx+l.length<=1000000000000000000) (v:Y3) (hR:rM w v l) (vs:List (List abZ)) (hvs:kZ cs M.length l=.ok vs) (hok2:jL cs (M++fu nx vs) (nx+(vs.length:Nat))):
   aaT Zc 22 #[Ym (Y2 ⟨b,2,Y1⟩),Yo 93 (Yj #[Yi ⟨tn.toArray⟩,v])] w fun x w'=>
    x=Yl (Yj #[Yg Yh 0,Yp Y1 0 0,Yg Yh (vs.length:Nat)])/\ax (p::F) w w'/\∃F' R',kU w' b 1 p ge ce tn cs (M++fu nx vs) (nx+(vs.length:Nat)) F' R'/\∀g∈F'++R',g∈F++R\/w.heap.size+2<=g:=by
 obtain⟨vs0,hv1,hv2⟩:=id hR;obtain⟨gr,cr,rfl⟩:=ai hv1;have Vh:=zw (Yi ⟨tn.toArray⟩) (Yp gr l.length cr);have U8:=Dq (Yi ⟨tn.toArray⟩) (Yp gr l.length cr);have UO:=y9 (Yi ⟨tn.toArray⟩) (Yp gr l.length cr);have HO:=hd h;have HR:=hd hR;have Tc:=hd hok2;have hbl:=h.blk.lt;have hB0:aaS w.heap.size w ((w.alloc (Yk #[Yg Yh 0,Yp Y1 0 0,Yg Yh 0] 29)).alloc (Yk #[Yi ⟨tn.toArray⟩,Yp gr l.length cr] 93)):=((Zh _ _).alloc (nlr _) _).alloc (by simp) _;have HKA:=hd ((ae.new w #[Yg Yh 0,Yp Y1 0 0,Yg Yh 0] 29).alloc (Yk #[Yi ⟨tn.toArray⟩,Yp gr l.length cr] 93));have HKS:Yf (ae ((w.alloc (Yk #[Yg Yh 0,Yp Y1 0 0,Yg Yh 0] 29)).alloc (Yk #[Yi ⟨tn.toArray⟩,Yp gr l.length cr] 93)) (w.heap.size+1) #[Yi ⟨tn.toArray⟩,Yp gr l.length cr] 93):=(by have h:=ae.new (w.alloc (Yk #[Yg Yh 0,Yp Y1 0 0,Yg Yh 0] 29)) #[Yi ⟨tn.toArray⟩,Yp gr l.length cr] 93;rw[ZC]at h;exact h);have HBV:=hd hB0
 have hsv:((w.alloc (Yk #[Yg Yh 0,Yp Y1 0 0,Yg Yh 0] 29)).alloc (Yk #[Yi ⟨tn.toArray⟩,Yp gr l.length cr] 93)).heap.size=w.heap.size+2:=by simp
 have HFL:Yf (∀g∈p::F,g<w.heap.size):=fun g hg=>h.lt g (by simp only[aeQ,YW]at hg⊢;rcases hg with rfl|hg;exact .inr (.inr (.inl rfl));exact .inr (.inr (.inr (.inl hg))))
 have HIV:=hd hvs
 have HIN:Yf (∀W1,aaS w.heap.size w W1->aaT Zc 35 #[Ym (Y2 ⟨p,0,Y1⟩),Yj #[Yi ⟨tn.toArray⟩,Yp gr l.length cr]] W1 (Oc W1 p cs M nx F R (.ok vs))):=fun W1 hW=>by
  obtain⟨sv,ve,vk,d,L,ht⟩:=h.tab;have:=H8 l hle hdm hrl hok ⟨tn.toArray⟩ p cs M nx F R sv ve vk d L _ W1 (ht.below hW) h.ok hnx (hR.below hW);rw[hvs]at this;exact this
 have HTS:Yf (∀W1,aaS w.heap.size w W1->_):=fun W1 hW=>pY (HO.o.below hW)
 generalize (⟨tn.toArray⟩:ByteArray)=T at*;go_enter ahD,ahE;go_wp2_with fail;generalize ((w.alloc (Yk #[Yg Yh 0,Yp Y1 0 0,Yg Yh 0] 29)).alloc (Yk #[.string T,Yp gr l.length cr] 93))=V at*;have HD:=hd (HBV.o.drew);have HTB:=hd (HTS.o (abA V) HD.o);obtain⟨s0,s1⟩:=HKS.o.d2;obtain⟨a0,a1,a2⟩:=HKA.o.d3;obtain⟨fa0,fa1,fa2⟩:=HKA.o.f3;have hl1:=HKS.o.lt
 go_region_held3 (fun w'=>w'.cell? ⟨w.heap.size+1,0,Y1⟩=Y2 (.string T)/\w'.cell? ⟨w.heap.size+1,1,Y1⟩=Y2 (Yp gr l.length cr)) (go_keep)
   (first
    |(go_at_call 34
      refine HTB.o.mono ?_;rintro x w1 ⟨rfl,hb1⟩;have HB1:=hd (((Zh _ V).drew).trans hb1);have K1:=HKS.o.below HB1.o HKS.o.lt;obtain⟨t0,t1⟩:=K1.d2;have M8:=hd (HBV.o.trans (HB1.o.mono HBV.o.size));have HI1:=hd (HIN.o w1 M8.o);have hl3:=K1.lt
      clear hb1 K1)
    |(go_at_call 35
      refine HI1.o.mono ?_;rintro x w2 ⟨rfl,hTO⟩;obtain⟨hT2,F',R',hS2,hsub⟩:=(HO.o.below M8.o).more hTO Tc.o;have hsz1:=HB1.o.size;have hA3:ax (p::F) V w2:=(ax.of HB1.o).trans hT2 (fun b hb=> .inl hb);have K3:=hA3.blk HKS.o (fun hm=>by have:=HFL.o _ hm;omega);have K4:=hA3.blk HKA.o (fun hm=>by have:=HFL.o _ hm;omega);have HS3:=hd hS2;have HA3:=hd hA3
      have HSU:Yf (∀g∈F'++R',g∈F++R\/w.heap.size+2<=g):=fun g hg=>by rcases hsub g hg with h|h;exact .inl h;exact .inr (by omega)
      obtain⟨u0,u1⟩:=K3.d2;obtain⟨b0,b1,b2⟩:=K4.d3;obtain⟨fb0,fb1,fb2⟩:=K4.f3
      have hl4:=K4.lt))
 have K5:=((K4.set 0 (Yg Yh 0)).set 1 (Yp Y1 0 0)).set 2 (Yg Yh (vs.length:Nat));obtain⟨g0,g1,g3⟩:=K5.d3;have HSA:Yf (Apart w.heap.size (w.heap.size+1) w2 (((w2.setCell ⟨w.heap.size,0,Y1⟩ (Yg Yh 0)).setCell ⟨w.heap.size,1,Y1⟩ (Yp Y1 0 0)).setCell ⟨w.heap.size,2,Y1⟩ (Yg Yh (vs.length:Nat)))):=(dY.trans dY).trans dY;have HST:Yf (ax (p::F) w (((w2.setCell ⟨w.heap.size,0,Y1⟩ (Yg Yh 0)).setCell ⟨w.heap.size,1,Y1⟩ (Yp Y1 0 0)).setCell ⟨w.heap.size,2,Y1⟩ (Yg Yh (vs.length:Nat)))):=((((ax.of HBV.o).trans HA3.o (fun b hb=> .inl hb)).set _ _ (.inr (nlr _))).set _ _ (.inr (nlr _))).set _ _ (.inr (nlr _));go_wp2;refine⟨rfl,Yj #[Yg Yh 0,Yp Y1 0 0,Yg Yh (vs.length:Nat)],by simp[aaW,ahF,go_sem,g0,g1,g3],?_⟩;refine⟨rfl,HST.o,F',R',HS3.o.apart HSA.o fun g hg=> ?_,HSU.o⟩
 have hold:g∈b::ge::p::(F++R)\/w.heap.size+2<=g:=by
  simp only[aeQ]at hg⊢;rcases hg with h|h|h|h
  · exact .inl (.inl h)
  · exact .inl (.inr (.inl h))
  · exact .inl (.inr (.inr (.inl h)))
  rcases HSU.o g h with h|h
  · exact .inl (.inr (.inr (.inr h)))
  exact .inr h
 rcases hold with h|h
 · exact .inl (HO.o.lt g h)
 exact .inr (by omega)
end Tx
end
section
namespace Tb
open Bt
theorem Cc:∀(cs:abS) (k:Nat) (h:k<cs.length),(cs.flatMap qU)[k*2]? =Y2 (Yi ⟨cs[k].1.toArray⟩)/\(cs.flatMap qU)[k*2+1]? =Y2 (Yg Yh (cs[k].2:Nat))
 |d::r,0,_=>by simp[qU]
 |d::r,k+1,h=>by
  have:=Cc r k (by simpa using h);rw[show(k+1)*2=k*2+1+1 by omega];simpa[qU]using this
theorem Js{cs:abS}(h:w.ownsRow B 220 2 v cs.length (cs.flatMap qU)):Mn.bA w v cs:=by
 obtain⟨ao,cap,rfl,hE⟩:=dI h;refine⟨ao,cap,rfl,fun k hk=> ?_⟩;obtain⟨g,hao,hg,c0⟩:=hE _ _ (Cc cs k hk).1;obtain⟨g',hao',hg',c1⟩:=hE _ _ (Cc cs k hk).2;rw[hao]at hao';injection hao' with hgg;injection hgg with hgg;subst hgg;exact⟨g,hao,hg,c0,c1⟩
theorem IW{cs:abS}{k:Nat}(hk:k<cs.length)(h:((cs.take k).map agx).Nodup)(hn:∀(i:Nat) (h1:i<cs.length),i<k->cs[i].1≠cs[k].1):((cs.take (k+1)).map agx).Nodup:=by
 rw[aeq hk,aev,List.nodup_append];refine⟨h,by simp,fun a ha b hb=> ?_⟩;simp only[YZ,List.map_nil,aaP]at hb;subst hb;obtain⟨c,hc,rfl⟩:=List.mem_map.1 ha;obtain⟨i,hi,rfl⟩:=List.mem_iff_getElem.1 hc;simp only[List.length_take]at hi;rw[List.getElem_take];exact hn i (by omega) (by omega)
theorem Nw{cs:abS}{j k:Nat}(hk:k<cs.length)(hj:j<k)(h:cs[j].1=cs[k].1):¬(cs.map agx).Nodup:=by
 intro hn;exact List.pairwise_iff_getElem.1 hn j k (by simp;omega) (by simp;omega) hj (by simpa using h)
theorem Dy(cs:abS)(hl:cs.length<=1000)(v:Y3)(w:Y4)(hv:w.ownsRow 0 220 2 v cs.length (cs.flatMap qU)):
   aaT Zc 74 #[v] w fun x w'=>x=Yl (.bool (decide (cs.map agx).Nodup))/\aaS w.heap.size w w':=by
 obtain⟨ao,cap,rfl,hcells⟩:=Js hv
 have hcap:cs.length<=cap:=by
  rcases hv.2 with⟨h1,h2⟩|⟨g,cap',cur,h1,h2,h3,h4,h5,h6⟩
  · injection h1 with _ e1 e2;omega
  injection h1 with _ e1 e2;subst e2;omega
 have HC:=hd hcells;go_enter Tryz.func74,Tryz.ntmps74;go_wp2_with fail;go_loopw [9] (fun i wr=>∃k:Nat,k<=cs.length/\i=Yg Yh k/\Yf (aaS w.heap.size w wr)/\Yf (((cs.take k).map agx).Nodup)) (fun i _=>cs.length-(aeJ i).toNat)
 case atStart=>exact⟨0,by omega,rfl,Zh _ _,by show ahy _;simp⟩
 case round=>
  obtain⟨k,hk,rfl,HW,HN⟩:=hrel;by_cases hlt:k<cs.length
  · obtain⟨g,hao,hg,c0,c1⟩:=HC.o k hlt;have d0:=(HW.o.cell (p:=⟨g,k*2,Y1⟩) hg).trans c0;have d1:=(HW.o.cell (p:=⟨g,k*2+1,Y1⟩) hg).trans c1;have hg2:=nlA hg HW.o.size;have HK:=hd hlt
    have HQ:Yf (∀(j:Nat) (hj:j<cs.length),((⟨cs[k].1.toArray⟩:ByteArray).toList==(⟨cs[j].1.toArray⟩:ByteArray).toList)=decide (cs[k].1=cs[j].1)):=fun j hj=>Mn.Sz _ _
    obtain⟨wo,rfl⟩:∃wo,wo=wr:=⟨_,rfl⟩;generalize hkn:(⟨cs[k].1.toArray⟩:ByteArray)=kn at*;generalize ((cs[k].2:Nat):Int)=kt at*;have HKN:=hd hkn
    have HWk:Yf (aaS wo.heap.size wo (wo.alloc (Yk #[.string kn,Yg Yh kt] 220))):=by show aaS _ _ _;go_grown
    have HBk:=hd (ae.new wo #[.string kn,Yg Yh kt] 220);subst hao;go_wp2_with fail;go_loopw [18] (fun i wr=>∃j:Nat,j<=k/\i=Yg Yh j/\Yf (aaS wo.heap.size wo wr)/\Yf (ae wr wo.heap.size #[.string kn,Yg Yh kt] 220)/\Yf (∀(i:Nat) (h1:i<cs.length),i<j->cs[i].1≠(cs[k]'HK.o).1)) (fun i _=>k-(aeJ i).toNat)
    case atStart=>exact⟨0,by omega,rfl,HWk,HBk,fun i _ h=>by omega⟩
    case round=>
     obtain⟨j,hj,rfl,HW2,HB2,HN2⟩:=hrel;have hs2:=HW2.o.size;have b0:=HB2.o.d1;have hbl:=HB2.o.lt;by_cases hjk:j<k
     · obtain⟨g',hao',hg',c0,c1⟩:=HC.o j (by omega);injection hao' with hgg;injection hgg with hgg;subst hgg;have e0:=(HW2.o.cell (p:=⟨g,j*2,Y1⟩) hg2).trans ((HW.o.cell (p:=⟨g,j*2,Y1⟩) hg).trans c0);have e1:=(HW2.o.cell (p:=⟨g,j*2+1,Y1⟩) hg2).trans ((HW.o.cell (p:=⟨g,j*2+1,Y1⟩) hg).trans c1)
       have hg3:g<wr.heap.size:=by omega
       have hq:=HQ.o j (by omega);generalize hjn:(⟨(cs[j]'(by omega)).1.toArray⟩:ByteArray)=jn at*;generalize (((cs[j]'(by omega)).2:Nat):Int)=jt at*;have HW3:Yf (aaS wo.heap.size wo (wr.alloc (Yk #[.string jn,Yg Yh jt] 220))):=HW2.o.alloc (by omega) _;have HB3:=hd (HB2.o.alloc (Yk #[.string jn,Yg Yh jt] 220));by_cases heq:(cs[j]'(by omega)).1=(cs[k]'HK.o).1
       · have hq2:=hq.trans (decide_eq_true heq.symm);clear hq;have HEQ:=hd (Nw HK.o hjk heq);clear heq;go_wp2_with fail;go_ret;exact⟨by rw[decide_eq_false HEQ.o];first|done|rfl,HW.o.trans (HW3.o.mono HW.o.size)⟩
       have hq2:=hq.trans (decide_eq_false (fun h=>heq h.symm));clear hq;have HNE:=hd heq;clear heq;go_wp2_with fail;go_roundw
       case rel=>exact⟨j+1,by omega,rfl,HW3,HB3,fun i h1 h2=>by
        rcases(show i<j\/i=j by omega)with h|rfl
        · exact HN2.o i h1 h
        exact HNE.o⟩
       case measure=>simp[aeJ];omega
     obtain rfl:j=k:=by omega
     have HND:=hd (IW HK.o HN.o HN2.o);go_wp2_with fail;go_roundw
     case rel=>exact⟨j+1,by omega,rfl,HW.o.trans (HW2.o.mono HW.o.size),HND⟩
     case measure=>simp[aeJ];omega
  obtain rfl:k=cs.length:=by omega
  have hnd:=HN.o;rw[afI]at hnd;go_wp2_with fail;go_ret;exact⟨by rw[decide_eq_true hnd];rfl,HW.o⟩
theorem I1(t:ByteArray)(cl:abS)(hl:cl.length<=1000)(hnd:(cl.map agx).Nodup)(v:Y3)(b:Nat)(cs:Array Y3)(T:Y5)(w:Y4)(hN:Fw w b cs T)(hv:w.ownsRow 0 220 2 v cl.length (cl.flatMap qU)):
   aaT Zc 32 #[Ym (Y2 ⟨b,2,Y1⟩),Yj #[.string t,v]] w fun x w'=>x=Yl (Yn #[])/\∃u w1 p,aaS w.heap.size w w1/\w.heap.size<=p/\ae w1 p #[v,Yp Y1 0 0,Yp Y1 0 0,Yg Yh 0,Yg Yh 0] 128/\
     w1.ownsRow w.heap.size 257 2 u 1 [.string t,Ym (Y2 ⟨p,0,Y1⟩)]/\w'=(w1.setCell ⟨b,2,Y1⟩ u).setCell ⟨b,4,Y1⟩ (Yg Yh 1):=by
 have HA:Yf (∀W,aaS w.heap.size w W->aaT Zc 74 #[v] W fun x w'=>x=Yl (.bool true)/\aaS W.heap.size W w'):=fun W hW=>by
  have:=Dy cl hl v W (eO hv hW);rw[decide_eq_true hnd]at this;exact this
 obtain⟨va,vc,rfl⟩:=ai hv;have HN:=hd hN;have hb:=hN.blk.lt
 have HB0:Yf (aaS w.heap.size w (w.alloc (Yk #[.string t,Yp va cl.length vc] 86))):=by show aaS _ _ _;go_grown
 have HK0:=hd (ae.new w #[.string t,Yp va cl.length vc] 86);have HN0:=hd (hN.below HB0.o);have HG0:=hd (Ts.get_none t b 2 (abA (w.alloc (Yk #[.string t,Yp va cl.length vc] 86))) HN0.o.blk.drew.lt ((HN0.o.blk.drew.cell 2).trans HN0.o.bz) ((HN0.o.blk.drew.cell 3).trans HN0.o.kids));have hl0:=HK0.o.lt;go_enter Tryz.func32,Tryz.ntmps32;go_wp2_with fail
 go_region_with (
   go_at_call 72
   refine HG0.o.mono ?_
   rintro x w1 ⟨rfl,rfl⟩)
 have HB1:=hd (HB0.o.drew);have HK1:=hd (HK0.o.drew);have HN1:Yf (Fw (abA (w.alloc (Yk #[.string t,Yp va cl.length vc] 86))) b cs T):=⟨HN0.o.blk.drew,HN0.o.bz,HN0.o.kids,HN0.o.cnt⟩;generalize abA (w.alloc (Yk #[.string t,Yp va cl.length vc] 86))=W at*;have k1:=HK1.o.cell 1;simp at k1;have hlk:=HK1.o.lt;go_wp2_with fail;refine(bD _ _).mono ?_;rintro x w1 ⟨rfl,rfl⟩;go_wp2_with fail;refine(HA.o _ HB1.o).mono ?_;rintro x w2 ⟨rfl,hb2⟩;have HB2:=hd (HB1.o.trans (hb2.mono HB1.o.size));have HK2:=hd (HK1.o.below hb2 HK1.o.lt);have HN2:=hd (HN1.o.below hb2);go_wp2_with fail;refine(bD _ _).mono ?_;rintro x w2 ⟨rfl,rfl⟩;go_wp2_with fail;refine(Ts.Dv b 2 0 _ HN2.o.blk.lt ((HN2.o.blk.cell 4).trans HN2.o.cnt)).mono ?_;rintro x w2 ⟨rfl,rfl⟩;go_wp2_with fail;refine(bD _ _).mono ?_;rintro x w2 ⟨rfl,rfl⟩;obtain⟨k0,k1⟩:=HK2.o.d2;have hlk:=HK2.o.lt;have HT:=hd (ae.new w2 #[Yp va cl.length vc,Yp Y1 0 0,Yp Y1 0 0,Yg Yh 0,Yg Yh 0] 128);have HB3:Yf (aaS w.heap.size w (abA (w2.alloc (Yk #[Yp va cl.length vc,Yp Y1 0 0,Yp Y1 0 0,Yg Yh 0,Yg Yh 0] 128)))):=(HB2.o.alloc HB2.o.size _).drew;have HPT:=hd (Ts.CL t (Y2 ⟨w2.heap.size,0,Y1⟩) b 2 cs T (abA (w2.alloc (Yk #[Yp va cl.length vc,Yp Y1 0 0,Yp Y1 0 0,Yg Yh 0,Yg Yh 0] 128))) (HN2.o.blk.alloc _).drew HN2.o.bz HN2.o.kids HN2.o.cnt);have hle:w.heap.size<=(abA (w2.alloc (Yk #[Yp va cl.length vc,Yp Y1 0 0,Yp Y1 0 0,Yg Yh 0,Yg Yh 0] 128))).heap.size:=HB3.o.size;go_wp2_with fail
 go_region_with (
   go_at_call 76
   refine HPT.o.mono ?_
   rintro x w5 ⟨rfl,u,w4,hb4,hown,rfl⟩)
 all_goals
  go_wp2_with fail
  go_end0
  exact⟨rfl,u,w4,w2.heap.size,HB3.o.trans (hb4.mono hle),HB2.o.size,HT.o.drew.below hb4 HT.o.drew.lt,afw hown hle,rfl⟩
end Tb
namespace Tx
open Tb Tw Bt
theorem made{w1:Y4}{l:Int}{u:Y3}{tn:Y6}{cl:abS}(hb:ae w b (Jf l (Yp Y1 0 0) 0) 70)(hv:w.ownsRow (b+1) 220 2 v cl.length (cl.flatMap qU))(hc:Mg.fF cl)
   (hB:aaS w.heap.size w w1) (hp:w.heap.size<=p) (hP:ae w1 p #[v,Yp Y1 0 0,Yp Y1 0 0,Yg Yh 0,Yg Yh 0] 128) (ho:w1.ownsRow w.heap.size 257 2 u 1 [Yi ⟨tn.toArray⟩,Ym (Y2 ⟨p,0,Y1⟩)]):
   ∃ge ce,w.heap.size<=ge/\kU ((w1.setCell ⟨b,2,Y1⟩ u).setCell ⟨b,4,Y1⟩ (Yg Yh 1)) b l p ge ce tn cl [] 0 [] (own v)/\Apart b (b+1) w ((w1.setCell ⟨b,2,Y1⟩ u).setCell ⟨b,4,Y1⟩ (Yg Yh 1)):=by
 obtain⟨ge,ce,rfl,h1,h2,_,_,h3⟩:=Gl ho (by omega);have hpe:=pV ho (by omega) hP (by decide);have hlb:=hb.lt;have kb:=hb.below hB hb.lt;have kb2:=(kb.set 2 (Yp (Y2 ⟨ge,0,Y1⟩) 1 ce)).set 4 (Yg Yh 1);have hA:Apart b (b+1) w1 ((w1.setCell ⟨b,2,Y1⟩ (Yp (Y2 ⟨ge,0,Y1⟩) 1 ce)).setCell ⟨b,4,Y1⟩ (Yg Yh 1)):=dY.trans dY
 have hvl:∀g∈own v,b+1<=g/\g<w.heap.size:=fun g hg=>hv.lt g (by simpa[own]using hg)
 have hs:=hB.size;have hs2:=hA.size
 have XI:Mn.bA ((w1.setCell ⟨b,2,Y1⟩ (Yp (Y2 ⟨ge,0,Y1⟩) 1 ce)).setCell ⟨b,4,Y1⟩ (Yg Yh 1)) v cl:=((Js hv).below hB).keep hs2 fun g hg=>hA.block g (.inr (hvl g hg).1) (by have:=hvl g hg;omega)
 refine⟨ge,ce,h1,⟨by simpa[Jf]using kb2,nlA h2 hA.size,?_,?_,?_,?_,?_,by omega,?_⟩,(oZ hB).trans hA⟩
 · exact(hA.cell (p:=⟨ge,0,Y1⟩) (by show ge<b\/b+1<=ge;omega) h2).trans (h3 0 _ rfl)
 · exact(hA.cell (p:=⟨ge,1,Y1⟩) (by show ge<b\/b+1<=ge;omega) h2).trans (h3 1 _ rfl)
 · refine⟨v,Yp Y1 0 0,Yp Y1 0 0,0,[],⟨?_,XI,⟨⟨nlr _,by simp⟩,adi _ _ _ _,⟨Y1,0,rfl⟩,rfl⟩,trivial,by simp,by simp,fun g hg=>hg,fun g hg hm=> ?_,fun g hg=>by have:=hvl g hg;omega⟩⟩
   · exact jX hP hs2 (hA.block p (.inr (by omega)) hP.lt)
   have:=hvl g hg;simp at hm;omega
 · exact⟨hc,by simp,List.Pairwise.nil,by simp,by omega,by simp⟩
 · intro hm;simp only[YK,aeQ]at hm;rcases hm with rfl|hm
   · omega
   have:=hvl b hm;omega
 intro hm;simp only[YK,aeQ]at hm;rcases hm with rfl|hm
 · exact hpe rfl
 have:=hvl ge hm;omega
theorem O4(b:Nat)(w:Y4)(tn:Y6)(cl:abS)(hc:Mg.fF cl)(hnd:(cl.map agx).Nodup)(v:Y3)(hb:ae w b (Jf 1 (Yp Y1 0 0) 0) 70)(hv:w.ownsRow (b+1) 220 2 v cl.length (cl.flatMap qU)):
   aaT Zc 22 #[Ym (Y2 ⟨b,2,Y1⟩),Yo 86 (Yj #[Yi ⟨tn.toArray⟩,v])] w fun x w'=>
    x=Yl (Yj #[Yg Yh 0,Yp Y1 0 0,Yg Yh 0])/\Apart b (b+1) w w'/\∃p ge ce,w.heap.size+2<=p/\w.heap.size+2<=ge/\kU w' b 1 p ge ce tn cl [] 0 [] (own v):=by
 obtain⟨va,vc,rfl⟩:=ai hv;have hta:=xI (Yi ⟨tn.toArray⟩) (Yp va cl.length vc);have HBK:=hd hb;have hbl:=hb.lt;have hB0:aaS w.heap.size w ((w.alloc (Yk #[Yg Yh 0,Yp Y1 0 0,Yg Yh 0] 29)).alloc (Yk #[Yi ⟨tn.toArray⟩,Yp va cl.length vc] 86)):=((Zh _ _).alloc (nlr _) _).alloc (by simp) _;have HV:=hd ((HBK.o.alloc (Yk #[Yg Yh 0,Yp Y1 0 0,Yg Yh 0] 29)).alloc (Yk #[Yi ⟨tn.toArray⟩,Yp va cl.length vc] 86));have HKA:=hd ((ae.new w #[Yg Yh 0,Yp Y1 0 0,Yg Yh 0] 29).alloc (Yk #[Yi ⟨tn.toArray⟩,Yp va cl.length vc] 86));have HOV:=hd (eO hv hB0);have HC:=hd (Tb.I1 ⟨tn.toArray⟩ cl hc.1 hnd _ b _ _ _ ⟨HV.o,rfl,rfl,rfl⟩ (afw HOV.o (aeR _)));have HBV:=hd hB0
 have HVL:Yf (∀g∈own (Yp va cl.length vc),b+1<=g/\g<w.heap.size):=fun g hg=>hv.lt g (by simpa[own]using hg)
 have hsv:w.heap.size+2=((w.alloc (Yk #[Yg Yh 0,Yp Y1 0 0,Yg Yh 0] 29)).alloc (Yk #[Yi ⟨tn.toArray⟩,Yp va cl.length vc] 86)).heap.size:=by simp
 have HCO:=hd hc;generalize hT:(⟨tn.toArray⟩:ByteArray)=T at*;go_enter ahD,ahE;go_wp2_with fail;refine HC.o.mono ?_;rintro x w' ⟨rfl,u,w1,p,hb1,hp,hP,hown,rfl⟩;subst hT;obtain⟨ge,ce,h1,hO,hA⟩:=made HV.o HOV.o HCO.o hb1 hp hP hown;have K2:=jX HKA.o hA.size (hA.block w.heap.size (by omega) HKA.o.lt);have HO2:=hd hO;have HA2:=hd ((oZ HBV.o).trans hA);have HPE:Yf (w.heap.size+2<=p/\w.heap.size+2<=ge):=⟨by omega,by omega⟩;generalize ((w1.setCell ⟨b,2,Y1⟩ u).setCell ⟨b,4,Y1⟩ (Yg Yh 1))=W2 at*;obtain⟨a0,a1,a2⟩:=K2.d3;obtain⟨fa0,fa1,fa2⟩:=K2.f3;have hl2:=K2.lt;have K5:=((K2.set 0 (Yg Yh 0)).set 1 (Yp Y1 0 0)).set 2 (Yg Yh 0);obtain⟨g0,g1,g2⟩:=K5.d3;have HS:Yf (Apart w.heap.size (w.heap.size+1) W2 (((W2.setCell ⟨w.heap.size,0,Y1⟩ (Yg Yh 0)).setCell ⟨w.heap.size,1,Y1⟩ (Yp Y1 0 0)).setCell ⟨w.heap.size,2,Y1⟩ (Yg Yh 0))):=(dY.trans dY).trans dY;go_wp2;have hpe:=HPE.o;refine⟨rfl,Yj #[Yg Yh 0,Yp Y1 0 0,Yg Yh 0],by simp[aaW,ahF,go_sem,g0,g1,g2],?_⟩;refine⟨rfl,Apart.over HA2.o HS.o (nlr _),p,ge,ce,hpe.1,hpe.2,HO2.o.apart HS.o fun g hg=> ?_⟩;simp only[YK,aeQ]at hg;rcases hg with rfl|rfl|rfl|hg
 · omega
 · omega
 · omega
 have:=HVL.o g hg;omega
end Tx
end
section
namespace Tx
open Tb Tw
structure Yb(p b:Nat)(W W':Y4):Prop where
 os:W'.os=W.os
 tape:W'.tape=W.tape
 output:W'.output=W.output
 size:W.heap.size<=W'.heap.size
 block:∀k,k≠p->k≠b->k<W.heap.size->W'.heap[k]? =W.heap[k]?
theorem Q0(w:Y4):aaT Zc 15 #[] w fun x w'=>x=Yl (Ym (Y2 ⟨w.heap.size,0,Y1⟩))/\w'=w.alloc (.cells (Jf 0 (Yp Y1 0 0) 0) 70):=by
 go_enter Tryz.func15,Tryz.ntmps15;go_wp2_with fail;go_ret;exact⟨rfl,rfl⟩
theorem sU{x:Ending}(h:Told (Yl v) x):x=Yl (Yn #[v,Yg Yh 0]):=by
 rcases h with⟨u,h1,rfl⟩|⟨c,h1,_⟩
 · injection h1 with h1;rw[h1]
 cases h1
theorem OM{x:Ending}(h:Told (lL 0 c) x):x=Yl (Yn #[Yj #[Yg Yh 0,Yp Y1 0 0,Yg Yh 0],Yg Yh (c:Int)]):=by
 rcases h with⟨u,h1,_⟩|⟨d,h1,rfl⟩
 · cases h1
 unfold lL at h1;injection h1 with h1;injection h1 with h1;injection h1 with h1;injection h1 with _ h1;injection h1 with h1;have:=congrArg (fun a:Array Y3=>a[1]?) h1;simp at this;rw[<-this]
theorem xY{a:Nat}{T:Y5}{s:Nat}{n:Nat}{xs:List Y3}(h:w.ownsRow B T s v n xs)(hA:Apart a c w w')(hc:c<=B):w'.ownsRow B T s v n xs:=by
 refine⟨h.1,?_⟩;rcases h.2 with h2|⟨g,cap,cur,h0,h1,h2,h3⟩
 · exact .inl h2
 exact .inr ⟨g,cap,cur,h0,h1,(hA.block g (.inr (by omega)) (geA.1 h2).1).trans h2,h3⟩
end Tx
end
section
namespace Tx
open Tb Tw Bt
theorem F7{wp w2 W3:Y4}(h1:aaS w.heap.size w wp)(h2:ax F (wp.setCell ⟨b,0,Y1⟩ (.int .i32 1)) w2)(h3:Apart w.heap.size (w.heap.size+2) w2 W3)(h4:Apart w.heap.size (w.heap.size+2) (W3.setCell ⟨b,0,Y1⟩ (.int .i32 0)) w'):ax (b::F) w w':=by
 have s1:=h1.size;have s2:=h2.size;have s3:=h3.size;have s4:=h4.size;simp at s2 s4;refine⟨h4.os.trans (h3.os.trans (h2.os.trans h1.os)),h4.tape.trans (h3.tape.trans (h2.tape.trans h1.tape)),h4.output.trans (h3.output.trans (h2.output.trans h1.output)),by omega,fun k hk hn=> ?_⟩;simp only[aeQ,not_or]at hn;rw[h4.block k (.inl hk) (by simp;omega),Zb _ _ _ _ (by show k≠b;exact hn.1),h3.block k (.inl hk) (by omega),h2.block k (by simp;omega) hn.2,Zb _ _ _ _ (by show k≠b;exact hn.1),h1.block k hk]
theorem kU.unlock{w2 W3:Y4}{A:Nat}{tn:Y6}{cs:abS}{M:aN}(h:kU w2 b 1 p ge ce tn cs M nx F R)(hl:∀g∈b::ge::p::(F++R),g<A\/A+2<=g)(h3:Apart A (A+2) w2 W3)(h4:Apart A (A+2) (W3.setCell ⟨b,0,Y1⟩ (.int .i32 0)) w'):kU w' b 0 p ge ce tn cs M nx F R:=
 ((h.apart h3 hl).lock 0).apart h4 hl
theorem yV:∀{l:List (List ZU)} {vs:List Y3},iM w B l vs->∀(k:Nat) (h:k<l.length),∃u,vs[k]? =Y2 u/\w.ownsRow B 98 1 u l[k].length (l[k].flatMap nP)
 |[],[],_,k,h=>by simp at h
 |r::l,v::vs,h,0,_=>⟨v,rfl,h.1⟩
 |r::l,v::vs,h,k+1,hk=>by
  obtain⟨u,h1,h2⟩:=yV h.2 k (by simpa using hk);exact⟨u,by simpa using h1,by simpa using h2⟩
theorem RZ{x:Y3}{l:List (List ZU)}(h:Gi B l v w)(hb:b<B+1):rM (w.setCell ⟨b,0,Y1⟩ x) v l:=by
 obtain⟨vs,h1,h2⟩:=h;refine⟨vs,afw (ahH h1 (p:=⟨b,0,Y1⟩) x hb) (aeR _),fun k hk=> ?_⟩;obtain⟨u,h3,h4⟩:=yV h2 k hk;exact⟨u,h3,afw (ahH h4 (p:=⟨b,0,Y1⟩) x hb) (aeR _)⟩
theorem Sb{tn:Y6}{cs:abS}{M:aN}(l:List (List ZU))(s:ByteArray)(hp:ahI s.data.toList (.insert tn l))(hm:s.size<=aaV)(he:jJ w)(h:kU w b 0 p ge ce tn cs M nx F R)(hle:l.length<=1000000)(hdm:∀n,(ahG n l).length<=1000000)(hrl:∀r∈l,r.length<=1000000)(hok:∀r∈l,∀e∈r,e.ok 2000)
   (hnx:nx+l.length<=1000000000000000000) (vs:List (List abZ)) (hvs:kZ cs M.length l=.ok vs) (hok2:jL cs (M++fu nx vs) (nx+(vs.length:Nat))):
   aaT Zc 9 #[Ym (Y2 ⟨b,0,Y1⟩),.string s] w fun x w'=>x=Yl (Yn #[Yj #[Yg Yh 0,Yp Y1 0 0,Yg Yh (vs.length:Nat)],Yg Yh 0])/\ax (b::p::F) w w'/\
     ∃F' R',kU w' b 0 p ge ce tn cs (M++fu nx vs) (nx+(vs.length:Nat)) F' R'/\∀g∈F'++R',g∈F++R\/w.heap.size<=g:=by
 have hbl:=h.blk.lt
 have hFl:∀g∈p::F,g<w.heap.size:=fun g hg=>h.lt g (by simp only[aeQ,YW]at hg⊢;rcases hg with rfl|hg;exact .inr (.inr (.inl rfl));exact .inr (.inr (.inr (.inl hg))))
 have hold:∀{F' R':List Nat} {n:Nat},(∀g∈F'++R',g∈F++R\/w.heap.size+2<=g)->∀g∈b::ge::p::(F'++R'),g<w.heap.size\/w.heap.size+2<=g:=fun{F' R' _} hs g hg=>by
  simp only[aeQ]at hg;rcases hg with h1|h1|h1|h1
  · exact .inl (h.lt g (by simp[h1]))
  · exact .inl (h.lt g (by simp[h1]))
  · exact .inl (h.lt g (by simp[h1]))
  rcases hs g h1 with h1|h1
  · exact .inl (h.lt g (by simp only[aeQ];exact .inr (.inr (.inr h1))))
  exact .inr h1
 refine(kR (.insert tn l) s hp hm b _ w he h.blk rfl
   (fun wp v x w2=>x=Yl (Yj #[Yg Yh 0,Yp Y1 0 0,Yg Yh (vs.length:Nat)])/\ax (p::F) (wp.setCell ⟨b,0,Y1⟩ (.int .i32 1)) w2/\∃F' R',kU w2 b 1 p ge ce tn cs (M++fu nx vs) (nx+(vs.length:Nat)) F' R'/\∀g∈F'++R',g∈F++R\/w.heap.size+2<=g) ?_ ?_).mono ?_
 · intro wp v B hb hBB hst;obtain⟨u,rfl,hu⟩:=hst;refine(NP ((h.below hb).lock 1) l hle hdm hrl hok hnx u (RZ hu (by omega)) vs hvs hok2).mono ?_;rintro x w2 ⟨rfl,hT,F',R',hS,hsub⟩;have hs1:=hb.size;simp at hsub;exact⟨rfl,hT,F',R',hS,fun g hg=>by rcases hsub g (by simpa using hg)with h|h;exact .inl (by simpa using h);exact .inr (by omega)⟩
 · rintro wp v x w2 hb ⟨rfl,hT,F',R',hS,hsub⟩;refine⟨.inl ⟨_,_,_,_,_,rfl⟩,fun k hk hl=> ?_,⟨_,hS.blk,rfl⟩,by simpa using hT.size⟩;rw[hT.block k (by simpa using hl) (fun hm=>by have:=hFl k hm;omega)];exact Zb _ _ _ _ (by show k≠b;omega)
 rintro x w' ⟨wp,v,x0,w2,W3,hb,hsz,⟨rfl,hT,F',R',hS,hsub⟩,hTd,hA3,hA4⟩;exact⟨sU hTd,F7 hb hT hA3 hA4,F',R',hS.unlock (hold (n:=0) hsub) hA3 hA4,fun g hg=>by rcases hsub g hg with h|h;exact .inl h;exact .inr (by omega)⟩
theorem Kh(h:Apart b (b+1) w w'):ax [b] w w':=⟨h.os,h.tape,h.output,h.size,fun k hk hn=>h.block k (by simp at hn;omega) hk⟩
theorem QH(b:Nat)(w:Y4)(he:jJ w)(hB:ae w b (Jf 0 (Yp Y1 0 0) 0) 70)(tn:Y6)(cl:abS)(s:ByteArray)(hp:ahI s.data.toList (.create tn cl))(hm:s.size<=aaV)(hc:Mg.fF cl)(hnd:(cl.map agx).Nodup):
   aaT Zc 9 #[Ym (Y2 ⟨b,0,Y1⟩),.string s] w fun x w'=>x=Yl (Yn #[Yj #[Yg Yh 0,Yp Y1 0 0,Yg Yh 0],Yg Yh 0])/\ax [b] w w'/\
     ∃p ge ce R,kU w' b 0 p ge ce tn cl [] 0 [] R/\w.heap.size<=p/\w.heap.size<=ge/\∀g∈R,w.heap.size<=g:=by
 have hbl:=hB.lt
 refine(kR (.create tn cl) s hp hm b _ w he hB rfl
   (fun wp v x w2=>x=Yl (Yj #[Yg Yh 0,Yp Y1 0 0,Yg Yh 0])/\Apart b (b+1) (wp.setCell ⟨b,0,Y1⟩ (.int .i32 1)) w2/\∃p ge ce R,kU w2 b 1 p ge ce tn cl [] 0 [] R/\w.heap.size+2<=p/\w.heap.size+2<=ge/\∀g∈R,w.heap.size+2<=g) ?_ ?_).mono ?_
 · intro wp v B hb hBB hst;obtain⟨u,rfl,hu⟩:=hst;have hu':wp.ownsRow (B+1) 220 2 u cl.length (cl.flatMap qU):=hu
   have hK:ae (wp.setCell ⟨b,0,Y1⟩ (.int .i32 1)) b (Jf 1 (Yp Y1 0 0) 0) 70:=by simpa[Jf]using(hB.below hb hB.lt).set 0 (.int .i32 1)
   have hu2:=ahH hu' (p:=⟨b,0,Y1⟩) (.int .i32 1) (by show b<_;omega)
   have hul:∀g∈own u,w.heap.size+2<=g:=fun g hg=>by
    have:=(hu2.lt g (by simpa[own]using hg)).1;omega
   refine(O4 b _ tn cl hc hnd u hK (afw hu2 (by omega))).mono ?_;rintro x w2 ⟨rfl,hA,p,ge,ce,hp1,hge,hO⟩;have hs1:=hb.size;simp at hp1 hge;exact⟨rfl,hA,p,ge,ce,_,hO,by omega,by omega,hul⟩
 · rintro wp v x w2 hb ⟨rfl,hA,p,ge,ce,R,hO,_,_,_⟩;refine⟨.inl ⟨_,_,_,_,_,rfl⟩,fun k hk hl=> ?_,⟨_,hO.blk,rfl⟩,by simpa using hA.size⟩;rw[hA.block k (by omega) (by simpa using hl)];exact Zb _ _ _ _ (by show k≠b;omega)
 rintro x w' ⟨wp,v,x0,w2,W3,hb,hsz,⟨rfl,hA,p,ge,ce,R,hO,h1,h2,h3⟩,hTd,hA3,hA4⟩;refine⟨sU hTd,(F7 hb (Kh hA) hA3 hA4).more (by simp),p,ge,ce,R,hO.unlock (fun g hg=> ?_) hA3 hA4,by omega,by omega,fun g hg=>by have:=h3 g hg;omega⟩;simp only[YK,aeQ]at hg;rcases hg with rfl|rfl|rfl|hg
 · exact .inl hbl
 · exact .inr h2
 · exact .inr h1
 exact .inr (h3 g hg)
end Tx
end
section
namespace Tx
open Tb Tw Bt
def Ap(B:Nat)(cs:abS)(l:List (Option ZU))(os:List (ZU×Bool))(lb:Bool)(ln:Nat)(fs:List (List abZ×List abZ))(a:Y3)(w':Y4):Prop:=
 ∃xs v,So.dR (fun a b=>decide (Mg.Aa (os.map agU) a b<0)) xs/\So.eP (fun a b=>decide (Mg.Aa (os.map agU) a b<0)) fs xs/\a=Yj #[Yg Yh ((Tb.bf cs l).length:Nat),v,Yg Yh 0]/\
     w'.ownsRow B 39 3 v (((if lb=true then xs.take ln else xs).flatMap agx)).length (((if lb=true then xs.take ln else xs).flatMap agx).flatMap Mg.vC)
theorem Ap.slice{cs:abS}{l:List (Option ZU)}{os:List (ZU×Bool)}{lb:Bool}{ln:Nat}{fs:List (List abZ×List abZ)}{a:Y3}(h:Ap B cs l os lb ln fs a w'):∃(n:Int) (ao:Option Addr) (k c:Nat),a=Yj #[Yg Yh n,Yp ao k c,Yg Yh 0]:=by
 obtain⟨xs,v,_,_,h1,h2⟩:=h;obtain⟨ao,k,c,rfl⟩:=Ki h2;exact⟨_,_,_,_,h1⟩
theorem Ap.lift{B':Nat}{cs:abS}{l:List (Option ZU)}{os:List (ZU×Bool)}{lb:Bool}{ln:Nat}{fs:List (List abZ×List abZ)}{a:Y3}(h:Ap B cs l os lb ln fs a w)(f:∀v n xs,w.ownsRow B 39 3 v n xs->w'.ownsRow B' 39 3 v n xs):Ap B' cs l os lb ln fs a w':=by
 obtain⟨xs,v,h1,h2,h3,h4⟩:=h;exact⟨xs,v,h1,h2,h3,f _ _ _ h4⟩
theorem Pz{tn:Y6}{cs:abS}{M:aN}{lk:Int}(h:kU w b lk p ge ce tn cs M nx F R)(l:List (Option ZU))(o:Option ZU)(os:List (ZU×Bool))(lb:Bool)(ln:Nat)(hlen:l.length<=2000/\os.length<=2000/\1<=l.length)(hc1:1<=cs.length/\cs.length<=6)(hok:∀d∈ahg cs l o os,d.1.ok 2000)(v u:Y3)(hi:w.ownsRow 0 225 2 v l.length (l.flatMap iK))(ho:w.ownsRow 0 227 2 u os.length (os.flatMap dA))
   (hck:ahx cs (ahg cs l o os)=.ok ()) (fs:List (List abZ×List abZ)) (hfs:Mg.aG cs (Tb.bf cs l) (os.map agx) o (M.map agU)=.ok fs):
   aaT Zc 22 #[Ym (Y2 ⟨b,2,Y1⟩),Yo 109 (Yj #[v,Yi ⟨tn.toArray⟩,ev? o,u,.bool lb,Yg Yh (ln:Nat)])] w fun x w'=>aaS w.heap.size w w'/\∃a,x=Yl a/\Ap (w.heap.size+2) cs l os lb ln fs a w':=by
 obtain⟨va,vc,rfl⟩:=ai hi;obtain⟨ua,uc,rfl⟩:=ai ho;have Vh:=oP (Yp va l.length vc) (Yi ⟨tn.toArray⟩) (ev? o) (Yp ua os.length uc) (.bool lb) (Yg Yh (ln:Nat));have U8:=sQ (Yp va l.length vc) (Yi ⟨tn.toArray⟩) (ev? o) (Yp ua os.length uc) (.bool lb) (Yg Yh (ln:Nat));have UO:=pJ (Yp va l.length vc) (Yi ⟨tn.toArray⟩) (ev? o) (Yp ua os.length uc) (.bool lb) (Yg Yh (ln:Nat));have XB:=pq (Yp va l.length vc) (Yi ⟨tn.toArray⟩) (ev? o) (Yp ua os.length uc) (.bool lb) (Yg Yh (ln:Nat));have hta5:=oh (Yp va l.length vc) (Yi ⟨tn.toArray⟩) (ev? o) (Yp ua os.length uc) (.bool lb) (Yg Yh (ln:Nat));have hta6:=pF (Yp va l.length vc) (Yi ⟨tn.toArray⟩) (ev? o) (Yp ua os.length uc) (.bool lb) (Yg Yh (ln:Nat));have HO:=hd h;have hbl:=h.blk.lt
 have HIN:Yf (∀W1,aaS w.heap.size w W1->aaT Zc 38 #[Ym (Y2 ⟨p,0,Y1⟩),Yj #[Yp va l.length vc,Yi ⟨tn.toArray⟩,ev? o,Yp ua os.length uc,.bool lb,Yg Yh (ln:Nat)]] W1 fun x W2=>aaS W1.heap.size W1 W2/\∃a,x=Yl a/\Ap W1.heap.size cs l os lb ln fs a W2):=fun W1 hW=>by
  obtain⟨sv,ve,vk,d,L,ht⟩:=h.tab;refine(qj l o os lb ln ⟨tn.toArray⟩ hlen p cs M nx F R sv ve vk d L _ _ W1 (ht.below hW) h.ok hc1 hok (eO hi hW) (eO ho hW)).mono ?_;rintro x W2 ⟨hb2,hx⟩;rw[hck]at hx;dsimp only at hx;rw[hfs]at hx;obtain⟨xs,v,h1,h2,rfl,h4⟩:=hx;exact⟨hb2,_,rfl,xs,v,h1,h2,rfl,h4⟩
 have HTS:Yf (∀W1,aaS w.heap.size w W1->_):=fun W1 hW=>pY (HO.o.below hW)
 have hwc:ev? o=Yq\/∃t y,ev? o=Yo t y:=by
  cases o with
  |none=>exact .inl rfl
  |some e=>exact .inr (jc e)
 clear h hi ho hok hck hfs;generalize ev? o=wt at*;generalize (⟨tn.toArray⟩:ByteArray)=T at*;have hB0:aaS w.heap.size w ((w.alloc (Yk #[Yg Yh 0,Yp Y1 0 0,Yg Yh 0] 29)).alloc (Yk #[Yp va l.length vc,.string T,wt,Yp ua os.length uc,.bool lb,Yg Yh (ln:Nat)] 109)):=((Zh _ _).alloc (nlr _) _).alloc (by simp) _;have HKA:=hd ((ae.new w #[Yg Yh 0,Yp Y1 0 0,Yg Yh 0] 29).alloc (Yk #[Yp va l.length vc,.string T,wt,Yp ua os.length uc,.bool lb,Yg Yh (ln:Nat)] 109));have HKS:Yf (ae ((w.alloc (Yk #[Yg Yh 0,Yp Y1 0 0,Yg Yh 0] 29)).alloc (Yk #[Yp va l.length vc,.string T,wt,Yp ua os.length uc,.bool lb,Yg Yh (ln:Nat)] 109)) (w.heap.size+1) #[Yp va l.length vc,.string T,wt,Yp ua os.length uc,.bool lb,Yg Yh (ln:Nat)] 109):=(by have h:=ae.new (w.alloc (Yk #[Yg Yh 0,Yp Y1 0 0,Yg Yh 0] 29)) #[Yp va l.length vc,.string T,wt,Yp ua os.length uc,.bool lb,Yg Yh (ln:Nat)] 109;rw[ZC]at h;exact h);have HBV:=hd hB0
 have hsv:((w.alloc (Yk #[Yg Yh 0,Yp Y1 0 0,Yg Yh 0] 29)).alloc (Yk #[Yp va l.length vc,.string T,wt,Yp ua os.length uc,.bool lb,Yg Yh (ln:Nat)] 109)).heap.size=w.heap.size+2:=by simp
 clear hB0;rcases hwc with rfl|⟨tt,ty,rfl⟩
 all_goals
  go_enter ahD,ahE;go_wp2_with fail;generalize (w.alloc _).alloc _=V at*
  first|generalize Yo tt ty=wt at* |generalize Yq=wt at*
  have HD:Yf (aaS V.heap.size V (abA V)):=(Zh _ V).drew;have HTB:=hd (HTS.o (abA V) HBV.o.drew);have s0:=HKS.o.cell 0;have s1:=HKS.o.cell 1;have s2:=HKS.o.cell 2;have s3:=HKS.o.cell 3;have s4:=HKS.o.cell 4;have s5:=HKS.o.cell 5;have a0:=HKA.o.cell 0;have a1:=HKA.o.cell 1;have a2:=HKA.o.cell 2;simp at s0 s1 s2 s3 s4 s5 a0 a1 a2;have fa0:=HKA.o.free 0;have fa1:=HKA.o.free 1;have fa2:=HKA.o.free 2;have hl1:=HKS.o.lt
  go_region_held3 (fun w'=>w'.cell? ⟨w.heap.size+1,0,Y1⟩=Y2 (Yp va l.length vc)/\w'.cell? ⟨w.heap.size+1,1,Y1⟩=Y2 (.string T)/\w'.cell? ⟨w.heap.size+1,2,Y1⟩=Y2 wt/\w'.cell? ⟨w.heap.size+1,3,Y1⟩=Y2 (Yp ua os.length uc)/\w'.cell? ⟨w.heap.size+1,4,Y1⟩=Y2 (.bool lb)/\w'.cell? ⟨w.heap.size+1,5,Y1⟩=Y2 (Yg Yh (ln:Nat))) (go_keep)
    (first
     |(go_at_call 34
       refine HTB.o.mono ?_;rintro x w1 ⟨rfl,hb1⟩;have HB1:Yf (aaS V.heap.size V w1):=HD.o.trans hb1;have K1:=HKS.o.below HB1.o HKS.o.lt;have t0:=K1.cell 0;have t1:=K1.cell 1;have t2:=K1.cell 2;have t3:=K1.cell 3;have t4:=K1.cell 4;have t5:=K1.cell 5;simp at t0 t1 t2 t3 t4 t5;have HI1:=hd (HIN.o w1 (HBV.o.trans (HB1.o.mono HBV.o.size)));have hl3:=K1.lt
       clear hb1 K1)
     |(go_at_call 38
       refine HI1.o.mono ?_;rintro x W2 ⟨hb2,a,rfl,hsel⟩;obtain⟨an,vo,vn,vc2,rfl⟩:=hsel.slice;have HB2:Yf (aaS V.heap.size V W2):=HB1.o.trans (hb2.mono HB1.o.size)
       have HOW:Yf (Ap (w.heap.size+2) cs l os lb ln fs _ W2):=hsel.lift fun v n xs q=>fw q (by have:=HB1.o.size;omega)
       have K3:=HKS.o.below HB2.o HKS.o.lt;have K4:=HKA.o.below HB2.o HKA.o.lt;clear hb2 hsel;have u0:=K3.cell 0;have u1:=K3.cell 1;have u2:=K3.cell 2;have u3:=K3.cell 3;have u4:=K3.cell 4;have u5:=K3.cell 5;have b0:=K4.cell 0;have b1:=K4.cell 1;have b2:=K4.cell 2;simp at u0 u1 u2 u3 u4 u5 b0 b1 b2;have fb0:=K4.free 0;have fb1:=K4.free 1;have fb2:=K4.free 2
       have hl4:=K4.lt))
  have K5:=((K4.set 0 (Yg Yh an)).set 1 (Yp vo vn vc2)).set 2 (Yg Yh 0);have g0:=K5.cell 0;have g1:=K5.cell 1;have g3:=K5.cell 2;simp at g0 g1 g3;clear K5 K4 K3;go_wp2;refine⟨rfl,Yj #[Yg Yh an,Yp vo vn vc2,Yg Yh 0],by simp[aaW,ahF,go_sem,g0,g1,g3],?_⟩;refine⟨(((HBV.o.trans (HB2.o.mono HBV.o.size)).setCell (p:=⟨w.heap.size,0,Y1⟩) (nlr _) _).setCell (p:=⟨w.heap.size,1,Y1⟩) (nlr _) _).setCell (p:=⟨w.heap.size,2,Y1⟩) (nlr _) _,_,rfl,?_⟩
  exact HOW.o.lift fun v n xs q=>ahH (ahH (ahH q (p:=⟨w.heap.size,0,Y1⟩) _ (by show w.heap.size<_;omega)) (p:=⟨w.heap.size,1,Y1⟩) _ (by show w.heap.size<_;omega)) (p:=⟨w.heap.size,2,Y1⟩) _ (by show w.heap.size<_;omega)
end Tx
end
section
namespace Tx
open Tb Tw Bt
theorem JV{tn:Y6}{cs:abS}{M:aN}(l:List (Option ZU))(o:Option ZU)(os:List (ZU×Bool))(lm:Option Nat)(s:ByteArray)(hp:ahI s.data.toList (.select l tn o os lm))(hm:s.size<=aaV)(he:jJ w)(h:kU w b 0 p ge ce tn cs M nx F R)
   (hlen:l.length<=2000/\os.length<=2000/\1<=l.length) (hc1:1<=cs.length/\cs.length<=6) (hok:∀d∈ahg cs l o os,d.1.ok 2000) (hck:ahx cs (ahg cs l o os)=.ok ()) (fs:List (List abZ×List abZ)) (hfs:Mg.aG cs (Tb.bf cs l) (os.map agx) o (M.map agU)=.ok fs):
   aaT Zc 9 #[Ym (Y2 ⟨b,0,Y1⟩),.string s] w fun x w'=>ax [b] w w'/\kU w' b 0 p ge ce tn cs M nx F R/\∃a,x=Yl (Yn #[a,Yg Yh 0])/\Ap (w.heap.size+2) cs l os lm.isSome (lm.getD 0) fs a w':=by
 have hbl:=h.blk.lt
 refine(kR (.select l tn o os lm) s hp hm b _ w he h.blk rfl
   (fun wp v x w2=>aaS (wp.setCell ⟨b,0,Y1⟩ (.int .i32 1)).heap.size (wp.setCell ⟨b,0,Y1⟩ (.int .i32 1)) w2/\∃a,x=Yl a/\Ap (wp.heap.size+2) cs l os lm.isSome (lm.getD 0) fs a w2) ?_ ?_).mono ?_
 · intro wp v B hb hBB hst;obtain⟨u,u',rfl,hu,hu'⟩:=hst;have hu2:wp.ownsRow (B+1) 225 2 u l.length (l.flatMap iK):=hu;have hu3:wp.ownsRow (B+1) 227 2 u' os.length (os.flatMap dA):=hu';refine(Pz ((h.below hb).lock 1) l o os lm.isSome (lm.getD 0) hlen hc1 hok u u' (afw (ahH hu2 (p:=⟨b,0,Y1⟩) _ (by show b<_;omega)) (aeR _)) (afw (ahH hu3 (p:=⟨b,0,Y1⟩) _ (by show b<_;omega)) (aeR _)) hck fs hfs).mono ?_;rintro x w2 ⟨hB2,a,rfl,hS⟩;exact⟨hB2,a,rfl,by simpa using hS⟩
 · rintro wp v x w2 hb ⟨hB,a,rfl,hS⟩;have hK:=((h.below hb).lock 1).blk;obtain⟨an,vo,vn,vc,rfl⟩:=hS.slice;refine⟨.inl ⟨_,_,_,_,_,rfl⟩,fun k hk hl=> ?_,⟨_,hK.below hB hK.lt,rfl⟩,by simpa using hB.size⟩;rw[hB.block k (by simpa using hl)];exact Zb _ _ _ _ (by show k≠b;omega)
 rintro x w' ⟨wp,v,x0,w2,W3,hb,hsz,⟨hB,a,rfl,hS⟩,hTd,hA3,hA4⟩;refine⟨F7 hb (ax.of hB) hA3 hA4,(((h.below hb).lock 1).below hB).unlock (fun g hg=> .inl (h.lt g hg)) hA3 hA4,a,sU hTd,hS.lift fun v n xs q=> ?_⟩;have q1:w2.ownsRow (w.heap.size+2) 39 3 v n xs:=fw q (by omega);exact xY (ahH (xY q1 hA3 (nlr _)) _ (by show b<_;omega)) hA4 (nlr _)
end Tx
end
namespace Mk
theorem gG{z:Int}(h1: -9223372036854775808<=z)(h2:z<=9223372036854775807):IntKind.i64.wrap z=z:=by
 unfold IntKind.wrap;simp only[IntKind.bits,IntKind.signed];simp;omega
theorem mJ(z:Int)(k:Nat)(w:Y4)(h1: -9223372036854775808<=z)(h2:z<=9223372036854775807)(hk:1<=k)(hk2:k<=2000000000):
   aaT Zc 10 #[Yg Yh z,Yg Yh k] w fun x w'=>∃r:Nat,r<k/\x=Yl (Yg Yh r)/\w'=w:=by
 have key:∀c:Int,0<=c->∃r:Nat,r<k/\Int.tmod c k=(r:Int):=by
  intro c hc;obtain⟨n,rfl⟩:=Int.eq_ofNat_of_zero_le hc;exact⟨n%k,Nat.mod_lt _ (by omega),by rw[Int.ofNat_tmod]⟩
 have hk0:¬((k:Int)=0):=by omega
 by_cases hz:z<0
 · have e1:IntKind.i64.wrap (z+1)=z+1:=gG (by omega) (by omega);have e2:IntKind.i64.wrap (-(z+1))= -(z+1):=gG (by omega) (by omega);obtain⟨r,hr,he⟩:=key (-(z+1)) (by omega);have e3:IntKind.i64.wrap (r:Int)=r:=gG (by omega) (by omega);go_enter ahJ,ahK;go_wp2;go_ret;exact⟨r,hr,by simp_all,rfl⟩
 obtain⟨r,hr,he⟩:=key z (by omega);have e3:IntKind.i64.wrap (r:Int)=r:=gG (by omega) (by omega);go_enter ahJ,ahK;go_wp2;go_ret;exact⟨r,hr,by simp_all,rfl⟩
end Mk
namespace Kp
theorem oD(z:Fin 7):(ahL z).length<=2:=by
 match z with
 |0|1|2|3|4|5|6=>decide
theorem M4(r:Nat)(h:r<7):(⟨(Px.uU ((r:Int)-3)).toArray⟩:ByteArray)=⟨(ahL ⟨r,h⟩).toArray⟩:=by
 match r,h with
 |0,_=>rfl
 |1,_=>rfl
 |2,_=>rfl
 |3,_=>rfl
 |4,_=>rfl
 |5,_=>rfl
 |6,_=>rfl
 |k+7,h=>omega
theorem iy{a:ByteArray}{b:Y6}(h:a.data.toList=b):Ending.returned (.string a)=Yl (Yi ⟨b.toArray⟩):=by
 subst h
 rfl
theorem RI(n:Int)(h1: -9223372036854775808<=n)(h2:n<=9223372036854775807)(w:Y4)(he:Av w):
   aaT Zc 16 #[Yg Yh n] w fun x w'=>(∃z na nb c,x=Yl (Yi ⟨(ahM z na nb c).toArray⟩))/\aaS w.heap.size w w':=by
 have HE:=hd he;clear he;go_enter Tryz.func16,Tryz.ntmps16;go_wp2_with fail;refine(Mk.mJ n 7 _ h1 h2 (by omega) (by omega)).mono ?_;rintro x w1 ⟨r7,hr7,rfl,rfl⟩;have e7:IntKind.i64.wrap ((r7:Int)-3)=(r7:Int)-3:=Mk.gG (by omega) (by omega);go_wp2_with fail;have HI:=hd (Tryz.strconv_Itoa ((r7:Int)-3) (by omega) (by omega) w1 HE.o.tab);refine HI.o.mono ?_;rintro x w2 ⟨rfl,kk,os,hw⟩
 have HB:Yf (aaS w1.heap.size w1 w2):=by show aaS _ _ _;rw[hw];exact Lib.below_grow _ w1 (nlr _) kk os
 clear hw HI;rw[Ot ((r7:Int)-3) (by omega) (by omega),M4 r7 hr7]
 have HS:Yf ((⟨(ahL ⟨r7,hr7⟩).toArray⟩:ByteArray).data.toList=ahL ⟨r7,hr7⟩):=by show _=_;simp
 have hnl:=oD ⟨r7,hr7⟩
 have hsz:(⟨(ahL ⟨r7,hr7⟩).toArray⟩:ByteArray).size<=2:=by
  show(ahL ⟨r7,hr7⟩).toArray.size<=2;rw[afe];exact hnl
 have hmx:100000<=aaV:=by decide
 generalize (⟨(ahL ⟨r7,hr7⟩).toArray⟩:ByteArray)=S at*;go_wp2_with fail;refine(Mk.mJ n 5 _ h1 h2 (by omega) (by omega)).mono ?_;rintro x w3 ⟨r5,hr5,rfl,rfl⟩;obtain⟨na,hna⟩:∃na:Bool,((r5:Int)==0)=na:=⟨_,rfl⟩
 cases na
 all_goals
  go_wp2_with fail;refine(Mk.mJ n 11 _ h1 h2 (by omega) (by omega)).mono ?_;rintro x w3 ⟨r11,hr11,rfl,rfl⟩;obtain⟨nb,hnb⟩:∃nb:Bool,((r11:Int)==3)=nb:=⟨_,rfl⟩
  cases nb
  all_goals
   go_wp2_with fail;refine(Mk.mJ n 2 _ h1 h2 (by omega) (by omega)).mono ?_;rintro x w3 ⟨r2,hr2,rfl,rfl⟩;obtain⟨c2,hc2⟩:∃nb:Bool,((r2:Int)==0)=nb:=⟨_,rfl⟩
   cases c2
   all_goals
    go_wp2_with fail;refine(Mk.mJ n 13 _ h1 h2 (by omega) (by omega)).mono ?_;rintro x w3 ⟨r13,hr13,rfl,rfl⟩;obtain⟨c3,hc3⟩:∃nb:Bool,((r13:Int)==5)=nb:=⟨_,rfl⟩
    cases c3
    all_goals
     go_wp2_with fail;go_ret;refine⟨?_,HB.o⟩;have hS:=HS.o
     first
      |(refine⟨⟨r7,hr7⟩,false,false,0,iy ?_⟩;simp[ahM,ahN,ahO,ahP,Z4,ahQ,ahR,hS];done)
      |(refine⟨⟨r7,hr7⟩,false,false,1,iy ?_⟩;simp[ahM,ahN,ahO,ahP,Z4,ahQ,ahR,hS];done)
      |(refine⟨⟨r7,hr7⟩,false,false,2,iy ?_⟩;simp[ahM,ahN,ahO,ahP,Z4,ahQ,ahR,hS];done)
      |(refine⟨⟨r7,hr7⟩,false,true,0,iy ?_⟩;simp[ahM,ahN,ahO,ahP,Z4,ahQ,ahR,hS];done)
      |(refine⟨⟨r7,hr7⟩,false,true,1,iy ?_⟩;simp[ahM,ahN,ahO,ahP,Z4,ahQ,ahR,hS];done)
      |(refine⟨⟨r7,hr7⟩,false,true,2,iy ?_⟩;simp[ahM,ahN,ahO,ahP,Z4,ahQ,ahR,hS];done)
      |(refine⟨⟨r7,hr7⟩,true,false,0,iy ?_⟩;simp[ahM,ahN,ahO,ahP,Z4,ahQ,ahR,hS];done)
      |(refine⟨⟨r7,hr7⟩,true,false,1,iy ?_⟩;simp[ahM,ahN,ahO,ahP,Z4,ahQ,ahR,hS];done)
      |(refine⟨⟨r7,hr7⟩,true,false,2,iy ?_⟩;simp[ahM,ahN,ahO,ahP,Z4,ahQ,ahR,hS];done)
      |(refine⟨⟨r7,hr7⟩,true,true,0,iy ?_⟩;simp[ahM,ahN,ahO,ahP,Z4,ahQ,ahR,hS];done)
      |(refine⟨⟨r7,hr7⟩,true,true,1,iy ?_⟩;simp[ahM,ahN,ahO,ahP,Z4,ahQ,ahR,hS];done)
      |(refine⟨⟨r7,hr7⟩,true,true,2,iy ?_⟩;simp[ahM,ahN,ahO,ahP,Z4,ahQ,ahR,hS];done)
end Kp
section
namespace Mg
open Px
def oz(z:Fin 7)(na nb:Bool)(c:Fin 3):List V:=
 [if na=true then aZ else jH ((z.val:Int)-3),if nb=true then aZ else vL (qY z),match c with|0=>aO false|1=>aO true|2=>aZ]
def Ic(r:List V):Prop:=∃z na nb c,r=oz z na nb c
theorem Ls(z:Fin 7)(na nb:Bool)(c:Fin 3):Tb.qE bX [[aE z na,bE z nb,cE c]]=.ok (bF bX [[aE z na,bE z nb,cE c]])/\bJ [] (bF bX [[aE z na,bE z nb,cE c]])=.ok ()/\Tb.fQ bX [[aE z na,bE z nb,cE c]]=.ok [oz z na nb c]:=by
 match z,c with
 |0,0=>cases na<;>cases nb<;>exact⟨rfl,rfl,rfl⟩
 |0,1=>cases na<;>cases nb<;>exact⟨rfl,rfl,rfl⟩
 |0,2=>cases na<;>cases nb<;>exact⟨rfl,rfl,rfl⟩
 |1,0=>cases na<;>cases nb<;>exact⟨rfl,rfl,rfl⟩
 |1,1=>cases na<;>cases nb<;>exact⟨rfl,rfl,rfl⟩
 |1,2=>cases na<;>cases nb<;>exact⟨rfl,rfl,rfl⟩
 |2,0=>cases na<;>cases nb<;>exact⟨rfl,rfl,rfl⟩
 |2,1=>cases na<;>cases nb<;>exact⟨rfl,rfl,rfl⟩
 |2,2=>cases na<;>cases nb<;>exact⟨rfl,rfl,rfl⟩
 |3,0=>cases na<;>cases nb<;>exact⟨rfl,rfl,rfl⟩
 |3,1=>cases na<;>cases nb<;>exact⟨rfl,rfl,rfl⟩
 |3,2=>cases na<;>cases nb<;>exact⟨rfl,rfl,rfl⟩
 |4,0=>cases na<;>cases nb<;>exact⟨rfl,rfl,rfl⟩
 |4,1=>cases na<;>cases nb<;>exact⟨rfl,rfl,rfl⟩
 |4,2=>cases na<;>cases nb<;>exact⟨rfl,rfl,rfl⟩
 |5,0=>cases na<;>cases nb<;>exact⟨rfl,rfl,rfl⟩
 |5,1=>cases na<;>cases nb<;>exact⟨rfl,rfl,rfl⟩
 |5,2=>cases na<;>cases nb<;>exact⟨rfl,rfl,rfl⟩
 |6,0=>cases na<;>cases nb<;>exact⟨rfl,rfl,rfl⟩
 |6,1=>cases na<;>cases nb<;>exact⟨rfl,rfl,rfl⟩
 |6,2=>cases na<;>cases nb<;>exact⟨rfl,rfl,rfl⟩
theorem QQ(n:Nat)(hn:n<=199)(z:Fin 7)(na nb:Bool)(c:Fin 3):Tb.kZ bX n [[aE z na,bE z nb,cE c]]=.ok [oz z na nb c]:=by
 obtain⟨h1,h2,h3⟩:=Ls z na nb c;unfold Tb.kZ;rw[h1];dsimp only;rw[h2];dsimp only;rw[h3];dsimp only;rw[if_pos (by simp;omega)]
theorem oD(z:Fin 7):(qY z).length<=100:=by
 match z with
 |0|1|2|3|4|5|6=>decide
theorem Ky(z:Fin 7)(na nb:Bool)(c:Fin 3):jB bX (oz z na nb c):=by
 have hz:=z.isLt
 have hA:G5 (if na=true then aZ else jH ((z.val:Int)-3))/\Has (if na=true then aZ else jH ((z.val:Int)-3)) 1:=by
  cases na
  · exact⟨Di ⟨by omega,by omega⟩,.inr (.inl ⟨rfl,rfl⟩)⟩
  exact⟨nE,.inl rfl⟩
 have hB:G5 (if nb=true then aZ else vL (qY z))/\Has (if nb=true then aZ else vL (qY z)) 2:=by
  cases nb
  · exact⟨Cq (oD z),.inr (.inr (.inl ⟨rfl,rfl⟩))⟩
  exact⟨nE,.inl rfl⟩
 have hC:G5 (match c with|0=>aO false|1=>aO true|2=>aZ)/\Has (match c with|0=>aO false|1=>aO true|2=>aZ) 3:=by
  match c with
  |0=>exact⟨jR false,.inr (.inr (.inr ⟨rfl,rfl⟩))⟩
  |1=>exact⟨jR true,.inr (.inr (.inr ⟨rfl,rfl⟩))⟩
  |2=>exact⟨nE,.inl rfl⟩
 refine⟨rfl,fun v hv=> ?_,fun i x v hi hv=> ?_⟩
 · simp only[oz,aeQ,afA,or_false]at hv;rcases hv with rfl|rfl|rfl
   · exact hA.1
   · exact hB.1
   exact hC.1
 match i,hi,hv with
 |0,hi,hv=>cases hi;cases hv;exact hA.2
 |1,hi,hv=>cases hi;cases hv;exact hB.2
 |2,hi,hv=>cases hi;cases hv;exact hC.2
theorem Ov:fF bX:=⟨by decide,by decide⟩
theorem three(e:E):∀(rs:List (List V)),(∀r∈rs,value bX r e=.ok (aO true)\/value bX r e=.ok (aO false)\/value bX r e=.ok aZ)->(∀r∈rs,∃v,vals bX r [nA]=.ok [v])->
   ∃f1 f2 f3,aG bX [nA] [] (Y2 e) rs=.ok f1/\aG bX [nA] [] (Y2 (.un 20 e)) rs=.ok f2/\aG bX [nA] [] (Y2 (.un 21 e)) rs=.ok f3/\f1.length+f2.length+f3.length=rs.length/\(∀x∈f1++f2++f3,x.1.length=1)
 |[],_,_=>⟨[],[],[],rfl,rfl,rfl,rfl,by simp⟩
 |r::rs,hv,ha=>by
  obtain⟨f1,f2,f3,h1,h2,h3,h4,h5⟩:=three e rs (fun q hq=>hv q (by simp[hq])) (fun q hq=>ha q (by simp[hq]));obtain⟨v,hva⟩:=ha r (by simp);have hv0:vals bX r []=.ok []:=rfl;rcases hv r (by simp)with h|h|h
  · refine⟨([v],[])::f1,f2,f3,?_,?_,?_,by simp;omega,?_⟩
    · simp[aG,aY,h,isTrue,iJ,aO,hva,hv0,h1]
    · simp[aG,aY,value,h,sP,isNull,isTrue,iJ,aO,aZ,h2]
    · simp[aG,aY,value,h,sP,isNull,isTrue,iJ,aO,aZ,h3]
    intro x hx;simp only[YI,aeQ]at hx;rcases hx with rfl|hx
    · rfl
    exact h5 x hx
  · refine⟨f1,([v],[])::f2,f3,?_,?_,?_,by simp;omega,?_⟩
    · simp[aG,aY,h,isTrue,iJ,aO,h1]
    · simp[aG,aY,value,h,sP,isNull,isTrue,iJ,aO,aZ,hva,hv0,h2]
    · simp[aG,aY,value,h,sP,isNull,isTrue,iJ,aO,aZ,h3]
    intro x hx;simp only[laa,YI,YW,aeQ]at hx;rcases hx with hx|rfl|hx|hx
    · exact h5 x (by simp[hx])
    · rfl
    · exact h5 x (by simp[hx])
    exact h5 x (by simp[hx])
  refine⟨f1,f2,([v],[])::f3,?_,?_,?_,by simp;omega,?_⟩
  · simp[aG,aY,h,isTrue,iJ,aO,aZ,h1]
  · simp[aG,aY,value,h,sP,isNull,isTrue,iJ,aO,aZ,h2]
  · simp[aG,aY,value,h,sP,isNull,isTrue,iJ,aO,aZ,hva,hv0,h3]
  intro x hx;simp only[laa,YW,aeQ]at hx;rcases hx with hx|hx|rfl|hx
  · exact h5 x (by simp[hx])
  · exact h5 x (by simp[hx])
  · rfl
  exact h5 x (by simp[hx])
end Mg
end
section
namespace Kp
open Tx Tb Tw Bt
def GX(W:Y4)(ao:Option Addr)(n:Nat):Prop:=∀k,k<n->∃g off z,ao=Y2 ⟨g,off,Y1⟩/\g<W.heap.size/\W.cell? ⟨g,off+k,Y1⟩=Y2 (Yg Yh z)/\ -9223372036854775808<=z/\z<=9223372036854775807
structure SE(w W:Y4)(b p ge ce:Nat)(M:aN)(nx:Int)(F R:List Nat):Prop where
 sto:kU W b 0 p ge ce [116] Px.bX M nx F R
 rows:∀m∈M,Mg.Ic m.2
 low:∀g∈b::ge::p::(F++R),w.heap.size<=g
theorem PS(z:Fin 7)(na nb:Bool)(c:Fin 3):(⟨(ahM z na nb c).toArray⟩:ByteArray).size<=100:=by
 show(ahM z na nb c).toArray.size<=100;rw[afe];have:=oD z
 have hc:(ahP c).length<=5:=by
  match c with
  |0|1|2=>decide
 simp only[ahM,aaN]
 cases na<;>cases nb<;>simp[ahN,ahO,Z4]<;>omega
theorem Qv(cs:abS)(a b c:ZU):(ahG cs [[a,b,c]]).length<=1000000:=by
 simp only[ahG,YU,List.flatMap_nil,List.append_nil,Mg.iL,List.length_map,List.length_zip,Yw,aeC];omega
theorem Qs(z:Fin 7)(na nb:Bool)(c:Fin 3):∀r∈[[Px.aE z na,Px.bE z nb,Px.cE c]],∀e∈r,e.ok 2000:=by
 intro r hr e he;simp only[aaP]at hr;subst hr;have hz:=z.isLt;have hl:=oD z;simp only[aeQ,afA,or_false]at he;rcases he with rfl|rfl|rfl
 · cases na
   · show-9223372036854775808<=(z.val:Int)-3/\(z.val:Int)-3<=9223372036854775807;omega
   trivial
 · cases nb
   · show(ahL z).length<=2000;omega
   trivial
 match c with
 |0=>trivial
 |1=>trivial
 |2=>trivial
theorem KG(ao:Option Addr)(n c:Nat)(w:Y4)(hn:n<=aaV)(he:jJ w)(hed:Av w)(hI:GX w ao n):
   aaT Zc 8 #[Yp ao n c] w fun x w'=>aaS w.heap.size w w'/\∃b p ge ce M nx F R,x=Yl (Yn #[Ym (Y2 ⟨b,0,Y1⟩),Yg Yh ((M.length:Nat):Int),.bool true])/\M.length<=60/\SE w w' b p ge ce M nx F R:=by
 have HEP:=hd he;have HED:=hd hed;have HI:=hd hI
 have HB0:Yf (aaS w.heap.size w (w.alloc (.cells (Jf 0 (Yp Y1 0 0) 0) 70))):=by show aaS _ _ _;go_grown
 have HKB:=hd (ae.new w (Jf 0 (Yp Y1 0 0) 0) 70)
 have hsz0:(w.alloc (.cells (Jf 0 (Yp Y1 0 0) 0) 70)).heap.size=w.heap.size+1:=by simp
 go_enter Tryz.func8,Tryz.ntmps8;go_wp2_with fail;refine(Q0 _).mono ?_;rintro x w1 ⟨rfl,rfl⟩;generalize (w.alloc (.cells (Jf 0 (Yp Y1 0 0) 0) 70))=V at*;go_wp2_with fail;refine(QH w.heap.size V (HEP.o.below HB0.o) HKB.o [116] Px.bX ⟨Px.Tk.toArray⟩ Px.Kz (by simp[ByteArray.size,Px.Tk,aaV]) Mg.Ov (by decide)).mono ?_;rintro x w2 ⟨rfl,hT,p,ge,ce,R,hS,h1,h2,h3⟩;have HB2:Yf (aaS w.heap.size w w2):=⟨hT.os.trans HB0.o.os,hT.tape.trans HB0.o.tape,hT.output.trans HB0.o.output,by have:=hT.size;omega,fun k hk=>(hT.block k (by omega) (by simp;omega)).trans (HB0.o.block k hk)⟩;have HS2:=hd hS;have HLW:Yf (w.heap.size<p/\w.heap.size<ge/\∀g∈R,w.heap.size<g):=⟨by omega,by omega,fun g hg=>by have:=h3 g hg;omega⟩;go_wp2_with fail
 have hmx:100000<=aaV:=by decide
 have HB3:Yf (aaS w2.heap.size w2 (w2.alloc (Yk #[Yg Yh 0,Yp Y1 0 0,Yg Yh 0] 29))):=by show aaS _ _ _;go_grown
 go_loopw [8,9] (fun nv iv wr=>∃(k:Nat) (M:aN) (nx:Int) (F R:List Nat),nv=Yg Yh k/\iv=Yg Yh k/\k<=n/\k<=60/\Yf (M.length=k/\nx=k)/\Yf (aaS w.heap.size w wr)/\Yf (SE w wr w.heap.size p ge ce M nx F R)) (fun _ iv _=>n-(aeJ iv).toNat)
 case atStart=>exact⟨0,[],0,[],R,rfl,rfl,aeR _,aeR _,⟨rfl,rfl⟩,HB2.o.trans (HB3.o.mono HB2.o.size),HS2.o.below HB3.o,fun m hm=>by simp at hm,fun g hg=>by
  have hl:=HLW.o;simp only[YK,aeQ]at hg;rcases hg with rfl|rfl|rfl|hg
  · omega
  · omega
  · omega
  have:=hl.2.2 g hg;omega⟩
 case round=>
  obtain⟨k,M,nx,F,R,rfl,rfl,hk,UH,HM,HB,HG⟩:=hrel;by_cases h60:k<60
  · by_cases hlt:k<n
    · obtain⟨g,off,z,hao,hg,hcell,hz1,hz2⟩:=HI.o k hlt;have d0:=(HB.o.cell (p:=⟨g,off+k,Y1⟩) hg).trans hcell;have hg2:=nlA hg HB.o.size;subst hao;have XN:=hd (HED.o.below HB.o);go_wp2_with fail;refine(RI z hz1 hz2 wr XN.o).mono ?_;rintro x w3 ⟨⟨rz,na,nb,rc,rfl⟩,hb3⟩;have HS3:=hd (HG.o.sto.below hb3);have HBB:=hd (HB.o.trans (hb3.mono HB.o.size));have XF:=hd (HEP.o.below HBB.o);have hrt:(⟨(ahM rz na nb rc).toArray⟩:ByteArray).size<=100:=PS rz na nb rc;have HTX:Yf ((⟨(ahM rz na nb rc).toArray⟩:ByteArray).data.toList=ahM rz na nb rc):=rfl;generalize (⟨(ahM rz na nb rc).toArray⟩:ByteArray)=S at*;go_wp2_with fail
      have HIN:=hd (Sb [[Px.aE rz na,Px.bE rz nb,Px.cE rc]] ((⟨Px.Qb.toArray⟩:ByteArray)++S++(⟨#[41]⟩:ByteArray)) (by
          have h:=Px.LH rz na nb rc
          have e:((⟨Px.Qb.toArray⟩:ByteArray)++S++(⟨#[41]⟩:ByteArray)).data.toList=Px.Qm rz na nb rc:=by simp[Px.Qm,HTX.o]
          rw[e];exact h) (by rw[ahS,ahS];show 22+S.size+1<=aaV;omega) XF.o HS3.o (by simp) (fun cs=>Qv cs _ _ _) (by simp) (Qs rz na nb rc) (by have:=HM.o.2;simp;omega) [Mg.oz rz na nb rc] (Mg.QQ _ (by have:=HM.o.1;omega) rz na nb rc) (HS3.o.ok.more _ (by simp;exact Mg.Ky rz na nb rc) (by have:=HM.o.1;simp;omega)))
      refine HIN.o.mono ?_;rintro x w4 ⟨rfl,hT4,F4,R4,hS4,hsub⟩
      have HLO:Yf (∀g∈w.heap.size::ge::p::(F4++R4),w.heap.size<=g):=fun g hg=>by
       have hs3:=HBB.o.size;simp only[aeQ]at hg;rcases hg with h|h|h|h
       · exact HG.o.low g (by simp[h])
       · exact HG.o.low g (by simp[h])
       · exact HG.o.low g (by simp[h])
       rcases hsub g h with h|h
       · exact HG.o.low g (by simp only[aeQ];exact .inr (.inr (.inr h)))
       omega
      have HB4:Yf (aaS w.heap.size w w4):=⟨hT4.os.trans HBB.o.os,hT4.tape.trans HBB.o.tape,hT4.output.trans HBB.o.output,YB HBB.o.size hT4.size,fun j hj=>(hT4.block j (by have:=HBB.o.size;omega) (fun hm=>by
       have:=HG.o.low j (by simp only[aeQ,YW]at hm⊢;rcases hm with h|h|h;exact .inl h;exact .inr (.inr (.inl h));exact .inr (.inr (.inr (.inl h))))
       omega)).trans (HBB.o.block j hj)⟩
      have HS4:=hd hS4;have hvl:((([Mg.oz rz na nb rc]:List (List abZ)).length:Nat):Int)=1:=rfl;simp only[List.length_singleton]at*
      have HW5:Yf (aaS w4.heap.size w4 (w4.alloc (Yk #[Yg Yh 0,Yp Y1 0 0,Yg Yh 1] 29))):=by show aaS _ _ _;go_grown
      go_wp2_with fail;go_roundw
      case rel=>exact⟨k+1,M++fu nx [Mg.oz rz na nb rc],nx+1,F4,R4,rfl,rfl,by omega,by omega,⟨by simp[fu,HM.o.1],by have:=HM.o.2;omega⟩,HB4.o.trans (HW5.o.mono HB4.o.size),HS4.o.below HW5.o,fun m hm=>by
       rcases List.mem_append.1 hm with h|h
       · exact HG.o.rows m h
       simp[fu]at h;subst h
       exact⟨rz,na,nb,rc,rfl⟩,HLO.o⟩
      case measure=>simp[aeJ];omega
    have hkn:k=n:=by omega
    go_wp2_with fail;refine⟨rfl,Yn #[Ym (Y2 ⟨w.heap.size,0,Y1⟩),Yg Yh (k:Nat),.bool true],by simp[aaW,ahT,go_sem],?_⟩;exact⟨HB.o,w.heap.size,p,ge,ce,M,nx,F,R,by rw[HM.o.1],by rw[HM.o.1];exact UH,HG.o⟩
  go_wp2_with fail
  all_goals
   refine⟨rfl,Yn #[Ym (Y2 ⟨w.heap.size,0,Y1⟩),Yg Yh (k:Nat),.bool true],by simp[aaW,ahT,go_sem],?_⟩;exact⟨HB.o,w.heap.size,p,ge,ce,M,nx,F,R,by rw[HM.o.1],by rw[HM.o.1];exact UH,HG.o⟩
end Kp
end
section
namespace Kp
open Tx Tb Tw Bt
theorem Pd(r:List abZ)(h:Mg.Ic r):∃v,Mg.vals Px.bX r [Px.nA]=.ok [v]:=by
 obtain⟨z,na,nb,c,rfl⟩:=h;exact⟨_,rfl⟩
theorem LP{os:List (ZU×Bool)}{fs xs:List (List abZ×List abZ)}(h:So.eP (fun a b=>decide (Mg.Aa (os.map agU) a b<0)) fs xs)(h1:∀x∈fs,x.1.length=1):(xs.flatMap agx).length=fs.length:=by
 have hx:∀x∈xs,x.1.length=1:=fun x hx=>h1 x (h.perm.mem_iff.1 hx)
 rw[<-h.perm.length_eq];clear h h1
 induction xs with
 |nil=>rfl
 |cons a l ih=>
  rw[YU,aaN,hx a (by simp),ih fun x hx2=>hx x (by simp[hx2])];simp;omega
theorem lG(h:aaS w.heap.size w W)(hT:ax [b] W W')(hb:w.heap.size<=b):aaS w.heap.size w W':=
 ⟨hT.os.trans h.os,hT.tape.trans h.tape,hT.output.trans h.output,YB h.size hT.size,fun k hk=>(hT.block k (nlA hk h.size) (by simp;omega)).trans (h.block k hk)⟩
end Kp
end
end Go.Proofs.YthhhfcdakfbpkaaGreatDoor
