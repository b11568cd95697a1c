/- Parts of the proof -/
import Derived.Test.YthhhfcdakfbpkaaGreatDoorU7
import Derived.Shelf.RegionOpenPlain
import Derived.Lib.Overlaps
import Derived.Lib.AppendZerosOnto
import Derived.Lib.JoinLaws
import Derived.Laws.NewBlocks
import Derived.Laws.IdiomCopy
import Derived.Deep.AppendLies
open Go.Value renaming int -> Yg, agg -> Yj, pointer -> Ym, tuple -> Yn, slice -> Yp, ownBlock -> aaR
open Go.IntKind renaming i64 -> Yh
open Go.Obj renaming cells -> Yk
open Go.Ending renaming returned -> Yl
open Go.Addr renaming add_lit -> Zn
open List renaming getElem?_take -> afo, size_toArray -> afe, length_append -> aaN, length_take -> adO, length_drop -> Yv, take_zero -> afH, length_cons -> Yw, drop_of_length_le -> aer, getElem_of_mem -> aeg, take_append_of_le_length -> aff, take_take -> afg, take_length -> afI, eraseIdx_eq_take_drop_succ -> afJ, append_nil -> aaK, mem_of_mem_drop -> ZP, mem_of_getElem? -> afx, length_eraseIdx_of_lt -> afK, nil_append -> YK, take_left' -> afN, drop_zero -> ads, mem_append -> YW, mem_cons -> aeQ, not_mem_nil -> afA, take_set -> aep, mem_singleton -> aaP
open Array renaming length_toList -> afc, toList_setIfInBounds -> aeo, getElem_toList -> aeZ, getElem_map -> afa, getElem_range -> afb, size_append -> afU, getElem?_eq_getElem -> aga
open Go.Proofs.Tryz renaming prog -> Zc, underlying121 -> aeX, underlying122 -> aeY, func204 -> afR, ntmps204 -> afS, underlying3 -> afT, func208 -> afW, ntmps208 -> afX
open Nat renaming min_self -> afh, min_eq_left -> adP, mul_one -> afL, min -> afM, le_trans -> YB, zero_add -> Ze, min_eq_right -> afP, le_of_lt -> afV, lt_or_ge -> aeW, zero_le -> aeR
open Go.Act renaming eval -> afk, put -> afl
open Go.World renaming size_alloc -> ZC, shape? -> afO, cell?_setCells_out -> afQ, drew -> abA, alloc -> afZ
open Go.RowKit.Below renaming heap_setCell -> Zb
open Ne renaming symm -> afY
open Option renaming none -> Y1, some -> Y2
open Go renaming Value -> Y3, World -> Y4, TypeId -> Y5, Calls -> aaT, maxLen -> aaV, info_parts -> aaX, Addr -> abR
open Go.RowKit renaming Below -> aaS
namespace Go.Proofs.YthhhfcdakfbpkaaGreatDoor
set_option linter.unusedSimpArgs false
set_option linter.unusedVariables false
set_option maxRecDepth 100000
set_option maxHeartbeats 16000000
open Go.RowKit
variable {w w2 w3:Y4}{b cp1 cp2 g ge gh gk gl hb j lb n nl:Nat}{cur:Array Y3}{T:Y5}{xs:List Y3}{vkl:Y3}
namespace Bt
theorem jU(hg:w.heap[g]? =Y2 (.cells cur T (0,0)))(o n:Nat):∀j u,((cur.toList.drop o).take n)[j]? =Y2 u->w.cell? ((⟨g,o,Y1⟩:abR).add j)=Y2 u:=by
 intro j u hu;rw[Zn]
 have h2:cur[o+j]? =Y2 u:=by
  rw[afo]at hu
  split at hu
  · rwa [List.getElem?_drop,Array.getElem?_toList]at hu
  cases hu
 exact((show ae w g cur T from hg).cell (o+j)).trans h2
def lay(cur:Array Y3)(o:Nat)(vs:List Y3):Array Y3:=(cur.toList.take o++vs++cur.toList.drop (o+vs.length)).toArray
theorem lay_size{o:Nat}{vs:List Y3}(h:o+vs.length<=cur.size):(lay cur o vs).size=cur.size:=by
 simp only[lay,afe,aaN,adO,Yv,afc];omega
theorem dn:∀(vs:List Y3) (o:Nat) (w:Y4) (cur:Array Y3),w.heap[g]? =Y2 (.cells cur T (0,0))->o+vs.length<=cur.size->(w.setCells g o vs).heap[g]? =Y2 (.cells (lay cur o vs) T (0,0))
 |[],o,w,cur,hg,h=>by simpa[World.setCells,lay]using hg
 |v::vs,o,w,cur,hg,h=>by
  have hb:ae (w.setCell ⟨g,o,Y1⟩ v) g (cur.setIfInBounds o v) T:=(show ae w g cur T from hg).set o v;have:=dn vs (o+1) _ _ hb (by simp at h⊢;omega)
  have e:lay (cur.setIfInBounds o v) (o+1) vs=lay cur o (v::vs):=by
   have ho:o<cur.toList.length:=by simp at h⊢;omega
   unfold lay
   congr 1
   rw[aeo,List.set_eq_take_append_cons_drop,if_pos ho]
   have h1:(cur.toList.take o).length=o:=by rw[adO];omega
   rw[List.take_append,List.drop_append,h1];simp only[show o+1-o=1 by omega,show o+1+vs.length-o=vs.length+1 by omega,List.take_succ_cons,afH,List.drop_succ_cons,List.drop_drop,Yw];rw[List.take_of_length_le (by omega),aer (by omega)];simp[show o+1+vs.length=o+(vs.length+1) by omega]
  rw[e]at this;exact this
theorem iY:∀(vs:List Y3) (o:Nat) (w:Y4),ax [g] w (w.setCells g o vs)
 |[],o,w=>ax.refl _ _
 |v::vs,o,w=>((ax.refl [g] w).set ⟨g,o,Y1⟩ v (.inl (by simp))).trans (iY vs (o+1) _) (fun _ h=> .inl h)
theorem Jh(gv n cap i:Nat)(cur:Array Y3)(w:Y4)(hn:n<=1000000)(hg:w.heap[gv]? =Y2 (.cells cur 265 (0,0)))(hcs:cur.size=cap*2)(hnc:n<=cap)(hi:i+1<n)(h1:∀u∈(cur.toList.drop ((i+1)*2)).take ((n-(i+1))*2),u.oneCell'=true):
   aaT Zc 264 #[Yp (Y2 ⟨gv,0,Y1⟩) n cap,Yg Yh i,Yg Yh ((i+1:Nat):Int)] w fun x w'=>x=Yl (Yp (Y2 ⟨gv,0,Y1⟩) (n-1) cap)/\ax [gv] w w'/\∃cur',w'.heap[gv]? =Y2 (.cells cur' 265 (0,0))/\cur'.size=cap*2/\cur'.toList.take ((n-1)*2)=cur.toList.take (i*2)++(cur.toList.drop ((i+1)*2)).take ((n-(i+1))*2):=by
 obtain⟨i0,hi0,hz0,hz1,hz2⟩:=aaX Ti.Tryz.info265;have HG:=hd hg;have HCS:=hd hcs;have hlt:=(geA.1 hg).1;obtain⟨j,hj⟩:∃j,i+1=j:=⟨_,rfl⟩;obtain⟨m,hm⟩:∃m,n-1=m:=⟨_,rfl⟩;rw[hj,hm];rw[hj]at h1
 have j1:(i:Int)<(n:Int):=by omega
 have j2:(n:Int)<=(cap:Int):=by omega
 have j3:(i:Int)<=(cap:Int):=by omega
 have j4:(i:Int)<=(j:Int):=by omega
 have j5:(j:Int)<=(n:Int):=by omega
 have hne:((i:Int)==(j:Int))=false:=by simp;omega
 have HJ:Yf (i+1=j/\n-1=m/\j<n):=⟨hj,hm,by omega⟩
 have hjn:j<n:=by omega
 have hl0:((cur.toList.drop (j*2)).take ((n-j)*2)).length=(n-j)*2:=by
  rw[adO,Yv,afc,hcs];omega
 obtain⟨L,hL⟩:∃L,(cur.toList.drop (j*2)).take ((n-j)*2)=L:=⟨_,rfl⟩;rw[hL]at hl0⊢;have HL:=hd hL
 have HC:Yf (∀k u,L[k]? =Y2 u->w.drew.cell? ((⟨gv,j*2,Y1⟩:abR).add k)=Y2 u):=fun k u hu=>jU (w:=w.drew) hg (j*2) ((n-j)*2) k u (by rw[hL];exact hu)
 have HO:Yf (∀u∈L,u.oneCell'=true):=fun u hu=>h1 u (by rw[hL];exact hu)
 have HZV:Yf (∀w,(zeroValue 265).run Zc w=.ok (Yj #[Yg Yh 0,Yp Y1 0 0]) w):=fun w=>by simp[zeroValue,typeInfo,hi0,hz0]
 have HLB:=hd (dn L (i*2) w.drew cur HG.o (by have:=HCS.o;have:=HJ.o;omega));have HLS:Yf ((lay cur (i*2) L).size=cap*2):=(lay_size (by have:=HCS.o;have:=HJ.o;omega)).trans HCS.o
 have HZ1:Yf (∀v∈(Builtin.zeroCells (Yj #[Yg Yh 0,Yp Y1 0 0]).cells (n-m)).toList,v.oneCell'=true):=by
  show∀v∈_,_;intro v hv;have hz:=aeg hv;obtain⟨k,hk,rfl⟩:=hz;simp only[Builtin.zeroCells,aeZ,afa,afb];show((#[Yg Yh 0,Yp Y1 0 0]:Array Y3)[k%2]!).oneCell'=true
  have:k%2=0\/k%2=1:=by omega
  rcases this with h|h<;>rw[h]<;>rfl
 have HZ2:Yf (m*2+(Builtin.zeroCells (Yj #[Yg Yh 0,Yp Y1 0 0]).cells (n-m)).toList.length<=(lay cur (i*2) L).size):=by
  show _<=_;rw[afc,size_zeroCells,HLS.o];show m*2+(n-m)*2<=cap*2;have:=HJ.o;omega
 obtain⟨W',hcl,hT⟩:∃W',(Builtin.clear_ #[121] 0 #[Yp (Y2 ⟨gv,m*2,Y1⟩) (n-m) (cap-m)]).run Zc (w.drew.setCells gv (i*2) L)=.ok (Yn #[]) W'/\ax [gv] w W'/\∃cur':Array Y3,W'.heap[gv]? =Y2 (.cells cur' 265 (0,0))/\cur'.size=cap*2/\cur'.toList.take (m*2)=cur.toList.take (i*2)++L:=by
  refine⟨_,jm (P:=Zc) (w.drew.setCells gv (i*2) L) 121 265 0 _ aeX HZV.o gv (m*2) (n-m) (cap-m) _ 265 HLB.o (by have:=HJ.o;omega) _ rfl HZ1.o HZ2.o,?_,_,setRow_heap _ _ _ _ _ _ HLB.o,?_,?_⟩
  · have h0:=(iY (g:=gv) L (i*2) w.drew).bW;refine⟨h0.os,h0.tape,h0.output,?_,fun k hk hF=> ?_⟩
    · rw[setRow_size];exact h0.size
    rw[setRow_other _ _ _ _ (fun e=>hF (by simp[e]))];exact h0.block k hk hF
  · have h2:=HZ2.o;have h3:=HLS.o;simp only[afe,aaN,adO,Yv,afc]at h2⊢;omega
  have h2:=HZ2.o;have h3:=HLS.o;have h4:=HCS.o;have h5:=HJ.o;simp only[afc]at h2;rw[laa,aff (by rw[adO,afc];omega),afg,afh]
  have h6:(cur.toList.take (i*2)++L).length=m*2:=by rw[aaN,adO,afc,hl0,h4];omega
  unfold lay;rw[aff (by omega),<-h6,afI]
 have HCL:=hd hcl;have HT:=hd hT;clear hcl hT
 have e1:i+(n-j)=m:=by have:=HJ.o;omega
 have HSP:Yf (∀k,k<L.length->(w.drew.cell? ⟨gv,0+i*2+k,Y1⟩).isSome=true/\w.drew.frozen? ⟨gv,0+i*2+k,Y1⟩=false):=fun k hk=>by
  have hb:ae w.drew gv cur 265:=HG.o;have:=HCS.o;have:=HJ.o
  have hlt:0+i*2+k<cur.size:=by omega
  rw[hb.cell,hb.free];simp;omega
 have j6:(m:Int)<=(n:Int):=by have:=HJ.o;omega
 have hcj:¬cap=j:=by omega
 have hcm:¬cap=m:=by have:=HJ.o;omega
 go_enter Tryz.func264,Tryz.ntmps264;go_wp2_with fail
 go_region_law (refine step_append_room rfl (.tmp 22) (.tmp 25) 121 rfl 265 i0 2 aeX hi0 hz1 gv 0 i cap (by simp[afk,afl]) ⟨gv,j*2,Y1⟩ (n-j) (cap-j) L (by simp[afk,afl,hcj];try omega) hl0 HC.o HO.o (by omega) HSP.o ?_)
 all_goals
  go_wp2_with fail;rw[HCL.o];go_wp2_with fail;go_ret;exact⟨rfl,HT.o⟩
theorem R6{L:List (Y3×Y3)}{i:Nat}(hi:i<L.length):ah (L.eraseIdx i)=(ah L).take (i*2)++((ah L).drop ((i+1)*2)):=by
 rw[afJ,gy,rf,qL]
theorem Ka(h:cur.toList.take n=xs)(a b:Nat)(hb:a+b=n):(cur.toList.drop a).take b=xs.drop a:=by
 rw[<-h,List.drop_take]
 congr 1
 omega
theorem tZ(h:cur.toList.take n=xs)(a:Nat)(ha:a<=n):cur.toList.take a=xs.take a:=by
 rw[<-h,afg,adP ha]
theorem I6(gv cap i:Nat)(L:List (Y3×Y3))(cur:Array Y3)(w:Y4)(hn:L.length<=1000000)(hg:w.heap[gv]? =Y2 (.cells cur 265 (0,0)))(hcs:cur.size=cap*2)(hnc:L.length<=cap)(hi:i<L.length)(hL:cur.toList.take (L.length*2)=ah L)(h1:∀u∈ah L,u.oneCell'=true):
   aaT Zc 264 #[Yp (Y2 ⟨gv,0,Y1⟩) L.length cap,Yg Yh i,Yg Yh ((i+1:Nat):Int)] w fun x w'=>x=Yl (Yp (Y2 ⟨gv,0,Y1⟩) (L.length-1) cap)/\ax [gv] w w'/\∃cur',w'.heap[gv]? =Y2 (.cells cur' 265 (0,0))/\cur'.size=cap*2/\cur'.toList.take ((L.length-1)*2)=ah (L.eraseIdx i):=by
 rw[R6 hi];rcases(show i+1=L.length\/i+1<L.length by omega)with he|hlt
 · have:=om gv L.length cap i cur w hn hg hcs hnc hi;rw[he];refine this.mono ?_;rintro x w' ⟨rfl,ht,cur',h2,h3,h4⟩;rw[show L.length-1=i by omega];refine⟨rfl,ht,cur',h2,h3,?_⟩;rw[h4,aer (by rw[fe];omega),aaK,tZ hL (i*2) (by omega)]
 have hd2:=Ka hL ((i+1)*2) ((L.length-(i+1))*2) (by omega);refine(Jh gv L.length cap i cur w hn hg hcs hnc hlt (by rw[hd2];exact fun u hu=>h1 u (ZP hu))).mono ?_;rintro x w' ⟨rfl,ht,cur',h2,h3,h4⟩;refine⟨rfl,ht,cur',h2,h3,?_⟩;rw[h4,hd2,tZ hL (i*2) (by omega)]
end Bt
namespace Bt
theorem Ar(gv n cap i:Nat)(cur:Array Y3)(w:Y4)(hn:n<=1000000)(hg:w.heap[gv]? =Y2 (.cells cur 266 (0,0)))(hcs:cur.size=cap)(hnc:n<=cap)(hi:i+1<n)(h1:∀u∈(cur.toList.drop ((i+1))).take ((n-(i+1))),u.oneCell'=true):
   aaT Zc 266 #[Yp (Y2 ⟨gv,0,Y1⟩) n cap,Yg Yh i,Yg Yh ((i+1:Nat):Int)] w fun x w'=>x=Yl (Yp (Y2 ⟨gv,0,Y1⟩) (n-1) cap)/\ax [gv] w w'/\∃cur',w'.heap[gv]? =Y2 (.cells cur' 266 (0,0))/\cur'.size=cap/\cur'.toList.take ((n-1))=cur.toList.take (i)++(cur.toList.drop ((i+1))).take ((n-(i+1))):=by
 obtain⟨i0,hi0,hz0,hz1,hz2⟩:=aaX Tryz.info266;have HG:=hd hg;have HCS:=hd hcs;have hlt:=(geA.1 hg).1;obtain⟨j,hj⟩:∃j,i+1=j:=⟨_,rfl⟩;obtain⟨m,hm⟩:∃m,n-1=m:=⟨_,rfl⟩;rw[hj,hm];rw[hj]at h1
 have j1:(i:Int)<(n:Int):=by omega
 have j2:(n:Int)<=(cap:Int):=by omega
 have j3:(i:Int)<=(cap:Int):=by omega
 have j4:(i:Int)<=(j:Int):=by omega
 have j5:(j:Int)<=(n:Int):=by omega
 have hne:((i:Int)==(j:Int))=false:=by simp;omega
 have HJ:Yf (i+1=j/\n-1=m/\j<n):=⟨hj,hm,by omega⟩
 have hjn:j<n:=by omega
 have hl0:((cur.toList.drop (j)).take ((n-j))).length=(n-j):=by
  rw[adO,Yv,afc,hcs];omega
 obtain⟨L,hL⟩:∃L,(cur.toList.drop (j)).take ((n-j))=L:=⟨_,rfl⟩;rw[hL]at hl0⊢;have HL:=hd hL
 have HC:Yf (∀k u,L[k]? =Y2 u->w.drew.cell? ((⟨gv,j,Y1⟩:abR).add k)=Y2 u):=fun k u hu=>jU (w:=w.drew) hg (j) ((n-j)) k u (by rw[hL];exact hu)
 have HO:Yf (∀u∈L,u.oneCell'=true):=fun u hu=>h1 u (by rw[hL];exact hu)
 have HZV:Yf (∀w,(zeroValue 266).run Zc w=.ok (.pointer Y1) w):=fun w=>by simp[zeroValue,typeInfo,hi0,hz0]
 have HLB:=hd (dn L (i) w.drew cur HG.o (by have:=HCS.o;have:=HJ.o;omega));have HLS:Yf ((lay cur (i) L).size=cap):=(lay_size (by have:=HCS.o;have:=HJ.o;omega)).trans HCS.o
 have HZ1:Yf (∀v∈(Builtin.zeroCells (Ym Y1).cells (n-m)).toList,v.oneCell'=true):=by
  show∀v∈_,_;intro v hv;have hz:=aeg hv;obtain⟨k,hk,rfl⟩:=hz;simp only[Builtin.zeroCells,aeZ,afa,afb];show((#[.pointer Y1]:Array Y3)[k%1]!).oneCell'=true;rw[Nat.mod_one];rfl
 have HZ2:Yf (m+(Builtin.zeroCells (Ym Y1).cells (n-m)).toList.length<=(lay cur (i) L).size):=by
  show _<=_;rw[afc,size_zeroCells,HLS.o];show m+(n-m)*1<=cap;have:=HJ.o;omega
 obtain⟨W',hcl,hT⟩:∃W',(Builtin.clear_ #[122] 0 #[Yp (Y2 ⟨gv,m,Y1⟩) (n-m) (cap-m)]).run Zc (w.drew.setCells gv (i) L)=.ok (Yn #[]) W'/\ax [gv] w W'/\∃cur':Array Y3,W'.heap[gv]? =Y2 (.cells cur' 266 (0,0))/\cur'.size=cap/\cur'.toList.take (m)=cur.toList.take (i)++L:=by
  refine⟨_,jm (P:=Zc) (w.drew.setCells gv (i) L) 122 266 0 _ aeY HZV.o gv (m) (n-m) (cap-m) _ 266 HLB.o (by have:=HJ.o;omega) _ rfl HZ1.o HZ2.o,?_,_,setRow_heap _ _ _ _ _ _ HLB.o,?_,?_⟩
  · have h0:=(iY (g:=gv) L (i) w.drew).bW;refine⟨h0.os,h0.tape,h0.output,?_,fun k hk hF=> ?_⟩
    · rw[setRow_size];exact h0.size
    rw[setRow_other _ _ _ _ (fun e=>hF (by simp[e]))];exact h0.block k hk hF
  · have h2:=HZ2.o;have h3:=HLS.o;simp only[afe,aaN,adO,Yv,afc]at h2⊢;omega
  have h2:=HZ2.o;have h3:=HLS.o;have h4:=HCS.o;have h5:=HJ.o;simp only[afc]at h2;rw[laa,aff (by rw[adO,afc];omega),afg,afh]
  have h6:(cur.toList.take (i)++L).length=m:=by rw[aaN,adO,afc,hl0,h4];omega
  unfold lay;rw[aff (by omega),<-h6,afI]
 have HCL:=hd hcl;have HT:=hd hT;clear hcl hT
 have e1:i+(n-j)=m:=by have:=HJ.o;omega
 have HSP:Yf (∀k,k<L.length->(w.drew.cell? ⟨gv,0+i*1+k,Y1⟩).isSome=true/\w.drew.frozen? ⟨gv,0+i*1+k,Y1⟩=false):=fun k hk=>by
  have hb:ae w.drew gv cur 266:=HG.o;have:=HCS.o;have:=HJ.o
  have hlt:0+i*1+k<cur.size:=by omega
  rw[hb.cell,hb.free];simp;omega
 have j6:(m:Int)<=(n:Int):=by have:=HJ.o;omega
 have hcj:¬cap=j:=by omega
 have hcm:¬cap=m:=by have:=HJ.o;omega
 go_enter Tryz.func266,Tryz.ntmps266;go_wp2_with fail
 go_region_law (refine step_append_room rfl (.tmp 22) (.tmp 25) 122 rfl 266 i0 1 aeY hi0 hz1 gv 0 i cap (by simp[afk,afl]) ⟨gv,j,Y1⟩ (n-j) (cap-j) L (by simp[afk,afl,hcj];try omega) (by rw[hl0];omega) HC.o HO.o (by omega) HSP.o ?_)
 all_goals
  go_wp2_with fail;rw[HCL.o];go_wp2_with fail;go_ret;exact⟨rfl,HT.o⟩
theorem Af(gv cap i:Nat)(L:List Y3)(cur:Array Y3)(w:Y4)(hn:L.length<=1000000)(hg:w.heap[gv]? =Y2 (.cells cur 266 (0,0)))(hcs:cur.size=cap)(hnc:L.length<=cap)(hi:i<L.length)(hL:cur.toList.take L.length=L)(h1:∀u∈L,u.oneCell'=true):
   aaT Zc 266 #[Yp (Y2 ⟨gv,0,Y1⟩) L.length cap,Yg Yh i,Yg Yh ((i+1:Nat):Int)] w fun x w'=>x=Yl (Yp (Y2 ⟨gv,0,Y1⟩) (L.length-1) cap)/\ax [gv] w w'/\∃cur',w'.heap[gv]? =Y2 (.cells cur' 266 (0,0))/\cur'.size=cap/\cur'.toList.take (L.length-1)=L.eraseIdx i:=by
 rw[afJ];rcases(show i+1=L.length\/i+1<L.length by omega)with he|hlt
 · have:=nT gv L.length cap i cur w hn hg hcs hnc hi;rw[he];refine this.mono ?_;rintro x w' ⟨rfl,ht,cur',h2,h3,h4⟩;rw[show L.length-1=i by omega];refine⟨rfl,ht,cur',h2,h3,?_⟩;rw[h4,aer (by omega),aaK,tZ hL i (by omega)]
 have hd2:=Ka hL (i+1) (L.length-(i+1)) (by omega);refine(Ar gv L.length cap i cur w hn hg hcs hnc hlt (by rw[hd2];exact fun u hu=>h1 u (ZP hu))).mono ?_;rintro x w' ⟨rfl,ht,cur',h2,h3,h4⟩;refine⟨rfl,ht,cur',h2,h3,?_⟩;rw[h4,hd2,tZ hL i (by omega)]
end Bt
namespace Bt
theorem jC(x:Int)(h1: -2000000<=x)(h2:x<=2000000):IntKind.i64.wrap x=x:=by
 rw[IntKind.wrap_i64];omega
theorem zW(b off gv n m cap i:Nat)(z:Int)(ra:Option abR)(rn rc:Nat)(cs cur:Array Y3)(T:Y5)(w:Y4)(P:Array Y3->Prop)(hB:ae w b cs T)(h0:cs[off]? =Y2 (Yp (Y2 ⟨gv,0,Y1⟩) n cap))(hg:w.heap[gv]? =Y2 (.cells cur 265 (0,0)))(hi:i<n)(hgb:gv≠b)
   (k0:cur[i*2]? =Y2 (Yg Yh z)) (k1:cur[i*2+1]? =Y2 (Yp ra rn rc))
   (hdel:∀W,W.heap[gv]? =Y2 (.cells cur 265 (0,0))->aaT Zc 264 #[Yp (Y2 ⟨gv,0,Y1⟩) n cap,Yg Yh i,Yg Yh ((i+1:Nat):Int)] W fun x w'=>x=Yl (Yp (Y2 ⟨gv,0,Y1⟩) m cap)/\ax [gv] W w'/\∃cur',w'.heap[gv]? =Y2 (.cells cur' 265 (0,0))/\P cur') (hn:n<=1000000):
   aaT Zc 207 #[Ym (Y2 ⟨b,off,Y1⟩),Yg Yh i] w fun x w'=>x=Yl (Yj #[Yg Yh z,Yp ra rn rc])/\ax [b,gv] w w'/\ae w' b (cs.setIfInBounds off (Yp (Y2 ⟨gv,0,Y1⟩) m cap)) T/\
     ∃cur',w'.heap[gv]? =Y2 (.cells cur' 265 (0,0))/\P cur':=by
 have HB0:Yf (aaS w.heap.size w ((w.alloc (Yk #[Yg Yh 0,Yp Y1 0 0] 265)).alloc (Yk #[Yg Yh z,Yp ra rn rc] 265))):=by show aaS _ _ _;go_grown
 have HR0:=hd ((ae.new w #[Yg Yh 0,Yp Y1 0 0] 265).alloc (Yk #[Yg Yh z,Yp ra rn rc] 265));have HE0:=hd (ae.new (w.alloc (Yk #[Yg Yh 0,Yp Y1 0 0] 265)) #[Yg Yh z,Yp ra rn rc] 265);rw[ZC]at HE0;have c0:=(hB.cell off).trans h0;have hbl:=hB.lt;have hgl:=(geA.1 hg).1;have g0:=((show ae w gv cur 265 from hg).cell (i*2)).trans k0;have g1:=((show ae w gv cur 265 from hg).cell (i*2+1)).trans k1;have HB:=hd (hB.below HB0.o hbl);have HBW:=hd hB;have H0:=hd h0;have d0:=(HB.o.cell off).trans h0;have TC:=HB.o.lt;have HDL:=hd (hdel ((w.alloc (Yk #[Yg Yh 0,Yp Y1 0 0] 265)).alloc (Yk #[Yg Yh z,Yp ra rn rc] 265)) (by rw[HB0.o.block gv hgl];exact hg));obtain⟨j,hj⟩:∃j,i+1=j:=⟨_,rfl⟩;rw[hj]at HDL
 have e1:(i:Int)+1=(j:Int):=by omega
 have e2:IntKind.i64.wrap ((i:Int)+1)=(j:Int):=by rw[e1];exact jC _ (by omega) (by omega)
 have j1:(i:Int)<(n:Int):=by omega
 go_enter Tryz.func207,Tryz.ntmps207;go_wp2_with fail;refine HDL.o.mono ?_;rintro x w2 ⟨rfl,ht2,hc2⟩;have K2:=ht2.blk HB.o (by simp;omega);have R2:=ht2.blk HR0.o (by simp;omega);have E2:=ht2.blk HE0.o (by simp;omega);have p0:=(K2.cell off).trans H0.o;have f0:=K2.free off;have hl2:=K2.lt;obtain⟨q0,q1⟩:=E2.d2;obtain⟨r0,r1⟩:=R2.d2;obtain⟨fr0,fr1⟩:=R2.f2;have lr:=R2.lt;have le:=E2.lt
 have n1:b≠w.heap.size:=by omega
 have n2:b≠w.heap.size+1:=by omega
 have HT2:=hd ht2;have HC2:=hd hc2;have HK2:=hd K2;have HR2:=hd R2;have S:=((((K2.set off (Yp (Y2 ⟨gv,0,Y1⟩) m cap)).far ⟨w.heap.size,0,Y1⟩ (Yg Yh z) (by show w.heap.size≠b;omega)).far ⟨w.heap.size,1,Y1⟩ (Yp ra rn rc) (by show w.heap.size≠b;omega)));have S2:=(((R2.far ⟨b,off,Y1⟩ (Yp (Y2 ⟨gv,0,Y1⟩) m cap) (by show b≠w.heap.size;omega)).set 0 (Yg Yh z)).set 1 (Yp ra rn rc));obtain⟨s0,s1⟩:=S2.d2;have HS:=hd S;go_wp2_with fail;refine bodyPost_ret (v:=Yj #[Yg Yh z,Yp ra rn rc]) (by simp[results,Tryz.results207,go_sem,s0,s1]) rfl ?_;refine⟨rfl,?_,HS.o,?_⟩
 · exact((((ax.of (F:=[b,gv]) HB0.o).trans HT2.o (fun k hk=> .inl (by simp at hk;simp[hk]))).set ⟨b,off,Y1⟩ _ (.inl (by simp))).set ⟨w.heap.size,0,Y1⟩ _ (.inr (nlr _))).set ⟨w.heap.size,1,Y1⟩ _ (.inr (nlr _))
 obtain⟨cur',h2,h3⟩:=HC2.o;refine⟨cur',?_,h3⟩;rw[Zb _ _ _ _ (by show gv≠w.heap.size;omega),Zb _ _ _ _ (by show gv≠w.heap.size;omega),Zb _ _ _ _ (by show gv≠b;exact hgb)];exact h2
theorem cell_of(h:cur.toList.take n=xs){k:Nat}{v:Y3}(hk:xs[k]? =Y2 v):cur[k]? =Y2 v:=by
 rw[<-h,afo]at hk
 split at hk
 · simpa using hk
 cases hk
theorem jD(b off i:Nat)(ve:Y3)(L:List (Y3×Y3))(e:Y3×Y3)(cs:Array Y3)(T:Y5)(w:Y4)(hn:L.length<=1000)(hB:ae w b cs T)(h0:cs[off]? =Y2 ve)(ho:w.ownsRow 0 265 2 ve L.length (ah L))(he:L[i]? =Y2 e)(hent:∀e∈L,wO e)(hb:b∉own ve):
   aaT Zc 207 #[Ym (Y2 ⟨b,off,Y1⟩),Yg Yh i] w fun x w'=>x=Yl (Yj #[e.1,e.2])/\∃ve',own ve'=own ve/\ax (b::own ve) w w'/\ae w' b (cs.setIfInBounds off ve') T/\w'.ownsRow 0 265 2 ve' (L.length-1) (ah (L.eraseIdx i)):=by
 obtain⟨hi,hel⟩:=List.getElem?_eq_some_iff.1 he;obtain⟨gv,cap,cur,rfl,hg,hnc,hcm,hcs,htk⟩:=aA ho (by omega);obtain⟨z,ra,rn,rc,rfl⟩:=hent e (afx he);have k0:=fo L i hi;have k1:=eZ L i hi;rw[hel]at k0 k1
 have hgb:gv≠b:=fun e=>hb (by simp[own,aaR,e])
 refine(zW b off gv L.length (L.length-1) cap i z ra rn rc cs cur T w (fun cur'=>cur'.size=cap*2/\cur'.toList.take ((L.length-1)*2)=ah (L.eraseIdx i)) hB h0 hg hi hgb (cell_of htk k0) (cell_of htk k1) (fun W hW=>I6 gv cap i L cur W (by omega) hW hcs hnc hi htk (jW hent)) (by omega)).mono ?_;rintro x w' ⟨rfl,ht,hb',cur',h2,h3,h4⟩;refine⟨rfl,Yp (Y2 ⟨gv,0,Y1⟩) (L.length-1) cap,rfl,ht,hb',gY h2 ?_ (by omega) hcm h3 h4⟩;rw[fe,afK hi]
theorem oo(b off i:Nat)(vk:Y3)(L:List Y3)(kb:Nat)(cs:Array Y3)(T:Y5)(w:Y4)(hn:L.length<=1000)(hB:ae w b cs T)(h0:cs[off]? =Y2 vk)(ho:w.ownsRow 0 266 1 vk L.length L)(he:L[i]? =Y2 (Ym (Y2 ⟨kb,0,Y1⟩)))(h1:∀u∈L,u.oneCell'=true)(hb:b∉own vk):
   aaT Zc 320 #[Ym (Y2 ⟨b,off,Y1⟩),Yg Yh i] w fun x w'=>x=Yl (Ym (Y2 ⟨kb,0,Y1⟩))/\∃vk',own vk'=own vk/\ax (b::own vk) w w'/\ae w' b (cs.setIfInBounds off vk') T/\w'.ownsRow 0 266 1 vk' (L.length-1) (L.eraseIdx i):=by
 obtain⟨hi,hel⟩:=List.getElem?_eq_some_iff.1 he;obtain⟨gv,cap,cur,rfl,hg,hnc,hcm,hcs,htk⟩:=aA ho (by omega);rw[afL]at hcs htk
 have hgb:gv≠b:=fun e=>hb (by simp[own,aaR,e])
 have k0:=cell_of htk he;have c0:=(hB.cell off).trans h0;have hbl:=hB.lt;have hgl:=(geA.1 hg).1;have g0:=((show ae w gv cur 266 from hg).cell i).trans k0;have HB:=hd hB;have H0:=hd h0;have HDL:=hd (Af gv cap i L cur w (by omega) hg hcs hnc hi htk h1);obtain⟨j,hj⟩:∃j,i+1=j:=⟨_,rfl⟩;rw[hj]at HDL
 have e2:IntKind.i64.wrap ((i:Int)+1)=(j:Int):=by rw[show(i:Int)+1=(j:Int) by omega];exact jC _ (by omega) (by omega)
 have HLE:=hd (afK hi);obtain⟨n,hn'⟩:∃n,L.length=n:=⟨_,rfl⟩;obtain⟨m,hm⟩:∃m,L.length-1=m:=⟨_,rfl⟩;rw[hm]at HDL HLE;rw[hm];rw[hn']at HDL c0 H0 hi hnc
 have hmc:m<=cap:=by omega
 have j1:(i:Int)<(n:Int):=by omega
 generalize L.eraseIdx i=L' at*;go_enter Tryz.func320,Tryz.ntmps320;go_wp2_with fail;refine HDL.o.mono ?_;rintro x w2 ⟨rfl,ht2,hc2⟩;have K2:=ht2.blk HB.o (by simp;omega);have p0:=(K2.cell off).trans H0.o;have f0:=K2.free off;have hl2:=K2.lt;have HT2:=hd ht2;have HC2:=hd hc2;have HS:=hd (K2.set off (Yp (Y2 ⟨gv,0,Y1⟩) m cap));go_wp2_with fail;go_ret;refine⟨rfl,Yp (Y2 ⟨gv,0,Y1⟩) m cap,rfl,((HT2.o.more (G:=[b,gv]) (fun k hk=>by simp at hk;simp[hk])).set ⟨b,off,Y1⟩ _ (.inl (by simp))),HS.o,?_⟩;obtain⟨cur',h2,h3,h4⟩:=HC2.o;refine gY (cur:=cur') ?_ (by rw[afL];exact HLE.o) hmc hcm (by rw[afL];exact h3) (by rw[afL];exact h4);rw[Zb _ _ _ _ (by show gv≠b;exact hgb)];exact h2
end Bt
namespace Bt
theorem fP{P:Program}(w:Y4)(dT sT ty elem:Y5)(s b o dLen dCap:Nat)(a:abR)(sLen sCap:Nat)(cs:List Y3)
   (hu:P.underlying dT=Y2 (.slice elem)) (hs:(P.info? elem).map (·.size)=Y2 s) (hn:cs.length=afM sLen dLen*s)
   (hsrc:∀j v,cs[j]? =Y2 v->w.cell? (a.add j)=Y2 v) (hc:∀j,j<cs.length->(w.cell? ⟨b,o+j,Y1⟩).isSome=true) (hf:∀j,j<cs.length->w.frozen? ⟨b,o+j,Y1⟩=false) (h1:∀v∈cs,v.oneCell'=true):
   (Builtin.copy_ #[dT,sT] ty #[Yp (Y2 ⟨b,o,Y1⟩) dLen dCap,Yp (Y2 a) sLen sCap]).run P w=.ok (goInt (afM sLen dLen)) (w.setCells b o cs):=by
 have hl:=run_loadCells_list (P:=P) w a cs hsrc;have hst:=run_storeCells_cells (P:=P) b o cs 0 w (by simpa using hc) (by simpa using hf) h1
 cases hq:P.info? elem with
 |none=>simp[hq]at hs
 |some i=>
  have hi:i.size=s:=by simpa[hq]using hs
  simp[Builtin.copy_,run_underlying hu,Builtin.lenOf,Builtin.firstCells,sizeOf,typeInfo,hq,hi,<-hn,hl,hst]
theorem jo{P:Program}{ops:Array Oper}{o:Oper}{a:Act}{K:Act->Y4->Prop}{Q:Exit->Act->Y4->Prop}{E:Prop}
   (hg:o.guard=Y1) (d x:Operand) (dT sT:Y5) (hop:o.op=Op.call {callee:=Callee.builtin Builtin.copy,args:=#[d,x],argTypes:=#[dT,sT]})
   (v u:Y3) (hd:a.eval d=v) (hx:a.eval x=u) {v':Y3} {w':Y4} (hr:(Builtin.copy_ #[dT,sT] o.type #[v,u]).run P w=.ok v' w') (hK:K (a.put o.dst v') w'):
   if Region.wanted o (yielded ops a.tmps)=true then Oper.wp P o a w K Q else E:=by
 have hw:Region.wanted o (yielded ops a.tmps)=true:=by simp[Region.wanted,hg]
 rw[if_pos hw];unfold Oper.wp;simp[execOp,hop,resolve,invoke,builtin,hd,hx,hr,Result.andThen];exact hK
theorem JM{ys:List Y3}(h:ys.length+xs.length<=cur.size):(lay (lay cur ys.length xs) 0 ys).toList.take (ys.length+xs.length)=ys++xs:=by
 have ha:(cur.toList.take ys.length).length=ys.length:=by rw[adO];exact adP (by rw[afc];exact YB (Nat.le_add_right _ _) h)
 have e:(cur.toList.take ys.length++xs++cur.toList.drop (ys.length+xs.length)).drop ys.length=xs++cur.toList.drop (ys.length+xs.length):=by
  rw[laa];exact List.drop_left' ha
 simp only[lay,afH,YK,Ze];rw[e,<-laa];exact afN (by simp)
theorem Tryz.size265(w:Y4):(Go.sizeOf 265).run Zc w=.ok 2 w:=by
 obtain⟨i0,hi0,hz0,hz1,hz2⟩:=aaX Ti.Tryz.info265;simp[sizeOf,typeInfo,hi0,hz1]
theorem Tryz.sz265:(Tryz.prog.info? 265).map (·.size)=Y2 2:=by
 obtain⟨i0,hi0,hz0,hz1,hz2⟩:=aaX Ti.Tryz.info265;rw[hi0];simp[hz1]
theorem FC(gv n cap g:Nat)(cur:Array Y3)(z:Int)(ra:Option abR)(rn rc:Nat)(w:Y4)(hn:n<=1000)(h0:0<n)(hroom:n+1<=cap)(hcm:cap<=aaV)(hg:w.heap[gv]? =Y2 (.cells cur 265 (0,0)))(hcs:cur.size=cap*2)(hvg:ae w g #[Yg Yh z,Yp ra rn rc] 265)(hne:g≠gv)(h1:∀u∈cur.toList.take (n*2),u.oneCell'=true):
   aaT Zc 204 #[Yp (Y2 ⟨gv,0,Y1⟩) n cap,Yg Yh 0,Yp (Y2 ⟨g,0,Y1⟩) 1 1] w fun x w'=>x=Yl (Yp (Y2 ⟨gv,0,Y1⟩) (n+1) cap)/\w'=(w.drew.setCells gv 2 (cur.toList.take (n*2))).setCells gv 0 [Yg Yh z,Yp ra rn rc]:=by
 have hB:ae w gv cur 265:=hg
 have hl:(cur.toList.take (n*2)).length=n*2:=by rw[adO,afc,hcs];omega
 have hov:∀lb cb,(callFunc 261 #[Yp (Y2 ⟨g,0,Y1⟩) 1 1,Yp (Y2 ⟨gv,2,Y1⟩) lb cb]).run Zc w=.ok (.value (.bool false)) w:=fun lb cb=>by
  rw[run_callFunc_extern Tryz.func261 (by kernel_rfl) (by kernel_rfl) (by kernel_rfl) (e:=Extern.SlicesOverlaps.overlaps #[121,121] #[4]) (by kernel_rfl),
    Lib.run_overlaps_apart w 121 4 265 aeX 2 Tryz.size265 ⟨g,0,Y1⟩ ⟨gv,2,Y1⟩ 1 1 lb cb hne 265 265 2 (cap*2) (by simp[afO,show w.heap[g]? =_ from hvg]) (by simp[afO,hg,hcs]) (by omega) (hvg.free 0) (hvg.free 2)]
  rfl
 have hcp1:∀ty dc sc,(Builtin.copy_ #[121,121] ty #[Yp (Y2 ⟨gv,2,Y1⟩) n dc,Yp (Y2 ⟨gv,0,Y1⟩) (n+1) sc]).run Zc w.drew=.ok (goInt (afM (n+1) n)) (w.drew.setCells gv 2 (cur.toList.take (n*2))):=fun ty dc sc=>
  fP w.drew _ _ ty 265 2 gv 2 n dc ⟨gv,0,Y1⟩ (n+1) sc _ aeX Tryz.sz265 (by rw[hl,show afM (n+1) n=n from afP (by omega)])
    (fun j v hj=>jU (w:=w.drew) hg 0 (n*2) j v (by rw[ads];exact hj))
    (fun j hj=>by rw[show w.drew.cell? _=_ from hB.cell (2+j)];simp;omega) (fun j hj=>hB.free _) h1
 obtain⟨W1,hW1⟩:∃W1,W1=w.drew.setCells gv 2 (cur.toList.take (n*2)):=⟨_,rfl⟩
 have hb1:ae W1 gv (lay cur 2 (cur.toList.take (n*2))) 265:=by rw[hW1];exact dn _ 2 w.drew cur hg (by omega)
 have hs1:(lay cur 2 (cur.toList.take (n*2))).size=cap*2:=(lay_size (by omega)).trans hcs
 have hcp2:∀(W:Y4),(∀x,W.cell? x=W1.cell? x)->(∀x,W.frozen? x=W1.frozen? x)->∀ty dc,(Builtin.copy_ #[121,121] ty #[Yp (Y2 ⟨gv,0,Y1⟩) (n+1) dc,Yp (Y2 ⟨g,0,Y1⟩) 1 1]).run Zc W=.ok (goInt (afM 1 (n+1))) (W.setCells gv 0 [Yg Yh z,Yp ra rn rc]):=fun W hWc hWf ty dc=>
  fP W _ _ ty 265 2 gv 0 (n+1) dc ⟨g,0,Y1⟩ 1 1 _ aeX Tryz.sz265 (by rw[show afM 1 (n+1)=1 from adP (by omega)];rfl)
    (fun j v hj=>by
     rw[Zn,hWc,hW1,afQ gv _ _ _ _ (fun h _=>absurd h hne)];have:=hvg.cell (0+j);rw[show w.drew.cell? _=_ from this,Ze]
     simpa using hj)
    (fun j hj=>by rw[hWc,hb1.cell];simp at hj⊢;omega) (fun j hj=>by rw[hWf];exact hb1.free _) (fun u hu=>by simp at hu;rcases hu with rfl|rfl<;>rfl)
 rw[<-hW1]at hcp1
 have hz1:((0:Int)==(n:Int))=false:=by simp;omega
 have hz2:¬(0:Int)=(n:Int):=by omega
 have hr1:¬(cap:Int)<(n:Int)+1:=by omega
 have hc1:¬cap=1:=by omega
 have hc0:¬cap=0:=by omega
 have hj1:(n:Int)+1<=(cap:Int):=by omega
 have hw1:IntKind.i64.wrap (1:Int)=1:=jC 1 (by omega) (by omega)
 have hj2:(1:Int)<=(n:Int)+1:=by omega
 have hj3:(0:Int)<=(n:Int)+1:=by omega
 have HOV:=hd hov;have HC1:=hd hcp1;have HC2:=hd hcp2;have HW1:=hd hW1;clear hov hcp1 hcp2 hW1 hb1 hs1 hl h1 hvg hg hcs hB;go_enter afR,afS;go_wp2_with(simp only[HOV.o])
 go_region_law (refine jo rfl (.tmp 73) (.tmp 76) 121 121 rfl (Yp (Y2 ⟨gv,2,Y1⟩) n (cap-1)) (Yp (Y2 ⟨gv,0,Y1⟩) (n+1) cap) (by simp[afk,afl]) (by simp[afk,afl]) (HC1.o _ _ _) ?_)
 all_goals
  go_wp2_with fail;rw[HC2.o _ (fun _=>rfl) (fun _=>rfl)];go_wp2_with fail;go_ret
  first|exact⟨rfl,by rw[HW1.o]⟩|exact⟨rfl,rfl⟩
theorem Gj{ys:List Y3}(h:ys.length+xs.length<=cur.size):(lay (lay cur 0 ys) ys.length xs).toList.take (ys.length+xs.length)=ys++xs:=by
 simp only[lay,afH,YK,Ze];rw[show(ys++cur.toList.drop ys.length).take ys.length=ys from afN rfl];exact afN (by simp)
theorem Gw(gv n g:Nat)(cur:Array Y3)(z:Int)(ra:Option abR)(rn rc:Nat)(w:Y4)(hn:n<=1000)(h0:0<n)(hg:w.heap[gv]? =Y2 (.cells cur 265 (0,0)))(hcs:cur.size=n*2)(hvg:ae w g #[Yg Yh z,Yp ra rn rc] 265)(h1:∀u∈cur.toList.take (n*2),u.oneCell'=true):
   aaT Zc 204 #[Yp (Y2 ⟨gv,0,Y1⟩) n n,Yg Yh 0,Yp (Y2 ⟨g,0,Y1⟩) 1 1] w fun x w'=>∃G,n+1<=G/\G<=aaV/\x=Yl (Yp (Y2 ⟨w.heap.size,0,Y1⟩) (n+1) G)/\ax [] w w'/\w.heap.size<w'.heap.size/\∃cur',w'.heap[w.heap.size]? =Y2 (.cells cur' 265 (0,0))/\cur'.size=G*2/\cur'.toList.take ((n+1)*2)=[Yg Yh z,Yp ra rn rc]++cur.toList.take (n*2):=by
 obtain⟨i0,hi0,hz0,hzs,hzb⟩:=aaX Ti.Tryz.info265;have hB:ae w gv cur 265:=hg;have hgl:=hB.lt;have hvl:=hvg.lt
 have hl:(cur.toList.take (n*2)).length=n*2:=by rw[adO,afc,hcs];omega
 have hold:(Builtin.firstCells i0.size 0 (Yp (Y2 ⟨gv,0,Y1⟩) 0 n)).run Zc w.drew=.ok ([]:List Y3).toArray w.drew:=by
  rw[hzs];exact run_firstCells_some w.drew 2 0 ⟨gv,0,Y1⟩ 0 n [] (by simp) (fun j v hj=>by simp at hj)
 obtain⟨G,hG⟩:∃G,G=grownCap w (n+1) n 265:=⟨_,rfl⟩;obtain⟨ROW,hROW⟩:∃ROW:Array Y3,ROW=([]:List Y3).toArray++Builtin.zeroCells (Yj #[Yg Yh 0,Yp Y1 0 0]).cells (n+1)++Builtin.zeroCells (Yj #[Yg Yh 0,Yp Y1 0 0]).cells (G-(n+1)):=⟨_,rfl⟩
 have hrz:∀ty,(Builtin.append_ #[121,3] ty #[Yp (Y2 ⟨gv,0,Y1⟩) 0 n,Yg Yh ((n:Int)+1)]).run Zc w=.ok (Yp (Y2 ⟨w.heap.size,0,Y1⟩) (n+1) G) (w.drew.alloc (.cells ROW 265)):=fun ty=>by
  have h:=Lib.run_append_grow_zeros w 121 3 ty 265 i0 _ .i64 .i64 aeX afT hi0 hz0 (Y2 ⟨gv,0,Y1⟩) 0 n [] hold (n+1) (by omega) (by omega) (by omega) (by omega) (by rw[hzb];omega) (by rw[hzb,Ze];exact growslice_fits (by omega) (by omega));rw[Ze,<-hG,<-hROW]at h;exact h
 have hGn:n+1<=G:=by rw[hG];exact grownCap_ge w _ _ _
 have hGm:G<=aaV:=by rw[hG];exact grownCap_le_maxLen w (n+1) n 265 (by unfold aaV;omega)
 have hRs:ROW.size=G*2:=by
  rw[hROW,afU,afU,size_zeroCells,size_zeroCells];show 0+(n+1)*2+(G-(n+1))*2=G*2;omega
 obtain⟨W1,hW1⟩:∃W1,W1=w.drew.alloc (.cells ROW 265):=⟨_,rfl⟩;rw[<-hW1]at hrz
 have hb1:ae W1 w.heap.size ROW 265:=by rw[hW1];exact ae.new w.drew ROW 265
 have hT1:ax [] w W1:=by rw[hW1];exact ax.of (show aaS w.heap.size w (w.drew.alloc (.cells ROW 265)) by go_grown)
 have hBg:ae W1 g #[Yg Yh z,Yp ra rn rc] 265:=hT1.blk hvg (by simp);have hBv:ae W1 gv cur 265:=hT1.blk hB (by simp)
 have hcpA:∀(W:Y4),(∀x,W.cell? x=W1.cell? x)->(∀x,W.frozen? x=W1.frozen? x)->∀ty dc,(Builtin.copy_ #[121,121] ty #[Yp (Y2 ⟨w.heap.size,0,Y1⟩) (n+1) dc,Yp (Y2 ⟨g,0,Y1⟩) 1 1]).run Zc W=.ok (goInt (afM 1 (n+1))) (W.setCells w.heap.size 0 [Yg Yh z,Yp ra rn rc]):=fun W hWc hWf ty dc=>
  fP W _ _ ty 265 2 w.heap.size 0 (n+1) dc ⟨g,0,Y1⟩ 1 1 _ aeX Tryz.sz265 (by rw[show afM 1 (n+1)=1 from adP (by omega)];rfl)
    (fun j v hj=>by
     rw[Zn,hWc,hBg.cell,Ze]
     simpa using hj)
    (fun j hj=>by rw[hWc,hb1.cell];simp at hj⊢;omega) (fun j hj=>by rw[hWf];exact hb1.free _) (fun u hu=>by simp at hu;rcases hu with rfl|rfl<;>rfl)
 obtain⟨W2,hW2⟩:∃W2,W2=W1.setCells w.heap.size 0 [Yg Yh z,Yp ra rn rc]:=⟨_,rfl⟩
 have hb2:ae W2 w.heap.size (lay ROW 0 [Yg Yh z,Yp ra rn rc]) 265:=by rw[hW2];exact dn _ 0 W1 ROW hb1 (by simp;omega)
 have hs2:(lay ROW 0 [Yg Yh z,Yp ra rn rc]).size=G*2:=(lay_size (by simp;omega)).trans hRs
 have hT2:ax [w.heap.size] W1 W2:=by rw[hW2];exact iY _ 0 W1
 have O3:ae W2 gv cur 265:=hT2.blk hBv (by simp;omega)
 have hcpB:∀(W:Y4),(∀x,W.cell? x=W2.cell? x)->(∀x,W.frozen? x=W2.frozen? x)->∀ty dc sc,(Builtin.copy_ #[121,121] ty #[Yp (Y2 ⟨w.heap.size,2,Y1⟩) n dc,Yp (Y2 ⟨gv,0,Y1⟩) n sc]).run Zc W=.ok (goInt (afM n n)) (W.setCells w.heap.size 2 (cur.toList.take (n*2))):=fun W hWc hWf ty dc sc=>
  fP W _ _ ty 265 2 w.heap.size 2 n dc ⟨gv,0,Y1⟩ n sc _ aeX Tryz.sz265 (by rw[hl,show afM n n=n from afh n])
    (fun j v hj=>by rw[hWc];exact jU (w:=W2) O3 0 (n*2) j v (by rw[ads];exact hj))
    (fun j hj=>by rw[hWc,hb2.cell];simp;omega) (fun j hj=>by rw[hWf];exact hb2.free _) h1
 have hfin:∀(W:Y4),W.heap=W2.heap->W.os=w.os->W.tape=w.tape->W.output=w.output->ax [] w (W.setCells w.heap.size 2 (cur.toList.take (n*2)))/\w.heap.size<(W.setCells w.heap.size 2 (cur.toList.take (n*2))).heap.size/\∃cur',(W.setCells w.heap.size 2 (cur.toList.take (n*2))).heap[w.heap.size]? =Y2 (.cells cur' 265 (0,0))/\cur'.size=G*2/\cur'.toList.take ((n+1)*2)=[Yg Yh z,Yp ra rn rc]++cur.toList.take (n*2):=by
  intro W hW e1 e2 e3
  have hbw:W.heap[w.heap.size]? =Y2 (.cells (lay ROW 0 [Yg Yh z,Yp ra rn rc]) 265 (0,0)):=by rw[hW];exact hb2
  have ht:=iY (g:=w.heap.size) (cur.toList.take (n*2)) 2 W
  have hsz:w.heap.size<W.heap.size:=by rw[hW];exact hb2.lt
  refine⟨⟨ht.os.trans e1,ht.tape.trans e2,ht.output.trans e3,YB (afV hsz) ht.size,fun k hk _=> ?_⟩,nlA hsz ht.size,_,dn _ 2 W _ hbw (by omega),(lay_size (by omega)).trans hs2,?_⟩
  · rw[ht.block k (by omega) (by simp;omega),hW,hT2.block k (by have:=hT1.size;omega) (by simp;omega),hT1.block k hk (by simp)]
  have:=Gj (cur:=ROW) (xs:=cur.toList.take (n*2)) (ys:=[Yg Yh z,Yp ra rn rc]) (by rw[hl];simp;omega);rw[hl]at this;rw[show(n+1)*2=[Yg .i64 z,Yp ra rn rc].length+n*2 by simp;omega];exact this
 have hz1:((0:Int)==(n:Int))=false:=by simp;omega
 have hz2:¬(0:Int)=(n:Int):=by omega
 have hr1:(n:Int)<(n:Int)+1:=by omega
 have hc1:¬G=1:=by omega
 have hc0:¬G=0:=by omega
 have hn0:¬n=0:=by omega
 have hw1:IntKind.i64.wrap (1:Int)=1:=jC 1 (by omega) (by omega)
 have hj2:(1:Int)<=(n:Int)+1:=by omega
 have hj3:(0:Int)<=(n:Int)+1:=by omega
 have HRZ:=hd hrz;have HCA:=hd hcpA;have HCB:=hd hcpB;have HW1:=hd hW1;have HW2:=hd hW2;have zh:=hd hfin;have HG1:=hd hGn;have HG2:=hd hGm;have HO2:Yf (W2.drew.os=w.os/\W2.drew.tape=w.tape/\W2.drew.output=w.output):=⟨hT2.os.trans hT1.os,hT2.tape.trans hT1.tape,hT2.output.trans hT1.output⟩;clear hrz hcpA hcpB hW1 hW2 hfin hb1 hb2 hs2 hT1 hT2 hBg hBv O3 hl h1 hvg hg hcs hB hG hROW hRs hold hGn hGm;go_enter afR,afS;go_wp2_with(at_builtin;refine Lib.wpList_append_run _ rfl _ _ _ _ rfl _ _ rfl rfl _ _ (HRZ.o _) ?_);rw[HCA.o W1 (fun _=>rfl) (fun _=>rfl),<-HW2.o];go_wp2_with fail
 go_region_law (refine jo rfl (.tmp 50) (.tmp 53) 121 121 rfl (Yp (Y2 ⟨w.heap.size,2,Y1⟩) n (G-1)) (Yp (Y2 ⟨gv,0,Y1⟩) n n) (by simp[afk,afl]) (by simp[afk,afl]) (HCB.o W2.drew (fun _=>rfl) (fun _=>rfl) _ _ _) ?_)
 all_goals
  go_wp2_with fail;go_ret;refine⟨G,HG1.o,HG2.o,rfl,?_⟩;exact zh.o W2.drew rfl HO2.o.1 HO2.o.2.1 HO2.o.2.2
theorem CW(ve:Y3)(L:List (Y3×Y3))(z:Int)(ra:Option abR)(rn rc g:Nat)(w:Y4)(hn:L.length<=1000)(h0:0<L.length)(ho:w.ownsRow 0 265 2 ve L.length (ah L))(hvg:ae w g #[Yg Yh z,Yp ra rn rc] 265)(hgo:g∉own ve)(hent:∀u∈ah L,u.oneCell'=true):
   aaT Zc 204 #[ve,Yg Yh 0,Yp (Y2 ⟨g,0,Y1⟩) 1 1] w fun x w'=>∃v,x=Yl v/\w'.ownsRow 0 265 2 v (L.length+1) (ah ((Yg Yh z,Yp ra rn rc)::L))/\ax (own ve) w w'/\∀k∈own v,k∈own ve\/(w.heap.size<=k/\k<w'.heap.size):=by
 obtain⟨gv,cap,cur,rfl,hg,hnc,hcm,hcs,htk⟩:=aA ho (by omega)
 have hne:g≠gv:=fun e=>hgo (by simp[own,aaR,e])
 have hfl:(ah ((Yg Yh z,Yp ra rn rc)::L)).length=(L.length+1)*2:=by rw[fe];rfl
 have hcl:(cur.toList.take (L.length*2)).length=L.length*2:=by rw[htk,fe]
 rcases aeW cap (L.length+1)with hlt|hge
 · obtain rfl:cap=L.length:=by omega
   refine(Gw gv L.length g cur z ra rn rc w hn h0 hg hcs hvg (by rw[htk];exact hent)).mono ?_;rintro x w' ⟨G,g1,g2,rfl,ht,hsz,cur',c1,c2,c3⟩;refine⟨_,rfl,gY c1 hfl g1 g2 c2 (by rw[c3,htk];rfl),ht.more (by simp),fun k hk=> .inr ?_⟩;simp[own,aaR]at hk;omega
 refine(FC gv L.length cap g cur z ra rn rc w hn h0 hge hcm hg hcs hvg hne (by rw[htk];exact hent)).mono ?_;rintro x w' ⟨rfl,rfl⟩;have b1:(w.drew.setCells gv 2 (cur.toList.take (L.length*2))).heap[gv]? =Y2 (.cells (lay cur 2 (cur.toList.take (L.length*2))) 265 (0,0)):=dn _ 2 w.drew cur hg (by omega);have s1:(lay cur 2 (cur.toList.take (L.length*2))).size=cap*2:=(lay_size (by omega)).trans hcs;refine⟨_,rfl,gY (dn _ 0 _ _ b1 (by simp;omega)) hfl hge hcm ((lay_size (by simp;omega)).trans s1) ?_,?_,fun k hk=> .inl hk⟩
 · have:=JM (cur:=cur) (xs:=cur.toList.take (L.length*2)) (ys:=[Yg Yh z,Yp ra rn rc]) (by rw[hcl];simp;omega);rw[hcl]at this;rw[show(L.length+1)*2=[Yg .i64 z,Yp ra rn rc].length+L.length*2 by simp;omega];refine this.trans ?_;rw[htk]
   rfl
 exact(iY (g:=gv) _ 2 w.drew).bW.trans (iY (g:=gv) _ 0 _) (fun _ h=> .inl h)
end Bt
namespace Bt
theorem Tryz.size266(w:Y4):(Go.sizeOf 266).run Zc w=.ok 1 w:=by
 obtain⟨i0,hi0,hz0,hz1,hz2⟩:=aaX Tryz.info266;simp[sizeOf,typeInfo,hi0,hz1]
theorem Tryz.sz266:(Tryz.prog.info? 266).map (·.size)=Y2 1:=by
 obtain⟨i0,hi0,hz0,hz1,hz2⟩:=aaX Tryz.info266;rw[hi0];simp[hz1]
theorem yU(gv n cap g:Nat)(cur:Array Y3)(kb:Nat)(w:Y4)(hn:n<=1000)(h0:0<n)(hroom:n+1<=cap)(hcm:cap<=aaV)(hg:w.heap[gv]? =Y2 (.cells cur 266 (0,0)))(hcs:cur.size=cap)(hvg:ae w g #[Ym (Y2 ⟨kb,0,Y1⟩)] 266)(hne:g≠gv)(h1:∀u∈cur.toList.take n,u.oneCell'=true):
   aaT Zc 208 #[Yp (Y2 ⟨gv,0,Y1⟩) n cap,Yg Yh 0,Yp (Y2 ⟨g,0,Y1⟩) 1 1] w fun x w'=>x=Yl (Yp (Y2 ⟨gv,0,Y1⟩) (n+1) cap)/\w'=(w.drew.setCells gv 1 (cur.toList.take n)).setCells gv 0 [Ym (Y2 ⟨kb,0,Y1⟩)]:=by
 have hB:ae w gv cur 266:=hg
 have hl:(cur.toList.take n).length=n:=by rw[adO,afc,hcs];omega
 have hov:∀lb cb,(callFunc 267 #[Yp (Y2 ⟨g,0,Y1⟩) 1 1,Yp (Y2 ⟨gv,1,Y1⟩) lb cb]).run Zc w=.ok (.value (.bool false)) w:=fun lb cb=>by
  rw[run_callFunc_extern Tryz.func267 (by kernel_rfl) (by kernel_rfl) (by kernel_rfl) (e:=Extern.SlicesOverlaps.overlaps #[122,122] #[4]) (by kernel_rfl),
    Lib.run_overlaps_apart w 122 4 266 aeY 1 Tryz.size266 ⟨g,0,Y1⟩ ⟨gv,1,Y1⟩ 1 1 lb cb hne 266 266 1 cap (by simp[afO,show w.heap[g]? =_ from hvg]) (by simp[afO,hg,hcs]) (by omega) (hvg.free 0) (hvg.free 1)]
  rfl
 have hcp1:∀ty dc sc,(Builtin.copy_ #[122,122] ty #[Yp (Y2 ⟨gv,1,Y1⟩) n dc,Yp (Y2 ⟨gv,0,Y1⟩) (n+1) sc]).run Zc w.drew=.ok (goInt (afM (n+1) n)) (w.drew.setCells gv 1 (cur.toList.take n)):=fun ty dc sc=>
  fP w.drew _ _ ty 266 1 gv 1 n dc ⟨gv,0,Y1⟩ (n+1) sc _ aeY Tryz.sz266 (by rw[hl,show afM (n+1) n=n from afP (by omega),afL])
    (fun j v hj=>jU (w:=w.drew) hg 0 n j v (by rw[ads];exact hj))
    (fun j hj=>by rw[show w.drew.cell? _=_ from hB.cell (1+j)];simp;omega) (fun j hj=>hB.free _) h1
 obtain⟨W1,hW1⟩:∃W1,W1=w.drew.setCells gv 1 (cur.toList.take n):=⟨_,rfl⟩
 have hb1:ae W1 gv (lay cur 1 (cur.toList.take n)) 266:=by rw[hW1];exact dn _ 1 w.drew cur hg (by omega)
 have hs1:(lay cur 1 (cur.toList.take n)).size=cap:=(lay_size (by omega)).trans hcs
 have hcp2:∀(W:Y4),(∀x,W.cell? x=W1.cell? x)->(∀x,W.frozen? x=W1.frozen? x)->∀ty dc,(Builtin.copy_ #[122,122] ty #[Yp (Y2 ⟨gv,0,Y1⟩) (n+1) dc,Yp (Y2 ⟨g,0,Y1⟩) 1 1]).run Zc W=.ok (goInt (afM 1 (n+1))) (W.setCells gv 0 [Ym (Y2 ⟨kb,0,Y1⟩)]):=fun W hWc hWf ty dc=>
  fP W _ _ ty 266 1 gv 0 (n+1) dc ⟨g,0,Y1⟩ 1 1 _ aeY Tryz.sz266 (by rw[show afM 1 (n+1)=1 from adP (by omega)];rfl)
    (fun j v hj=>by
     rw[Zn,hWc,hW1,afQ gv _ _ _ _ (fun h _=>absurd h hne)];have:=hvg.cell (0+j);rw[show w.drew.cell? _=_ from this,Ze]
     simpa using hj)
    (fun j hj=>by rw[hWc,hb1.cell];simp at hj⊢;omega) (fun j hj=>by rw[hWf];exact hb1.free _) (fun u hu=>by simp at hu;subst hu;rfl)
 rw[<-hW1]at hcp1
 have hz1:((0:Int)==(n:Int))=false:=by simp;omega
 have hz2:¬(0:Int)=(n:Int):=by omega
 have hr1:¬(cap:Int)<(n:Int)+1:=by omega
 have hc1:¬cap=1:=by omega
 have hc0:¬cap=0:=by omega
 have hj1:(n:Int)+1<=(cap:Int):=by omega
 have hw1:IntKind.i64.wrap (1:Int)=1:=jC 1 (by omega) (by omega)
 have hj2:(1:Int)<=(n:Int)+1:=by omega
 have hj3:(0:Int)<=(n:Int)+1:=by omega
 have HOV:=hd hov;have HC1:=hd hcp1;have HC2:=hd hcp2;have HW1:=hd hW1;clear hov hcp1 hcp2 hW1 hb1 hs1 hl h1 hvg hg hcs hB;go_enter afW,afX;go_wp2_with(simp only[HOV.o])
 go_region_law (refine jo rfl (.tmp 73) (.tmp 76) 122 122 rfl (Yp (Y2 ⟨gv,1,Y1⟩) n (cap-1)) (Yp (Y2 ⟨gv,0,Y1⟩) (n+1) cap) (by simp[afk,afl]) (by simp[afk,afl]) (HC1.o _ _ _) ?_)
 all_goals
  go_wp2_with fail;rw[HC2.o _ (fun _=>rfl) (fun _=>rfl)];go_wp2_with fail;go_ret
  first|exact⟨rfl,by rw[HW1.o]⟩|exact⟨rfl,rfl⟩
theorem zB(gv n g:Nat)(cur:Array Y3)(kb:Nat)(w:Y4)(hn:n<=1000)(h0:0<n)(hg:w.heap[gv]? =Y2 (.cells cur 266 (0,0)))(hcs:cur.size=n)(hvg:ae w g #[Ym (Y2 ⟨kb,0,Y1⟩)] 266)(h1:∀u∈cur.toList.take n,u.oneCell'=true):
   aaT Zc 208 #[Yp (Y2 ⟨gv,0,Y1⟩) n n,Yg Yh 0,Yp (Y2 ⟨g,0,Y1⟩) 1 1] w fun x w'=>∃G,n+1<=G/\G<=aaV/\x=Yl (Yp (Y2 ⟨w.heap.size,0,Y1⟩) (n+1) G)/\ax [] w w'/\w.heap.size<w'.heap.size/\∃cur',w'.heap[w.heap.size]? =Y2 (.cells cur' 266 (0,0))/\cur'.size=G/\cur'.toList.take ((n+1))=[Ym (Y2 ⟨kb,0,Y1⟩)]++cur.toList.take n:=by
 obtain⟨i0,hi0,hz0,hzs,hzb⟩:=aaX Tryz.info266;have hB:ae w gv cur 266:=hg;have hgl:=hB.lt;have hvl:=hvg.lt
 have hl:(cur.toList.take n).length=n:=by rw[adO,afc,hcs];omega
 have hold:(Builtin.firstCells i0.size 0 (Yp (Y2 ⟨gv,0,Y1⟩) 0 n)).run Zc w.drew=.ok ([]:List Y3).toArray w.drew:=by
  rw[hzs];exact run_firstCells_some w.drew 1 0 ⟨gv,0,Y1⟩ 0 n [] (by simp) (fun j v hj=>by simp at hj)
 obtain⟨G,hG⟩:∃G,G=grownCap w (n+1) n 266:=⟨_,rfl⟩;obtain⟨ROW,hROW⟩:∃ROW:Array Y3,ROW=([]:List Y3).toArray++Builtin.zeroCells (Ym Y1).cells (n+1)++Builtin.zeroCells (Ym Y1).cells (G-(n+1)):=⟨_,rfl⟩
 have hrz:∀ty,(Builtin.append_ #[122,3] ty #[Yp (Y2 ⟨gv,0,Y1⟩) 0 n,Yg Yh ((n:Int)+1)]).run Zc w=.ok (Yp (Y2 ⟨w.heap.size,0,Y1⟩) (n+1) G) (w.drew.alloc (.cells ROW 266)):=fun ty=>by
  have h:=Lib.run_append_grow_zeros w 122 3 ty 266 i0 _ .i64 .i64 aeY afT hi0 hz0 (Y2 ⟨gv,0,Y1⟩) 0 n [] hold (n+1) (by omega) (by omega) (by omega) (by omega) (by rw[hzb];omega) (by rw[hzb,Ze];exact growslice_fits (by omega) (by omega));rw[Ze,<-hG,<-hROW]at h;exact h
 have hGn:n+1<=G:=by rw[hG];exact grownCap_ge w _ _ _
 have hGm:G<=aaV:=by rw[hG];exact grownCap_le_maxLen w (n+1) n 266 (by unfold aaV;omega)
 have hRs:ROW.size=G:=by
  rw[hROW,afU,afU,size_zeroCells,size_zeroCells];show 0+(n+1)*1+(G-(n+1))*1=G;omega
 obtain⟨W1,hW1⟩:∃W1,W1=w.drew.alloc (.cells ROW 266):=⟨_,rfl⟩;rw[<-hW1]at hrz
 have hb1:ae W1 w.heap.size ROW 266:=by rw[hW1];exact ae.new w.drew ROW 266
 have hT1:ax [] w W1:=by rw[hW1];exact ax.of (show aaS w.heap.size w (w.drew.alloc (.cells ROW 266)) by go_grown)
 have hBg:ae W1 g #[Ym (Y2 ⟨kb,0,Y1⟩)] 266:=hT1.blk hvg (by simp);have hBv:ae W1 gv cur 266:=hT1.blk hB (by simp)
 have hcpA:∀(W:Y4),(∀x,W.cell? x=W1.cell? x)->(∀x,W.frozen? x=W1.frozen? x)->∀ty dc,(Builtin.copy_ #[122,122] ty #[Yp (Y2 ⟨w.heap.size,0,Y1⟩) (n+1) dc,Yp (Y2 ⟨g,0,Y1⟩) 1 1]).run Zc W=.ok (goInt (afM 1 (n+1))) (W.setCells w.heap.size 0 [Ym (Y2 ⟨kb,0,Y1⟩)]):=fun W hWc hWf ty dc=>
  fP W _ _ ty 266 1 w.heap.size 0 (n+1) dc ⟨g,0,Y1⟩ 1 1 _ aeY Tryz.sz266 (by rw[show afM 1 (n+1)=1 from adP (by omega)];rfl)
    (fun j v hj=>by
     rw[Zn,hWc,hBg.cell,Ze]
     simpa using hj)
    (fun j hj=>by rw[hWc,hb1.cell];simp at hj⊢;omega) (fun j hj=>by rw[hWf];exact hb1.free _) (fun u hu=>by simp at hu;subst hu;rfl)
 obtain⟨W2,hW2⟩:∃W2,W2=W1.setCells w.heap.size 0 [Ym (Y2 ⟨kb,0,Y1⟩)]:=⟨_,rfl⟩
 have hb2:ae W2 w.heap.size (lay ROW 0 [Ym (Y2 ⟨kb,0,Y1⟩)]) 266:=by rw[hW2];exact dn _ 0 W1 ROW hb1 (by simp;omega)
 have hs2:(lay ROW 0 [Ym (Y2 ⟨kb,0,Y1⟩)]).size=G:=(lay_size (by simp;omega)).trans hRs
 have hT2:ax [w.heap.size] W1 W2:=by rw[hW2];exact iY _ 0 W1
 have O3:ae W2 gv cur 266:=hT2.blk hBv (by simp;omega)
 have hcpB:∀(W:Y4),(∀x,W.cell? x=W2.cell? x)->(∀x,W.frozen? x=W2.frozen? x)->∀ty dc sc,(Builtin.copy_ #[122,122] ty #[Yp (Y2 ⟨w.heap.size,1,Y1⟩) n dc,Yp (Y2 ⟨gv,0,Y1⟩) n sc]).run Zc W=.ok (goInt (afM n n)) (W.setCells w.heap.size 1 (cur.toList.take n)):=fun W hWc hWf ty dc sc=>
  fP W _ _ ty 266 1 w.heap.size 1 n dc ⟨gv,0,Y1⟩ n sc _ aeY Tryz.sz266 (by rw[hl,show afM n n=n from afh n,afL])
    (fun j v hj=>by rw[hWc];exact jU (w:=W2) O3 0 n j v (by rw[ads];exact hj))
    (fun j hj=>by rw[hWc,hb2.cell];simp;omega) (fun j hj=>by rw[hWf];exact hb2.free _) h1
 have hfin:∀(W:Y4),W.heap=W2.heap->W.os=w.os->W.tape=w.tape->W.output=w.output->ax [] w (W.setCells w.heap.size 1 (cur.toList.take n))/\w.heap.size<(W.setCells w.heap.size 1 (cur.toList.take n)).heap.size/\∃cur',(W.setCells w.heap.size 1 (cur.toList.take n)).heap[w.heap.size]? =Y2 (.cells cur' 266 (0,0))/\cur'.size=G/\cur'.toList.take ((n+1))=[Ym (Y2 ⟨kb,0,Y1⟩)]++cur.toList.take n:=by
  intro W hW e1 e2 e3
  have hbw:W.heap[w.heap.size]? =Y2 (.cells (lay ROW 0 [Ym (Y2 ⟨kb,0,Y1⟩)]) 266 (0,0)):=by rw[hW];exact hb2
  have ht:=iY (g:=w.heap.size) (cur.toList.take n) 1 W
  have hsz:w.heap.size<W.heap.size:=by rw[hW];exact hb2.lt
  refine⟨⟨ht.os.trans e1,ht.tape.trans e2,ht.output.trans e3,YB (afV hsz) ht.size,fun k hk _=> ?_⟩,nlA hsz ht.size,_,dn _ 1 W _ hbw (by omega),(lay_size (by omega)).trans hs2,?_⟩
  · rw[ht.block k (by omega) (by simp;omega),hW,hT2.block k (by have:=hT1.size;omega) (by simp;omega),hT1.block k hk (by simp)]
  have:=Gj (cur:=ROW) (xs:=cur.toList.take n) (ys:=[Ym (Y2 ⟨kb,0,Y1⟩)]) (by rw[hl];simp;omega);rw[hl]at this;rw[show(n+1)=[Ym (Y2 ⟨kb,0,Y1⟩)].length+n by simp;omega];exact this
 have hz1:((0:Int)==(n:Int))=false:=by simp;omega
 have hz2:¬(0:Int)=(n:Int):=by omega
 have hr1:(n:Int)<(n:Int)+1:=by omega
 have hc1:¬G=1:=by omega
 have hc0:¬G=0:=by omega
 have hn0:¬n=0:=by omega
 have hw1:IntKind.i64.wrap (1:Int)=1:=jC 1 (by omega) (by omega)
 have hj2:(1:Int)<=(n:Int)+1:=by omega
 have hj3:(0:Int)<=(n:Int)+1:=by omega
 have HRZ:=hd hrz;have HCA:=hd hcpA;have HCB:=hd hcpB;have HW1:=hd hW1;have HW2:=hd hW2;have zh:=hd hfin;have HG1:=hd hGn;have HG2:=hd hGm;have HO2:Yf (W2.drew.os=w.os/\W2.drew.tape=w.tape/\W2.drew.output=w.output):=⟨hT2.os.trans hT1.os,hT2.tape.trans hT1.tape,hT2.output.trans hT1.output⟩;clear hrz hcpA hcpB hW1 hW2 hfin hb1 hb2 hs2 hT1 hT2 hBg hBv O3 hl h1 hvg hg hcs hB hG hROW hRs hold hGn hGm;go_enter afW,afX;go_wp2_with(at_builtin;refine Lib.wpList_append_run _ rfl _ _ _ _ rfl _ _ rfl rfl _ _ (HRZ.o _) ?_);rw[HCA.o W1 (fun _=>rfl) (fun _=>rfl),<-HW2.o];go_wp2_with fail
 go_region_law (refine jo rfl (.tmp 50) (.tmp 53) 122 122 rfl (Yp (Y2 ⟨w.heap.size,1,Y1⟩) n (G-1)) (Yp (Y2 ⟨gv,0,Y1⟩) n n) (by simp[afk,afl]) (by simp[afk,afl]) (HCB.o W2.drew (fun _=>rfl) (fun _=>rfl) _ _ _) ?_)
 all_goals
  go_wp2_with fail;go_ret;refine⟨G,HG1.o,HG2.o,rfl,?_⟩;exact zh.o W2.drew rfl HO2.o.1 HO2.o.2.1 HO2.o.2.2
theorem wK(ve:Y3)(L:List Y3)(kb g:Nat)(w:Y4)(hn:L.length<=1000)(h0:0<L.length)(ho:w.ownsRow 0 266 1 ve L.length L)(hvg:ae w g #[Ym (Y2 ⟨kb,0,Y1⟩)] 266)(hgo:g∉own ve)(hent:∀u∈L,u.oneCell'=true):
   aaT Zc 208 #[ve,Yg Yh 0,Yp (Y2 ⟨g,0,Y1⟩) 1 1] w fun x w'=>∃v,x=Yl v/\w'.ownsRow 0 266 1 v (L.length+1) (Ym (Y2 ⟨kb,0,Y1⟩)::L)/\ax (own ve) w w'/\∀k∈own v,k∈own ve\/(w.heap.size<=k/\k<w'.heap.size):=by
 obtain⟨gv,cap,cur,rfl,hg,hnc,hcm,hcs,htk⟩:=aA ho (by omega);rw[afL]at hcs htk
 have hne:g≠gv:=fun e=>hgo (by simp[own,aaR,e])
 have hfl:((Ym (Y2 ⟨kb,0,Y1⟩)::L).length=(L.length+1)*1):=by simp
 have hcl:(cur.toList.take L.length).length=L.length:=by rw[htk]
 rcases aeW cap (L.length+1)with hlt|hge
 · obtain rfl:cap=L.length:=by omega
   refine(zB gv L.length g cur kb w hn h0 hg hcs hvg (by rw[htk];exact hent)).mono ?_;rintro x w' ⟨G,g1,g2,rfl,ht,hsz,cur',c1,c2,c3⟩;refine⟨_,rfl,gY c1 hfl g1 g2 (by rw[afL];exact c2) (by rw[afL,c3,htk];rfl),ht.more (by simp),fun k hk=> .inr ?_⟩;simp[own,aaR]at hk;omega
 refine(yU gv L.length cap g cur kb w hn h0 hge hcm hg hcs hvg hne (by rw[htk];exact hent)).mono ?_;rintro x w' ⟨rfl,rfl⟩;have b1:(w.drew.setCells gv 1 (cur.toList.take L.length)).heap[gv]? =Y2 (.cells (lay cur 1 (cur.toList.take L.length)) 266 (0,0)):=dn _ 1 w.drew cur hg (by omega);have s1:(lay cur 1 (cur.toList.take L.length)).size=cap:=(lay_size (by omega)).trans hcs;refine⟨_,rfl,gY (dn _ 0 _ _ b1 (by simp;omega)) hfl hge hcm (by rw[afL];exact(lay_size (by simp;omega)).trans s1) ?_,?_,fun k hk=> .inl hk⟩
 · have:=JM (cur:=cur) (xs:=cur.toList.take L.length) (ys:=[Ym (Y2 ⟨kb,0,Y1⟩)]) (by rw[hcl];simp;omega);rw[hcl]at this;rw[afL,show(L.length+1)=[Ym (Y2 ⟨kb,0,Y1⟩)].length+L.length by simp;omega];refine this.trans ?_;rw[htk]
   rfl
 exact(iY (g:=gv) _ 1 w.drew).bW.trans (iY (g:=gv) _ 0 _) (fun _ h=> .inl h)
end Bt
namespace Bt
theorem oQ(a:abR)(n c:Nat):own (Yp (Y2 a) n c)=[a.block]:=rfl
structure Sd(w:Y4)(b off j:Nat)(cs:Array Y3)(T:Y5)(ve vk:Y3)(es:List (Y3×Y3))(ps:List Y3)(lb hb:Nat)(vel vkl veh vkh:Y3)(el eh:List (Y3×Y3)):Prop where
 blk:ae w b cs T
 c0:cs[off]? =Y2 ve
 c1:cs[off+1]? =Y2 vk
 bz:w.ownsRow 0 265 2 ve es.length (ah es)
 kids:w.ownsRow 0 266 1 vk ps.length ps
 lo:ps[j]? =Y2 (Ym (Y2 ⟨lb,0,Y1⟩))
 hi:ps[j+1]? =Y2 (Ym (Y2 ⟨hb,0,Y1⟩))
 lblk:ae w lb #[vel,vkl] 124
 hblk:ae w hb #[veh,vkh] 124
 lents:w.ownsRow 0 265 2 vel el.length (ah el)
 hents:w.ownsRow 0 265 2 veh eh.length (ah eh)
 apart:(b::lb::hb::(own ve++own vk++own vel++own veh)).Nodup
 kT:(∀e∈es,wO e)/\(∀e∈el,wO e)/\∀e∈eh,wO e
 small:es.length<=100/\ps.length<=100/\el.length<=100/\eh.length<=100
theorem qV{ve vk vel veh:Y3}(h:(b::lb::hb::(own ve++own vk++own vel++own veh)).Nodup):
   b≠lb/\b≠hb/\lb≠hb/\(b∉own ve/\b∉own vk/\b∉own vel/\b∉own veh)/\(lb∉own ve/\lb∉own vk/\lb∉own vel/\lb∉own veh)/\(hb∉own ve/\hb∉own vk/\hb∉own vel/\hb∉own veh)/\(∀g∈own ve,g∉own vk/\g∉own vel/\g∉own veh)/\(∀g∈own vk,g∉own vel/\g∉own veh)/\∀g∈own vel,g∉own veh:=by
 simp only[List.nodup_cons,List.nodup_append,YW,aeQ,afA,or_false,not_or]at h
 grind
structure Turned(w w':Y4)(j:Nat)(ve:Y3)(es:List (Y3×Y3))(lb hb:Nat)(vel vkl veh vkh:Y3)(mid last:Y3×Y3)(vel' jP:Y3)(el' eh':List (Y3×Y3))(up:Y3×Y3)(F:List Nat)(vkl' lW:Y3):Prop where
 gP:ax (lb::hb::(own ve++own vel++own veh++F)) w w'
 lblk:ae w' lb #[vel',vkl'] 124
 hblk:ae w' hb #[jP,lW] 124
 lents:w'.ownsRow 0 265 2 vel' el'.length (ah el')
 hents:w'.ownsRow 0 265 2 jP eh'.length (ah eh')
 bz:w'.ownsRow 0 265 2 ve es.length (ah (es.set j up))
 lown:∀k∈own vel',k∈own vel\/(w.heap.size<=k/\k<w'.heap.size)
 hown:∀k∈own jP,k∈own veh\/(w.heap.size<=k/\k<w'.heap.size)
 same:own vel'=own vel\/own jP=own veh
structure J9(w:Y4)(F:List Nat)(vkl vkh:Y3)(pl ph:List Y3):Prop where
 lk:w.ownsRow 0 266 1 vkl pl.length pl
 hk:w.ownsRow 0 266 1 vkh ph.length ph
 pos:0<pl.length/\0<ph.length
 small:pl.length<=100/\ph.length<=100
 one:(∀u∈pl,u.oneCell'=true)/\∀u∈ph,u.oneCell'=true
 apart:(∀g∈own vkl,g∉F/\g∉own vkh)/\∀g∈own vkh,g∉F/\g∉own vkl
structure uy(w w':Y4)(vkl vkh vkl' lW:Y3)(pl' ph':List Y3):Prop where
 lk:w'.ownsRow 0 266 1 vkl' pl'.length pl'
 hk:w'.ownsRow 0 266 1 lW ph'.length ph'
 lown:∀k∈own vkl',k∈own vkl\/(w.heap.size<=k/\k<w'.heap.size)
 hown:∀k∈own lW,k∈own vkh\/(w.heap.size<=k/\k<w'.heap.size)
 same:own vkl'=own vkl\/own lW=own vkh
theorem mi:∀(L:List (Y3×Y3)) (j:Nat) (e:Y3×Y3),ah (L.set j e)=((ah L).set (j*2) e.1).set (j*2+1) e.2
 |[],j,e=>by simp[ah]
 |a::r,0,e=>by simp[ah]
 |a::r,j+1,e=>by
  have:=mi r j e;rw[show(j+1)*2=j*2+1+1 by omega];simp[ah,this]
theorem Ms{L:List (Y3×Y3)}(h:cur.toList.take (n*2)=ah L)(j:Nat)(e:Y3×Y3)(hj:j<n):((cur.setIfInBounds (j*2) e.1).setIfInBounds (j*2+1) e.2).toList.take (n*2)=ah (L.set j e):=by
 rw[mi,<-h,aeo,aeo,aep,aep]
theorem Ck{cap:Nat}{L:List (Y3×Y3)}(h:w.ownsRow 0 265 2 (Yp (Y2 ⟨g,0,Y1⟩) n cap) n (ah L))(hn:n≠0)(hj:j<n)(e:Y3×Y3):((w.setCell ⟨g,j*2,Y1⟩ e.1).setCell ⟨g,j*2+1,Y1⟩ e.2).ownsRow 0 265 2 (Yp (Y2 ⟨g,0,Y1⟩) n cap) n (ah (L.set j e)):=by
 obtain⟨gv,cap',cur,hv,hg,h1,h2,h3,h4⟩:=aA h hn;injection hv with hv1 hv2 hv3;injection hv1 with hv1;injection hv1 with hv1;subst hv1;subst hv3
 have hl:(ah (L.set j e)).length=n*2:=by
  have:=h.1;rw[fe]at this⊢;rw[List.length_set];exact this
 exact gY (((show ae w g cur 265 from hg).set (j*2) e.1).set (j*2+1) e.2) hl h1 h2 (by simpa using h3) (Ms h4 j e hj)
theorem FX{w4:Y4}{gq gr ne ce cl nh ch kb q1 nq nr:Nat}{es:List (Y3×Y3)}{vkh vq0:Y3}{mid last:Y3×Y3}{ao1 ao2 ao3 ao4:Option abR}{cp3 cp4 l1 m1:Nat}{el' eh':List (Y3×Y3)}{up:Y3×Y3}{pl ph:List Y3}{nr':Nat}{cr:Nat}
   (hf:Turned w w2 j (Yp (Y2 ⟨ge,0,Y1⟩) ne ce) es lb hb (Yp (Y2 ⟨gl,0,Y1⟩) nl cl) vkl (Yp (Y2 ⟨gh,0,Y1⟩) nh ch) vkh mid last (Yp ao2 l1 cp2) (Yp ao1 m1 cp1) el' eh' up [] vkl vkh)
   (T3:ax [lb,gq] w2 w3) (t4:ax (own (Yp (Y2 ⟨gr,0,Y1⟩) nr' cr)) (w3.alloc (Yk #[Ym (Y2 ⟨kb,0,Y1⟩)] 266)) w4)
   (y3:ae w3 lb (#[Yp ao2 l1 cp2,vq0].setIfInBounds 1 (Yp ao3 q1 cp3)) 124) (y1:own (Yp ao3 q1 cp3)=[gq])
   (y4:w3.ownsRow 0 266 1 (Yp ao3 q1 cp3) q1 (pl.eraseIdx q1)) (H4:ae w4 hb #[Yp ao1 m1 cp1,vkh] 124)
   (o4:w4.ownsRow 0 266 1 (Yp ao4 (nr+1) cp4) (nr+1) (Ym (Y2 ⟨kb,0,Y1⟩)::ph)) (p4:∀k∈own (Yp ao4 (nr+1) cp4),k∈own (Yp (Y2 ⟨gr,0,Y1⟩) nr' cr)\/((w3.alloc (Yk #[Ym (Y2 ⟨kb,0,Y1⟩)] 266)).heap.size<=k/\k<w4.heap.size))
   (hq:own vkl=[gq]) (hr:own vkh=[gr]) (hl:own (Yp ao2 l1 cp2)=[gl]) (llb:lb<w.heap.size) (lhb:hb<w.heap.size) (lgq:gq<w.heap.size) (lgr:gr<w.heap.size)
   (hA:(b≠lb/\b≠hb/\lb≠hb/\b≠ge/\b≠gk/\b≠gl/\b≠gh/\lb≠ge/\lb≠gk/\lb≠gl/\lb≠gh/\hb≠ge/\hb≠gk/\hb≠gl/\hb≠gh/\ge≠gk/\ge≠gl/\ge≠gh/\gk≠gl/\gk≠gh/\gl≠gh)/\(lb≠b/\hb≠b/\hb≠lb/\ge≠b/\gk≠b/\gl≠b/\gh≠b/\ge≠lb/\gk≠lb/\gl≠lb/\gh≠lb/\ge≠hb/\gk≠hb/\gl≠hb/\gh≠hb/\gk≠ge/\gl≠ge/\gh≠ge/\gl≠gk/\gh≠gk/\gh≠gl))
   (hB:(gq≠b/\gq≠lb/\gq≠hb/\gq≠ge/\gq≠gk/\gq≠gl/\gq≠gh/\gq≠gr)/\(gr≠b/\gr≠lb/\gr≠hb/\gr≠ge/\gr≠gk/\gr≠gl/\gr≠gh/\gr≠gq))
   (hn:pl.length=nq/\ph.length=nr/\q1+1=nq/\nq<=100/\nr<=100/\0<nr):
   Turned w (w4.setCell ⟨hb,1,Y1⟩ (Yp ao4 (nr+1) cp4)) j (Yp (Y2 ⟨ge,0,Y1⟩) ne ce) es lb hb (Yp (Y2 ⟨gl,0,Y1⟩) nl cl) vkl (Yp (Y2 ⟨gh,0,Y1⟩) nh ch) vkh mid last (Yp ao2 l1 cp2) (Yp ao1 m1 cp1) el' eh' up (own vkl++own vkh) (Yp ao3 q1 cp3) (Yp ao4 (nr+1) cp4)/\uy w (w4.setCell ⟨hb,1,Y1⟩ (Yp ao4 (nr+1) cp4)) vkl vkh (Yp ao3 q1 cp3) (Yp ao4 (nr+1) cp4) (pl.eraseIdx (pl.length-1)) (Ym (Y2 ⟨kb,0,Y1⟩)::ph):=by
 have hs0:=hf.gP.size;have hs3:=T3.size;have hs4:=t4.size;rw[ZC]at hs4;have hown:own (Yp (Y2 ⟨gr,0,Y1⟩) nr' cr)=[gr]:=rfl;rw[hown]at t4 p4;have TT:ax [lb,gq,hb,gr] w2 (w4.setCell ⟨hb,1,Y1⟩ (Yp ao4 (nr+1) cp4)):=(((T3.more (by simp)).alloc _).trans t4 (fun x hx=> .inl (by simp at hx;simp[hx]))).set _ _ (.inl (by simp))
 have hsz:(w4.setCell ⟨hb,1,Y1⟩ (Yp ao4 (nr+1) cp4)).heap.size=w4.heap.size:=by simp
 have far:∀k,(k=gh\/(w.heap.size<=k/\k<w2.heap.size))->k∉[lb,gq,hb,gr]:=fun k hk=>by
  rcases hk with rfl|hk
  · simp[hA,hB.1.2.2.2.2.2.2.1.symm,hB.2.2.2.2.2.2.2.1.symm]
  simp;omega
 constructor
 · refine⟨(hf.gP.more (by simp;grind)).trans TT ?_,?_,?_,af hf.lents TT ?_,af hf.hents TT ?_,af hf.bz TT ?_,fun k hk=>(hf.lown k hk).imp_right fun h=>⟨h.1,by omega⟩,fun k hk=>(hf.hown k hk).imp_right fun h=>⟨h.1,by omega⟩,hf.same⟩
   · intro x hx;rw[hq,hr];simp at hx⊢;rcases hx with h|h|h|h<;>simp[h]
   · have h5:=t4.blk (y3.alloc (Yk #[Ym (Y2 ⟨kb,0,Y1⟩)] 266)) (by simp[hB.2.2.1.symm]);have h6:=h5.far ⟨hb,1,Y1⟩ (Yp ao4 (nr+1) cp4) (by simp[hA]);simpa using h6
   · have:=H4.set 1 (Yp ao4 (nr+1) cp4);simpa using this
   · intro g hg;rw[hl]at hg;simp at hg;subst hg;simp[hA,hB.1.2.2.2.2.2.1.symm,hB.2.2.2.2.2.2.1.symm]
   · intro g hg;exact far g ((hf.hown g hg).imp_left fun h=>by simpa[own,aaR]using h)
   intro g hg;simp[own,aaR]at hg;subst hg;simp[hA,hB.1.2.2.2.1.symm,hB.2.2.2.2.1.symm]
 have hlen:(pl.eraseIdx (pl.length-1)).length=q1:=by rw[afK (by omega)];omega
 refine⟨?_,?_,fun k hk=> .inl (by rw[y1]at hk;rw[hq];exact hk),fun k hk=> ?_,.inl (y1.trans hq.symm)⟩
 · rw[hlen,show pl.length-1=q1 by omega]
   refine aK (af (y4.alloc (Yk #[Ym (Y2 ⟨kb,0,Y1⟩)] 266)) t4 ?_) fun g hg=>Zb _ _ _ _ ?_
   · intro g hg;rw[y1]at hg;simp at hg;subst hg;simp[hB]
   rw[y1]at hg;simp at hg;subst hg;simp[hB]
 · rw[Yw,hn.2.1]
   refine aK o4 fun g hg=>Zb _ _ _ _ ?_
   rcases p4 g hg with h|h
   · simp at h;subst h;simp[hB]
   intro e;have e2:g=hb:=e;rw[ZC]at h;omega
 rcases p4 k hk with h|h
 · exact .inl (by rw[hr];exact h)
 right
 rw[ZC]at h;omega
theorem qx(w:Y4)(b off j:Nat)(cs:Array Y3)(T:Y5)(ve vk:Y3)(es:List (Y3×Y3))(ps:List Y3)(lb hb:Nat)(vel vkl veh vkh:Y3)(el eh:List (Y3×Y3))(mid last:Y3×Y3)(pl ph:List Y3)(kb:Nat)
   (h:Sd w b off j cs T ve vk es ps lb hb vel vkl veh vkh el eh) (hk:(∃ka kc,vkl=Yp ka 0 kc)\/(J9 w (b::lb::hb::(own ve++own vk++own vel++own veh)) vkl vkh pl ph/\pl[pl.length-1]? =Y2 (Ym (Y2 ⟨kb,0,Y1⟩)))) (hmid:es[j]? =Y2 mid) (hlast:el[el.length-1]? =Y2 last) (heh:0<eh.length):
   aaT Zc 270 #[Ym (Y2 ⟨b,off,Y1⟩),Yg Yh j] w fun x w'=>x=Yl (Yn #[])/\∃vel' jP,((∃ka kc,vkl=Yp ka 0 kc)/\Turned w w' j ve es lb hb vel vkl veh vkh mid last vel' jP (el.eraseIdx (el.length-1)) (mid::eh) last [] vkl vkh)\/
     ∃vkl' lW,Turned w w' j ve es lb hb vel vkl veh vkh mid last vel' jP (el.eraseIdx (el.length-1)) (mid::eh) last (own vkl++own vkh) vkl' lW/\uy w w' vkl vkh vkl' lW (pl.eraseIdx (pl.length-1)) (Ym (Y2 ⟨kb,0,Y1⟩)::ph):=by
 obtain⟨gk,ck,rV,rfl,hgk,hkn,hkm,hkc,hkt⟩:=aA h.kids (by have:=(List.getElem?_eq_some_iff.1 h.lo).1;omega);obtain⟨ge,ce,cure,rfl,hge,hen,hem,hec,het⟩:=aA h.bz (by have:=(List.getElem?_eq_some_iff.1 hmid).1;omega);obtain⟨gh,ch,Vn,rfl,hgh,hhn,hhm,hhc,hht⟩:=aA h.hents (by omega);obtain⟨gl,cl,UX,rfl,hgl,hln,hlm,hlc,hlt⟩:=aA h.lents (by have:=(List.getElem?_eq_some_iff.1 hlast).1;omega);have hap:=qV h.apart;simp only[oQ,aaP,aeQ,afA,or_false,forall_eq]at hap;obtain⟨a1,a2,a3,⟨a4,a5,a6,a7⟩,⟨a8,a9,a10,a11⟩,⟨a12,a13,a14,a15⟩,⟨a16,a17,a18⟩,⟨a19,a20⟩,a21⟩:=hap;have HAP:Yf ((b≠lb/\b≠hb/\lb≠hb/\b≠ge/\b≠gk/\b≠gl/\b≠gh/\lb≠ge/\lb≠gk/\lb≠gl/\lb≠gh/\hb≠ge/\hb≠gk/\hb≠gl/\hb≠gh/\ge≠gk/\ge≠gl/\ge≠gh/\gk≠gl/\gk≠gh/\gl≠gh)/\(lb≠b/\hb≠b/\hb≠lb/\ge≠b/\gk≠b/\gl≠b/\gh≠b/\ge≠lb/\gk≠lb/\gl≠lb/\gh≠lb/\ge≠hb/\gk≠hb/\gl≠hb/\gh≠hb/\gk≠ge/\gl≠ge/\gh≠ge/\gl≠gk/\gh≠gk/\gh≠gl)):=⟨⟨a1,a2,a3,a4,a5,a6,a7,a8,a9,a10,a11,a12,a13,a14,a15,a16,a17,a18,a19,a20,a21⟩,⟨afY a1,afY a2,afY a3,afY a4,afY a5,afY a6,afY a7,afY a8,afY a9,afY a10,afY a11,afY a12,afY a13,afY a14,afY a15,afY a16,afY a17,afY a18,afY a19,afY a20,afY a21⟩⟩;clear a1 a2 a3 a4 a5 a6 a7 a8 a9 a10 a11 a12 a13 a14 a15 a16 a17 a18 a19 a20 a21;obtain⟨hj,hjm⟩:=List.getElem?_eq_some_iff.1 hmid;obtain⟨hj1,_⟩:=List.getElem?_eq_some_iff.1 h.hi;obtain⟨z,ra,rn,rc,rfl⟩:=h.kT.1 mid (afx hmid);obtain⟨z',ra',rn',rc',rfl⟩:=h.kT.2.1 last (afx hlast);have HP:=hd h;have HK:=hd hk;have c0:=(h.blk.cell off).trans h.c0;have c1:=(h.blk.cell (off+1)).trans h.c1;have k0:=((show ae w gk rV 266 from hgk).cell j).trans (cell_of hkt h.lo);have k1:=((show ae w gk rV 266 from hgk).cell (j+1)).trans (cell_of hkt h.hi);have m0:=((show ae w ge cure 265 from hge).cell (j*2)).trans (cell_of het (by have:=fo es j hj;rw[hjm]at this;exact this));have m1:=((show ae w ge cure 265 from hge).cell (j*2+1)).trans (cell_of het (by have:=eZ es j hj;rw[hjm]at this;exact this));have hc0:=h.hblk.cell 0;have lc0:=h.lblk.cell 0;simp at hc0 lc0;have lbb:=h.blk.lt;have lgk:=(geA.1 hgk).1;have lge:=(geA.1 hge).1;have lhb:=h.hblk.lt;have llb:=h.lblk.lt;obtain⟨nk,hnk⟩:∃nk,ps.length=nk:=⟨_,rfl⟩;obtain⟨ne,hne⟩:∃ne,es.length=ne:=⟨_,rfl⟩;obtain⟨nl,hnl⟩:∃nl,el.length=nl:=⟨_,rfl⟩
 obtain⟨nh,hnh⟩:∃nh,eh.length=nh:=⟨_,rfl⟩;rw[hnk]at c1 hj1;rw[hne]at c0 hj;rw[hnh]at hc0;rw[hnl]at lc0;obtain⟨j1,hjj⟩:∃j1,j+1=j1:=⟨_,rfl⟩;rw[hjj]at k1 hj1;have HNS:Yf (ps.length=nk/\es.length=ne/\el.length=nl/\eh.length=nh/\j+1=j1/\nk<=100/\ne<=100/\nl<=100/\nh<=100):=⟨hnk,hne,hnl,hnh,hjj,by have:=h.small;omega⟩
 have wj1:IntKind.i64.wrap ((j:Int)+1)=(j1:Int):=by rw[show(j:Int)+1=(j1:Int) by omega];exact jC _ (by omega) (by have:=h.small;omega)
 have i1:(j:Int)<(ne:Int):=by omega
 have i2:(j1:Int)<(nk:Int):=by omega
 have i3:(j:Int)<(nk:Int):=by omega
 have n3:j<nk:=by omega
 have HINS:Yf (∀W,W.heap=(w.alloc (Yk #[Yg Yh z,Yp ra rn rc] 265)).heap->aaT Zc 204 #[Yp (Y2 ⟨gh,0,Y1⟩) nh ch,Yg Yh 0,Yp (Y2 ⟨w.heap.size,0,Y1⟩) 1 1] W fun x w'=>∃v,x=Yl v/\w'.ownsRow 0 265 2 v (nh+1) (ah ((Yg Yh z,Yp ra rn rc)::eh))/\ax [gh] W w'/\∀k∈own v,k=gh\/(W.heap.size<=k/\k<w'.heap.size)):=by
  intro W hW
  have hb0:aaS w.heap.size w (w.alloc (Yk #[Yg Yh z,Yp ra rn rc] 265)):=by go_grown
  have ho:W.ownsRow 0 265 2 (Yp (Y2 ⟨gh,0,Y1⟩) eh.length ch) eh.length (ah eh):=aK h.hents fun g hg=>by rw[hW];exact hb0.block g (aQ h.hents g hg)
  have hv:ae W w.heap.size #[Yg Yh z,Yp ra rn rc] 265:=by unfold ae;rw[hW];exact ae.new w _ _
  have lgh:=aQ h.hents gh (by simp[own,aaR]);have:=CW (Yp (Y2 ⟨gh,0,Y1⟩) eh.length ch) eh z ra rn rc w.heap.size W (by have:=h.small;omega) heh ho hv (by simp[own,aaR];omega) (jW h.kT.2.2);rw[hnh]at this;refine this.mono ?_;rintro x w' ⟨v,rfl,x1,x2,x3⟩;exact⟨v,rfl,x1,x2,fun k hk=>by simpa[own,aaR]using x3 k hk⟩
 have MM:Yf (el[el.length-1]? =Y2 (Yg Yh z',Yp ra' rn' rc')):=hlast
 have HNL:Yf (0<nl):=by show _<_;have:=(List.getElem?_eq_some_iff.1 hlast).1;omega
 clear hk hnk hne hnl hnh hjj hmid hlast heh hkt het hht hlt hgk hge hgh hgl h hjm;go_enter Tryz.func270,Tryz.ntmps270;go_wp2_with fail
 go_region
 go_upto_region 1 with fail
 go_cut[]from 21 (fun wx=>∃ao1 cp1,Yf (ax [gh,hb] w wx/\ae wx hb #[Yp ao1 (nh+1) cp1,vkh] 124/\wx.ownsRow 0 265 2 (Yp ao1 (nh+1) cp1) (nh+1) (ah ((Yg Yh z,Yp ra rn rc)::eh))/\∀k∈own (Yp ao1 (nh+1) cp1),k=gh\/(w.heap.size<=k/\k<wx.heap.size)))
 case first=>
  go_region_with (first
   |(go_at_call 204
     refine(HINS.o (abA (abA (afZ w _))) rfl).mono ?_;rintro x w1 ⟨v1,rfl,o1,t1,s1⟩;obtain⟨ao1,cp1,rfl⟩:=ai o1;have T1:ax [gh] w w1:=(ax.of (by go_grown)).trans t1 (fun _ h=> .inl h)
     have S1:∀k∈own (Yp ao1 (nh+1) cp1),k=gh\/(w.heap.size<=k/\k<w1.heap.size):=fun k hk=>(s1 k hk).imp_right fun h=>⟨YB (by simp) h.1,h.2⟩
     have hb1:=T1.blk HP.o.hblk (by simp[HAP.o]);have x0:=hb1.cell 0;have xf:=hb1.free 0;have xl:=hb1.lt;simp at x0
     have HR:Yf (ax [gh,hb] w (w1.setCell ⟨hb,0,Y1⟩ (Yp ao1 (nh+1) cp1))/\ae (w1.setCell ⟨hb,0,Y1⟩ (Yp ao1 (nh+1) cp1)) hb #[Yp ao1 (nh+1) cp1,vkh] 124/\(w1.setCell ⟨hb,0,Y1⟩ (Yp ao1 (nh+1) cp1)).ownsRow 0 265 2 (Yp ao1 (nh+1) cp1) (nh+1) (ah ((Yg Yh z,Yp ra rn rc)::eh))/\∀k∈own (Yp ao1 (nh+1) cp1),k=gh\/(w.heap.size<=k/\k<(w1.setCell ⟨hb,0,Y1⟩ (Yp ao1 (nh+1) cp1)).heap.size)):=by
      refine⟨(T1.more (by simp)).set _ _ (.inl (by simp)),by simpa using hb1.set 0 (Yp ao1 (nh+1) cp1),aK o1 fun g hg=>Zb _ _ _ _ ?_,fun k hk=>by simpa using S1 k hk⟩;rcases S1 g hg with h|h
      · subst h;simp[HAP.o]
      exact fun e=>by have e2:g=hb:=e;omega
     clear o1 t1 s1 T1 hb1 S1))
  all_goals
   go_wp2_with fail;go_meet;exact⟨_,_,HR⟩
 case rest=>
  obtain⟨ao1,cp1,HR1⟩:=hcut
  rename Y4=>w1
  clear HINS c0 c1 k0 k1 m0 m1 hc0 lc0 lbb lgk lge lhb llb;have hT1:=HR1.o.1;have B1:=hT1.blk HP.o.blk (by simp[HAP.o]);have L1:=hT1.blk HP.o.lblk (by simp[HAP.o]);have E1:=af HP.o.bz hT1 (fun g hg=>by simp[own,aaR]at hg;subst hg;simp[HAP.o]);have O1:=af HP.o.lents hT1 (fun g hg=>by simp[own,aaR]at hg;subst hg;simp[HAP.o]);rw[HNS.o.2.1]at E1;rw[HNS.o.2.2.1]at O1;have c0:=(B1.cell off).trans HP.o.c0;rw[HNS.o.2.1]at c0;have d0:=L1.cell 0;rw[HNS.o.2.2.1]at d0;simp at d0;have lbb:=B1.lt;have llb:=L1.lt;have lge:=aQ E1 ge (by simp[own,aaR]);have HTO:=hd (jD lb 0 (nl-1) (Yp (Y2 ⟨gl,0,Y1⟩) el.length cl) el (Yg Yh z',Yp ra' rn' rc') _ _ w1.drew (by have:=HP.o.small;omega) L1.drew rfl (by have:=O1;rw[HNS.o.2.2.1];exact this) (by rw[<-HNS.o.2.2.1];exact MM.o) HP.o.kT.2.1 (by simp[own,aaR,HAP.o]));rw[HNS.o.2.2.1]at HTO;obtain⟨l1,hl1⟩:∃l1,nl-1=l1:=⟨_,rfl⟩;rw[hl1]at HTO
  have HL1:Yf (l1+1=nl):=by show _=_;have:=HNL.o;omega
  have wl1:IntKind.i64.wrap ((nl:Int)-1)=(l1:Int):=by rw[show(nl:Int)-1=(l1:Int) by have:=HL1.o;omega];exact jC _ (by omega) (by have:=HNS.o;omega)
  have HB1:=hd B1;have HE1:=hd E1;have HT1:=hd hT1;clear hl1 B1 L1 E1 O1 hT1
  go_upto_region 2 with fail
  go_cut[]from 37 (fun wy=>∃ao2 cp2,Yf (ax [gh,hb,lb,gl,ge] w wy/\ae wy lb #[Yp ao2 l1 cp2,vkl] 124/\wy.ownsRow 0 265 2 (Yp ao2 l1 cp2) l1 (ah (el.eraseIdx l1))/\own (Yp ao2 l1 cp2)=[gl]/\wy.ownsRow 0 265 2 (Yp (Y2 ⟨ge,0,Y1⟩) ne ce) ne (ah (es.set j (Yg Yh z',Yp ra' rn' rc')))/\ax [lb,gl,ge] w1 wy))
  case first=>
   go_region_with (first
    |(go_at_call 207
      refine HTO.o.mono ?_;rintro x w2 ⟨rfl,v2,y1,y2,y3,y4⟩;obtain⟨ao2,cp2,rfl⟩:=ai y4;have T2:ax [lb,gl] w1 w2:=y2.bW;have B2:=T2.blk HB1.o (by simp[HAP.o]);have cb2:=(B2.cell off).trans HP.o.c0;rw[HNS.o.2.1]at cb2;have lb2:=B2.lt;have E2:=af HE1.o T2 (fun g hg=>by simp[own,aaR]at hg;subst hg;simp[HAP.o]);obtain⟨g2,cap2,II,hv2,hg2,_,_,hs2,ht2⟩:=aA E2 (by omega);injection hv2 with q1 q2 q3;injection q1 with q1;injection q1 with q1;subst q1;have G2:ae w2 ge II 265:=hg2;obtain⟨u0,hu0⟩:∃u,II[j*2]? =Y2 u:=⟨_,aga (by omega)⟩;obtain⟨u1,hu1⟩:∃u,II[j*2+1]? =Y2 u:=⟨_,aga (by omega)⟩;have p0:=(G2.cell (j*2)).trans hu0;have p1:=(G2.cell (j*2+1)).trans hu1;have pf0:=G2.free (j*2);have pf1:=G2.free (j*2+1);have pl:=G2.lt
      have HR:Yf (ax [gh,hb,lb,gl,ge] w ((w2.setCell ⟨ge,j*2,Y1⟩ (Yg Yh z')).setCell ⟨ge,j*2+1,Y1⟩ (Yp ra' rn' rc'))/\ae ((w2.setCell ⟨ge,j*2,Y1⟩ (Yg Yh z')).setCell ⟨ge,j*2+1,Y1⟩ (Yp ra' rn' rc')) lb #[Yp ao2 l1 cp2,vkl] 124/\((w2.setCell ⟨ge,j*2,Y1⟩ (Yg Yh z')).setCell ⟨ge,j*2+1,Y1⟩ (Yp ra' rn' rc')).ownsRow 0 265 2 (Yp ao2 l1 cp2) l1 (ah (el.eraseIdx l1))/\own (Yp ao2 l1 cp2)=[gl]/\((w2.setCell ⟨ge,j*2,Y1⟩ (Yg Yh z')).setCell ⟨ge,j*2+1,Y1⟩ (Yp ra' rn' rc')).ownsRow 0 265 2 (Yp (Y2 ⟨ge,0,Y1⟩) ne ce) ne (ah (es.set j (Yg Yh z',Yp ra' rn' rc')))/\ax [lb,gl,ge] w1 ((w2.setCell ⟨ge,j*2,Y1⟩ (Yg Yh z')).setCell ⟨ge,j*2+1,Y1⟩ (Yp ra' rn' rc'))):=by
       have hown:own (Yp ao2 l1 cp2)=[gl]:=y1;have T3:ax [lb,gl,ge] w1 ((w2.setCell ⟨ge,j*2,Y1⟩ (Yg Yh z')).setCell ⟨ge,j*2+1,Y1⟩ (Yp ra' rn' rc')):=((T2.more (by simp)).set _ _ (.inl (by simp))).set _ _ (.inl (by simp));refine⟨(HT1.o.more (by simp)).trans T3 (fun x hx=> .inl (by simp at hx⊢;rcases hx with h|h|h<;>simp[h])),?_,?_,hown,Ck E2 (by omega) (by omega) _,T3⟩
       · have:=(y3.far ⟨ge,j*2,Y1⟩ (Yg Yh z') (by simp[HAP.o])).far ⟨ge,j*2+1,Y1⟩ (Yp ra' rn' rc') (by simp[HAP.o]);simpa using this
       refine aK y4 fun g hg=> ?_
       rw[hown]at hg;simp at hg;subst hg;rw[Zb _ _ _ _ (by simp[HAP.o]),Zb _ _ _ _ (by simp[HAP.o])]
      clear y1 y2 y3 y4 T2 B2 E2 hg2 hs2 ht2 G2 hu0 hu1 q2 q3))
   all_goals
    go_wp2_with fail;go_meet;exact⟨_,_,HR⟩
  case rest=>
   obtain⟨ao2,cp2,HR2⟩:=hcut
   rename Y4=>w2
   clear c0 d0 lbb llb lge wl1 HTO;have L2:=HR2.o.2.1;have H2:=HR2.o.2.2.2.2.2.blk HR1.o.2.1 (by simp[HAP.o]);have ll2:=L2.lt;have lh2:=H2.lt
   have zh:Yf (Turned w w2 j (Yp (Y2 ⟨ge,0,Y1⟩) es.length ce) es lb hb (Yp (Y2 ⟨gl,0,Y1⟩) el.length cl) vkl (Yp (Y2 ⟨gh,0,Y1⟩) eh.length ch) vkh (Yg Yh z,Yp ra rn rc) (Yg Yh z',Yp ra' rn' rc') (Yp ao2 l1 cp2) (Yp ao1 (nh+1) cp1) (el.eraseIdx (el.length-1)) ((Yg Yh z,Yp ra rn rc)::eh) (Yg Yh z',Yp ra' rn' rc') [] vkl vkh):=by
    obtain⟨q1,q2,q3,q4,q5,q6⟩:=HR2.o;obtain⟨r1,r2,r3,r4⟩:=HR1.o;obtain⟨n1,n2,n3,n4,_⟩:=HNS.o;have hl:=HL1.o
    have hlen:(el.eraseIdx (el.length-1)).length=l1:=by rw[afK (by omega)];omega
    have hsz:=q6.size
    have far:∀g∈own (Yp ao1 (nh+1) cp1),g∉[lb,gl,ge]:=fun g hg=>by
     rcases r4 g hg with h|h
     · subst h;simp[HAP.o]
     have:=HP.o.lblk.lt;have:=aQ HP.o.bz ge (by simp[own,aaR]);have:=aQ HP.o.lents gl (by simp[own,aaR]);simp;omega
    refine⟨q1.more (by simp[own,aaR]),q2,q6.blk r2 (by simp[HAP.o]),?_,?_,?_,fun k hk=> .inl (by rw[q4]at hk;exact hk),fun k hk=>(r4 k hk).imp (fun h=>by simp[own,aaR,h]) (fun h=>⟨h.1,nlA h.2 hsz⟩),.inl q4⟩
    · rw[hlen,show el.length-1=l1 by omega];exact q3
    · rw[Yw,n4];exact af r3 q6 far
    rw[n2];exact q5
   rcases HK.o with NL|⟨hin,hlast⟩
   · obtain⟨ka,kc,hvk⟩:=NL;have HVK:=hd hvk;have d1:=L2.cell 1;simp at d1;rw[hvk]at d1;clear hvk L2 H2;go_wp2_with fail;refine(eF lb 0 ka kc _ ll2 d1).mono ?_;rintro x w3 ⟨rfl,rfl⟩;go_wp2_with fail
     go_end0
     exact⟨rfl,_,_,.inl ⟨⟨_,_,HVK.o⟩,zh.o⟩⟩
   obtain⟨gq,cq,curq,hvq,_,hqn,hqm,_,_⟩:=aA hin.lk (by have:=hin.pos;omega);obtain⟨gr,cr,curr,hvr,_,hrn,hrm,_,_⟩:=aA hin.hk (by have:=hin.pos;omega);have hap:=hin.apart;rw[hvq,hvr]at hap;simp only[oQ,aaP,aeQ,YW,afA,or_false,forall_eq,not_or]at hap
   have HAQ:Yf ((gq≠b/\gq≠lb/\gq≠hb/\gq≠ge/\gq≠gk/\gq≠gl/\gq≠gh/\gq≠gr)/\(gr≠b/\gr≠lb/\gr≠hb/\gr≠ge/\gr≠gk/\gr≠gl/\gr≠gh/\gr≠gq)):=by
    show(_/\_);refine⟨⟨?_,?_,?_,?_,?_,?_,?_,?_⟩,⟨?_,?_,?_,?_,?_,?_,?_,?_⟩⟩<;>simp only[hap,ne_eq,not_false_eq_true]
   have HIN:=hd hin;obtain⟨nq,hnq⟩:∃nq,pl.length=nq:=⟨_,rfl⟩;obtain⟨nr,hnr⟩:∃nr,ph.length=nr:=⟨_,rfl⟩;obtain⟨q1,hq1⟩:∃q1,nq-1=q1:=⟨_,rfl⟩;have T02:=HR2.o.1;have QK:=af hin.lk T02 (fun g hg=>by rw[hvq]at hg;simp[own,aaR]at hg;subst hg;simp[HAQ.o]);have RK:=af hin.hk T02 (fun g hg=>by rw[hvr]at hg;simp[own,aaR]at hg;subst hg;simp[HAQ.o]);have HTK:=hd (oo lb 1 (pl.length-1) vkl pl kb _ _ w2.drew (by have:=hin.small;omega) L2.drew rfl QK hlast hin.one.1 (by rw[hvq];simp[own,aaR,HAQ.o,afY HAQ.o.1.2.1]));rw[hnq,hq1,hvq]at HTK;have HNQ:Yf (pl.length=nq/\ph.length=nr/\q1+1=nq/\nq<=100/\nr<=100/\0<nr):=⟨hnq,hnr,by have:=hin.pos;omega,by have:=hin.small;omega,by have:=hin.small;omega,by have:=hin.pos;omega⟩;have HVQ:=hd hvq;have HVR:=hd hvr;have HRK:=hd RK;have HH2:=hd H2;have d1:=L2.cell 1;have e1:=H2.cell 1;simp at d1 e1;rw[hvq,hnq]at d1;rw[hvr,hnr]at e1
   have hz:((nq:Int)==0)=false:=by simp;have:=hin.pos;omega
   have wq1:IntKind.i64.wrap ((nq:Int)-1)=(q1:Int):=by rw[show(nq:Int)-1=(q1:Int) by have:=hin.pos;omega];exact jC _ (by omega) (by have:=hin.small;omega)
   clear hvq hvr hap hin hnq hnr hq1 T02 QK RK L2 H2 hlast hqn hqm hrn hrm;go_wp2_with fail;refine(gz lb 0 nq _ cq _ hz ll2 d1).mono ?_;rintro x w2 ⟨rfl,rfl⟩;go_wp2_with fail
   go_region_with (first
    |(go_at_call 320
      refine HTK.o.mono ?_;rintro x w3 ⟨rfl,v3,y1,y2,y3,y4⟩;obtain⟨ao3,cp3,rfl⟩:=ai y4;have T3:ax [lb,gq] w2 w3:=y2.bW;have H3:=T3.blk HH2.o (by simp[HAP.o,afY HAQ.o.1.2.2.1]);have R3:=af HRK.o T3 (fun g hg=>by rw[HVR.o]at hg;simp[own,aaR]at hg;subst hg;simp[HAQ.o]);have K3:=R3.alloc (Yk #[Ym (Y2 ⟨kb,0,Y1⟩)] 266);have E3:=ae.new w3 #[Ym (Y2 ⟨kb,0,Y1⟩)] 266;have g3:gr<w3.heap.size:=aQ R3 gr (by rw[HVR.o];simp[own,aaR]);have HI3:=hd (wK vkh ph kb w3.heap.size (w3.alloc (Yk #[Ym (Y2 ⟨kb,0,Y1⟩)] 266)) (by have:=HNQ.o;omega) (by have:=HNQ.o;omega) K3 E3 (by rw[HVR.o];simp[own,aaR];omega) HIN.o.one.2);rw[HVR.o,HNQ.o.2.1]at HI3;have s1:=H3.cell 1;simp at s1;rw[HVR.o,HNQ.o.2.1]at s1
      have s2:(w3.alloc (Yk #[Ym (Y2 ⟨kb,0,Y1⟩)] 266)).cell? ⟨hb,1,Y1⟩=Y2 (Yp (Y2 ⟨gr,0,Y1⟩) nr cr):=by
       have:=(H3.alloc (Yk #[Ym (Y2 ⟨kb,0,Y1⟩)] 266)).cell 1;simp at this;rw[HVR.o,HNQ.o.2.1]at this;exact this
      have s3:=H3.lt;have HT3:=hd T3;have HH3:=hd H3;have HY1:=hd y1;have HY3:=hd y3;have HY4:=hd y4
      clear y1 y2 y3 y4 T3 H3 R3 K3 E3)
    |(go_at_call 208
      refine HI3.o.mono ?_;rintro x w4 ⟨v4,rfl,o4,t4,p4⟩;obtain⟨ao4,cp4,rfl⟩:=ai o4;have H4:=t4.blk (HH3.o.alloc (Yk #[Ym (Y2 ⟨kb,0,Y1⟩)] 266)) (by simp[own,aaR,afY HAQ.o.2.2.2.1]);have s4:=H4.cell 1;have s5:=H4.free 1;have s6:=H4.lt;simp at s4;rw[HVR.o,HNQ.o.2.1]at s4;have HT4:=hd t4;have HO4:=hd o4;have HP4:=hd p4;have HH4:=hd H4
      clear o4 t4 p4 H4))
   all_goals
    go_wp2_with fail
    go_end0
    have HF2:=FX zh.o HT3.o HT4.o HY3.o HY1.o HY4.o HH4.o HO4.o HP4.o (by rw[HVQ.o];rfl) (by rw[HVR.o];rfl) HR2.o.2.2.2.1 HP.o.lblk.lt HP.o.hblk.lt (aQ HIN.o.lk gq (by rw[HVQ.o];simp[own,aaR])) (aQ HIN.o.hk gr (by rw[HVR.o];simp[own,aaR])) HAP.o HAQ.o HNQ.o;exact⟨rfl,_,_,.inr ⟨_,_,HF2.1,HF2.2⟩⟩
end Bt
namespace Bt
theorem Dx{w4:Y4}{gq gr ne ce cl nh ch kb r1 nq nr:Nat}{es:List (Y3×Y3)}{vkh vq0:Y3}{mid last:Y3×Y3}{ao1 ao2 ao3:Option abR}{g4 cp3 cp4 h1 m1:Nat}{el' eh':List (Y3×Y3)}{up:Y3×Y3}{pl ph:List Y3}
   (hf:Turned w w2 j (Yp (Y2 ⟨ge,0,Y1⟩) ne ce) es lb hb (Yp (Y2 ⟨gl,0,Y1⟩) nl cl) vkl (Yp (Y2 ⟨gh,0,Y1⟩) nh ch) vkh mid last (Yp ao1 m1 cp1) (Yp ao2 h1 cp2) el' eh' up [] vkl vkh)
   (T3:ax [hb,gr] w2 w3) (t4:ax [gq] (w3.alloc (Yk #[Ym (Y2 ⟨kb,0,Y1⟩)] 266)) w4)
   (y3:ae w3 hb (#[Yp ao2 h1 cp2,vq0].setIfInBounds 1 (Yp ao3 r1 cp3)) 124) (y1:own (Yp ao3 r1 cp3)=[gr])
   (y4:w3.ownsRow 0 266 1 (Yp ao3 r1 cp3) r1 (ph.eraseIdx 0)) (L4:ae w4 lb #[Yp ao1 m1 cp1,vkl] 124)
   (o4:w4.ownsRow 0 266 1 (Yp (Y2 ⟨g4,0,Y1⟩) (nq+1) cp4) (nq+1) (pl++[Ym (Y2 ⟨kb,0,Y1⟩)])) (p4:g4=gq\/(w3.heap.size<g4/\g4<w4.heap.size))
   (hq:own vkl=[gq]) (hr:own vkh=[gr]) (hl:own (Yp ao2 h1 cp2)=[gh]) (llb:lb<w.heap.size) (lhb:hb<w.heap.size) (lgq:gq<w.heap.size) (lgr:gr<w.heap.size)
   (hA:(b≠lb/\b≠hb/\lb≠hb/\b≠ge/\b≠gk/\b≠gl/\b≠gh/\lb≠ge/\lb≠gk/\lb≠gl/\lb≠gh/\hb≠ge/\hb≠gk/\hb≠gl/\hb≠gh/\ge≠gk/\ge≠gl/\ge≠gh/\gk≠gl/\gk≠gh/\gl≠gh)/\(lb≠b/\hb≠b/\hb≠lb/\ge≠b/\gk≠b/\gl≠b/\gh≠b/\ge≠lb/\gk≠lb/\gl≠lb/\gh≠lb/\ge≠hb/\gk≠hb/\gl≠hb/\gh≠hb/\gk≠ge/\gl≠ge/\gh≠ge/\gl≠gk/\gh≠gk/\gh≠gl))
   (hB:(gq≠b/\gq≠lb/\gq≠hb/\gq≠ge/\gq≠gk/\gq≠gl/\gq≠gh/\gq≠gr)/\(gr≠b/\gr≠lb/\gr≠hb/\gr≠ge/\gr≠gk/\gr≠gl/\gr≠gh/\gr≠gq))
   (hn:pl.length=nq/\ph.length=nr/\r1+1=nr/\nq<=100/\nr<=100):
   Turned w (w4.setCell ⟨lb,1,Y1⟩ (Yp (Y2 ⟨g4,0,Y1⟩) (nq+1) cp4)) j (Yp (Y2 ⟨ge,0,Y1⟩) ne ce) es lb hb (Yp (Y2 ⟨gl,0,Y1⟩) nl cl) vkl (Yp (Y2 ⟨gh,0,Y1⟩) nh ch) vkh mid last (Yp ao1 m1 cp1) (Yp ao2 h1 cp2) el' eh' up (own vkl++own vkh) (Yp (Y2 ⟨g4,0,Y1⟩) (nq+1) cp4) (Yp ao3 r1 cp3)/\uy w (w4.setCell ⟨lb,1,Y1⟩ (Yp (Y2 ⟨g4,0,Y1⟩) (nq+1) cp4)) vkl vkh (Yp (Y2 ⟨g4,0,Y1⟩) (nq+1) cp4) (Yp ao3 r1 cp3) (pl++[Ym (Y2 ⟨kb,0,Y1⟩)]) (ph.eraseIdx 0):=by
 have hs0:=hf.gP.size;have hs3:=T3.size;have hs4:=t4.size;rw[ZC]at hs4;have TT:ax [hb,gr,lb,gq] w2 (w4.setCell ⟨lb,1,Y1⟩ (Yp (Y2 ⟨g4,0,Y1⟩) (nq+1) cp4)):=(((T3.more (by simp)).alloc _).trans t4 (fun x hx=> .inl (by simp at hx;simp[hx]))).set _ _ (.inl (by simp))
 have hsz:(w4.setCell ⟨lb,1,Y1⟩ (Yp (Y2 ⟨g4,0,Y1⟩) (nq+1) cp4)).heap.size=w4.heap.size:=by simp
 have far:∀k,(k=gl\/(w.heap.size<=k/\k<w2.heap.size))->k∉[hb,gr,lb,gq]:=fun k hk=>by
  rcases hk with rfl|hk
  · simp[hA,hB.1.2.2.2.2.2.1.symm,hB.2.2.2.2.2.2.1.symm]
  simp;omega
 constructor
 · refine⟨(hf.gP.more (by simp;grind)).trans TT ?_,?_,?_,af hf.lents TT ?_,af hf.hents TT ?_,af hf.bz TT ?_,fun k hk=>(hf.lown k hk).imp_right fun h=>⟨h.1,by omega⟩,fun k hk=>(hf.hown k hk).imp_right fun h=>⟨h.1,by omega⟩,hf.same⟩
   · intro x hx;rw[hq,hr];simp at hx⊢;rcases hx with h|h|h|h<;>simp[h]
   · have:=L4.set 1 (Yp (Y2 ⟨g4,0,Y1⟩) (nq+1) cp4);simpa using this
   · have h5:=t4.blk (y3.alloc (Yk #[Ym (Y2 ⟨kb,0,Y1⟩)] 266)) (by simp[hB.1.2.2.1.symm]);have h6:=h5.far ⟨lb,1,Y1⟩ (Yp (Y2 ⟨g4,0,Y1⟩) (nq+1) cp4) (by simp[hA]);simpa using h6
   · intro g hg;exact far g ((hf.lown g hg).imp_left fun h=>by simpa[own,aaR]using h)
   · intro g hg;rw[hl]at hg;simp at hg;subst hg;simp[hA,hB.1.2.2.2.2.2.2.1.symm,hB.2.2.2.2.2.2.2.1.symm]
   intro g hg;simp[own,aaR]at hg;subst hg;simp[hA,hB.1.2.2.2.1.symm,hB.2.2.2.2.1.symm]
 have hlen:(ph.eraseIdx 0).length=r1:=by rw[afK (by omega)];omega
 refine⟨?_,?_,fun k hk=> ?_,fun k hk=> .inl (by rw[y1]at hk;rw[hr];exact hk),.inr (y1.trans hr.symm)⟩
 · rw[aaN,hn.1]
   refine aK o4 fun g hg=>Zb _ _ _ _ ?_
   simp[own,aaR]at hg;subst hg;rcases p4 with h|h
   · subst h;simp[hB]
   intro e;have e2:g=lb:=e;omega
 · rw[hlen]
   refine aK (af (y4.alloc (Yk #[Ym (Y2 ⟨kb,0,Y1⟩)] 266)) t4 ?_) fun g hg=>Zb _ _ _ _ ?_
   · intro g hg;rw[y1]at hg;simp at hg;subst hg;simp[hB]
   rw[y1]at hg;simp at hg;subst hg;simp[hB]
 simp[own,aaR]at hk;subst hk;rcases p4 with h|h
 · exact .inl (by rw[hq];simp[h])
 right;omega
theorem rR(w:Y4)(b off j:Nat)(cs:Array Y3)(T:Y5)(ve vk:Y3)(es:List (Y3×Y3))(ps:List Y3)(lb hb:Nat)(vel vkl veh vkh:Y3)(el eh:List (Y3×Y3))(mid last:Y3×Y3)(pl ph:List Y3)(kb:Nat)
   (h:Sd w b off j cs T ve vk es ps lb hb vel vkl veh vkh el eh) (hk:(∃ka kc,vkh=Yp ka 0 kc)\/(J9 w (b::lb::hb::(own ve++own vk++own vel++own veh)) vkl vkh pl ph/\ph[0]? =Y2 (Ym (Y2 ⟨kb,0,Y1⟩)))) (hmid:es[j]? =Y2 mid) (hlast:eh[0]? =Y2 last) (hel:0<el.length):
   aaT Zc 271 #[Ym (Y2 ⟨b,off,Y1⟩),Yg Yh j] w fun x w'=>x=Yl (Yn #[])/\∃vel' jP,((∃ka kc,vkh=Yp ka 0 kc)/\Turned w w' j ve es lb hb vel vkl veh vkh mid last vel' jP (el++[mid]) (eh.eraseIdx 0) last [] vkl vkh)\/
     ∃vkl' lW,Turned w w' j ve es lb hb vel vkl veh vkh mid last vel' jP (el++[mid]) (eh.eraseIdx 0) last (own vkl++own vkh) vkl' lW/\uy w w' vkl vkh vkl' lW (pl++[Ym (Y2 ⟨kb,0,Y1⟩)]) (ph.eraseIdx 0):=by
 obtain⟨gk,ck,rV,rfl,hgk,hkn,hkm,hkc,hkt⟩:=aA h.kids (by have:=(List.getElem?_eq_some_iff.1 h.lo).1;omega);obtain⟨ge,ce,cure,rfl,hge,hen,hem,hec,het⟩:=aA h.bz (by have:=(List.getElem?_eq_some_iff.1 hmid).1;omega);obtain⟨gh,ch,Vn,rfl,hgh,hhn,hhm,hhc,hht⟩:=aA h.hents (by have:=(List.getElem?_eq_some_iff.1 hlast).1;omega);obtain⟨gl,cl,UX,rfl,hgl,hln,hlm,hlc,hlt⟩:=aA h.lents (by omega);have hap:=qV h.apart;simp only[oQ,aaP,aeQ,afA,or_false,forall_eq]at hap;obtain⟨a1,a2,a3,⟨a4,a5,a6,a7⟩,⟨a8,a9,a10,a11⟩,⟨a12,a13,a14,a15⟩,⟨a16,a17,a18⟩,⟨a19,a20⟩,a21⟩:=hap;have HAP:Yf ((b≠lb/\b≠hb/\lb≠hb/\b≠ge/\b≠gk/\b≠gl/\b≠gh/\lb≠ge/\lb≠gk/\lb≠gl/\lb≠gh/\hb≠ge/\hb≠gk/\hb≠gl/\hb≠gh/\ge≠gk/\ge≠gl/\ge≠gh/\gk≠gl/\gk≠gh/\gl≠gh)/\(lb≠b/\hb≠b/\hb≠lb/\ge≠b/\gk≠b/\gl≠b/\gh≠b/\ge≠lb/\gk≠lb/\gl≠lb/\gh≠lb/\ge≠hb/\gk≠hb/\gl≠hb/\gh≠hb/\gk≠ge/\gl≠ge/\gh≠ge/\gl≠gk/\gh≠gk/\gh≠gl)):=⟨⟨a1,a2,a3,a4,a5,a6,a7,a8,a9,a10,a11,a12,a13,a14,a15,a16,a17,a18,a19,a20,a21⟩,⟨afY a1,afY a2,afY a3,afY a4,afY a5,afY a6,afY a7,afY a8,afY a9,afY a10,afY a11,afY a12,afY a13,afY a14,afY a15,afY a16,afY a17,afY a18,afY a19,afY a20,afY a21⟩⟩;obtain⟨hj,hjm⟩:=List.getElem?_eq_some_iff.1 hmid;obtain⟨hj1,_⟩:=List.getElem?_eq_some_iff.1 h.hi;obtain⟨z,ra,rn,rc,rfl⟩:=h.kT.1 mid (afx hmid);obtain⟨z',ra',rn',rc',rfl⟩:=h.kT.2.2 last (afx hlast);have HP:=hd h;have HK:=hd hk;have c0:=(h.blk.cell off).trans h.c0;have c1:=(h.blk.cell (off+1)).trans h.c1;have k0:=((show ae w gk rV 266 from hgk).cell j).trans (cell_of hkt h.lo);have k1:=((show ae w gk rV 266 from hgk).cell (j+1)).trans (cell_of hkt h.hi);have m0:=((show ae w ge cure 265 from hge).cell (j*2)).trans (cell_of het (by have:=fo es j hj;rw[hjm]at this;exact this));have m1:=((show ae w ge cure 265 from hge).cell (j*2+1)).trans (cell_of het (by have:=eZ es j hj;rw[hjm]at this;exact this));have hc0:=h.hblk.d1;have lc0:=h.lblk.d1;have lbb:=h.blk.lt;have lgk:=(geA.1 hgk).1;have lge:=(geA.1 hge).1;have lhb:=h.hblk.lt;have llb:=h.lblk.lt;obtain⟨nk,hnk⟩:∃nk,ps.length=nk:=⟨_,rfl⟩;obtain⟨ne,hne⟩:∃ne,es.length=ne:=⟨_,rfl⟩;obtain⟨nl,hnl⟩:∃nl,el.length=nl:=⟨_,rfl⟩;obtain⟨nh,hnh⟩:∃nh,eh.length=nh:=⟨_,rfl⟩;rw[hnk]at c1 hj1;rw[hne]at c0 hj;rw[hnh]at hc0
 rw[hnl]at lc0;obtain⟨j1,hjj⟩:∃j1,j+1=j1:=⟨_,rfl⟩;rw[hjj]at k1 hj1;have HNS:Yf (ps.length=nk/\es.length=ne/\el.length=nl/\eh.length=nh/\j+1=j1/\nk<=100/\ne<=100/\nl<=100/\nh<=100):=⟨hnk,hne,hnl,hnh,hjj,by have:=h.small;omega⟩
 have wj1:IntKind.i64.wrap ((j:Int)+1)=(j1:Int):=by rw[show(j:Int)+1=(j1:Int) by omega];exact jC _ (by omega) (by have:=h.small;omega)
 have i1:(j:Int)<(ne:Int):=by omega
 have i2:(j1:Int)<(nk:Int):=by omega
 have i3:(j:Int)<(nk:Int):=by omega
 have n3:j<nk:=by omega
 obtain⟨i0,hi0,hz0,hzs,hzb⟩:=aaX Ti.Tryz.info265
 have HOL:Yf (∀W:Y4,W.heap=(w.alloc (Yk #[Yg Yh z,Yp ra rn rc] 265)).heap->W.ownsRow 0 265 2 (Yp (Y2 ⟨gl,0,Y1⟩) nl cl) nl (ah el)):=by
  intro W hW
  have hb0:aaS w.heap.size w (w.alloc (Yk #[Yg Yh z,Yp ra rn rc] 265)):=by go_grown
  have:=aK (w':=W) h.lents fun g hg=>by rw[hW];exact hb0.block g (aQ h.lents g hg)
  rw[hnl]at this;exact this
 have HNW:Yf (∀W:Y4,W.heap=(w.alloc (Yk #[Yg Yh z,Yp ra rn rc] 265)).heap->∀k u,([Yg Yh z,Yp ra rn rc]:List Y3)[k]? =Y2 u->W.cell? ((⟨w.heap.size,0,Y1⟩:abR).add k)=Y2 u):=by
  intro W hW k u hu
  have hv:ae W w.heap.size #[Yg Yh z,Yp ra rn rc] 265:=by unfold ae;rw[hW];exact ae.new w _ _
  rw[Zn,hv.cell,Ze];simpa using hu
 have MM:=hd (hlast)
 have HNL:Yf (0<nh):=by show _<_;have:=(List.getElem?_eq_some_iff.1 hlast).1;omega
 go_enter Tryz.func271,Tryz.ntmps271;go_wp2_with fail
 go_region
 go_upto_region 1 with fail
 go_cut[]from 21 (fun wx=>∃ao1 cp1,Yf (ax [gl,lb] w wx/\ae wx lb #[Yp ao1 (nl+1) cp1,vkl] 124/\wx.ownsRow 0 265 2 (Yp ao1 (nl+1) cp1) (nl+1) (ah (el++[(Yg Yh z,Yp ra rn rc)]))/\∀k∈own (Yp ao1 (nl+1) cp1),k=gl\/(w.heap.size<=k/\k<wx.heap.size)))
 case first=>
  go_region_law (first
   |(refine step_append_lies (abA (abA (afZ w (Yk #[Yg Yh z,Yp ra rn rc] 265)))) rfl (.tmp 25) (.tmp 33) 121 rfl 0 265 i0 (Yj #[Yg Yh 0,Yp Y1 0 0]) 2 32 aeX hi0 hz0 hzs hzb rfl (by decide) (Yp (Y2 ⟨gl,0,Y1⟩) nl cl) nl (ah el) (by simp[afk,afl]) (HOL.o _ rfl) ⟨w.heap.size,0,Y1⟩ 1 1 [Yg Yh z,Yp ra rn rc] (by simp[afk,afl]) rfl (HNW.o _ rfl) (by intro u hu;simp at hu;rcases hu with rfl|rfl<;>rfl) (by omega) (by have:=HNS.o;unfold aaV;omega) (by have:=HNS.o;omega) (aeR _) _ rfl ?_
     intro g1 cp1 w1 o1 t1 s1 sl1;have T1:ax [gl] w w1:=(ax.of (by go_grown)).trans (ax.grown t1 (F:=[gl]) (fun k hk=>by simp[aaR]at hk;simp[hk])) (fun _ h=> .inl h);have S1:g1=gl\/(w.heap.size<=g1/\g1<w1.heap.size):=s1.imp (fun h=>by simp[aaR]at h;exact h.symm) (fun h=>⟨by rw[h];simp,sl1⟩);have hb1:=T1.blk HP.o.lblk (by simp[HAP.o]);have x0:=hb1.d1;have xf:=hb1.free 0;have xl:=hb1.lt
     have HR:Yf (ax [gl,lb] w (w1.setCell ⟨lb,0,Y1⟩ (Yp (Y2 ⟨g1,0,Y1⟩) (nl+1) cp1))/\ae (w1.setCell ⟨lb,0,Y1⟩ (Yp (Y2 ⟨g1,0,Y1⟩) (nl+1) cp1)) lb #[Yp (Y2 ⟨g1,0,Y1⟩) (nl+1) cp1,vkl] 124/\(w1.setCell ⟨lb,0,Y1⟩ (Yp (Y2 ⟨g1,0,Y1⟩) (nl+1) cp1)).ownsRow 0 265 2 (Yp (Y2 ⟨g1,0,Y1⟩) (nl+1) cp1) (nl+1) (ah (el++[(Yg Yh z,Yp ra rn rc)]))/\∀k∈own (Yp (Y2 ⟨g1,0,Y1⟩) (nl+1) cp1),k=gl\/(w.heap.size<=k/\k<(w1.setCell ⟨lb,0,Y1⟩ (Yp (Y2 ⟨g1,0,Y1⟩) (nl+1) cp1)).heap.size)):=by
      refine⟨(T1.more (by simp)).set _ _ (.inl (by simp)),by simpa using hb1.set 0 (Yp (Y2 ⟨g1,0,Y1⟩) (nl+1) cp1),?_,fun k hk=>by simp[own,aaR]at hk;subst hk;simpa using S1⟩;rw[gy]
      refine aK o1 fun g hg=>Zb _ _ _ _ ?_
      simp[own,aaR]at hg;subst hg;rcases S1 with h|h
      · rw[h];simp[HAP.o]
      exact fun e=>by have e2:g=lb:=e;have:=HP.o.lblk.lt;omega
     clear o1 t1 s1 T1 hb1 S1))
  all_goals
   go_wp2_with fail;go_meet;exact⟨_,_,HR⟩
 case rest=>
  obtain⟨ao1,cp1,HR1⟩:=hcut
  rename Y4=>w1
  have hT1:=HR1.o.1;have B1:=hT1.blk HP.o.blk (by simp[HAP.o]);have L1:=hT1.blk HP.o.hblk (by simp[HAP.o]);have E1:=af HP.o.bz hT1 (fun g hg=>by simp[own,aaR]at hg;subst hg;simp[HAP.o]);have O1:=af HP.o.hents hT1 (fun g hg=>by simp[own,aaR]at hg;subst hg;simp[HAP.o]);rw[HNS.o.2.1]at E1;rw[HNS.o.2.2.2.1]at O1;have c0:=(B1.cell off).trans HP.o.c0;rw[HNS.o.2.1]at c0;have lbb:=B1.lt;have llb:=L1.lt;have lge:=aQ E1 ge (by simp[own,aaR]);have HTO:=hd (jD hb 0 0 (Yp (Y2 ⟨gh,0,Y1⟩) eh.length ch) eh (Yg Yh z',Yp ra' rn' rc') _ _ w1.drew (by have:=HP.o.small;omega) L1.drew rfl (by have:=O1;rw[HNS.o.2.2.2.1];exact this) MM.o HP.o.kT.2.2 (by simp[own,aaR,HAP.o]));rw[HNS.o.2.2.2.1,show((0:Nat):Int)=0 from rfl]at HTO;obtain⟨h1,hh1⟩:∃h1,nh-1=h1:=⟨_,rfl⟩;rw[hh1]at HTO
  have HL1:Yf (h1+1=nh):=by show _=_;have:=HNL.o;omega
  have HB1:=hd B1;have HE1:=hd E1;have HT1:=hd hT1
  go_upto_region 2 with fail
  go_cut[]from 37 (fun wy=>∃ao2 cp2,Yf (ax [gl,lb,hb,gh,ge] w wy/\ae wy hb #[Yp ao2 h1 cp2,vkh] 124/\wy.ownsRow 0 265 2 (Yp ao2 h1 cp2) h1 (ah (eh.eraseIdx 0))/\own (Yp ao2 h1 cp2)=[gh]/\wy.ownsRow 0 265 2 (Yp (Y2 ⟨ge,0,Y1⟩) ne ce) ne (ah (es.set j (Yg Yh z',Yp ra' rn' rc')))/\ax [hb,gh,ge] w1 wy))
  case first=>
   go_region_with (first
    |(go_at_call 207
      refine HTO.o.mono ?_;rintro x w2 ⟨rfl,v2,y1,y2,y3,y4⟩;obtain⟨ao2,cp2,rfl⟩:=ai y4;have T2:ax [hb,gh] w1 w2:=y2.bW;have B2:=T2.blk HB1.o (by simp[HAP.o]);have cb2:=(B2.cell off).trans HP.o.c0;rw[HNS.o.2.1]at cb2;have lb2:=B2.lt;have E2:=af HE1.o T2 (fun g hg=>by simp[own,aaR]at hg;subst hg;simp[HAP.o]);obtain⟨g2,cap2,II,hv2,hg2,_,_,hs2,ht2⟩:=aA E2 (by omega);injection hv2 with q1 q2 q3;injection q1 with q1;injection q1 with q1;subst q1;have G2:ae w2 ge II 265:=hg2;obtain⟨u0,hu0⟩:∃u,II[j*2]? =Y2 u:=⟨_,aga (by omega)⟩;obtain⟨u1,hu1⟩:∃u,II[j*2+1]? =Y2 u:=⟨_,aga (by omega)⟩;have p0:=(G2.cell (j*2)).trans hu0;have p1:=(G2.cell (j*2+1)).trans hu1;have pf0:=G2.free (j*2);have pf1:=G2.free (j*2+1);have pl:=G2.lt
      have HR:Yf (ax [gl,lb,hb,gh,ge] w ((w2.setCell ⟨ge,j*2,Y1⟩ (Yg Yh z')).setCell ⟨ge,j*2+1,Y1⟩ (Yp ra' rn' rc'))/\ae ((w2.setCell ⟨ge,j*2,Y1⟩ (Yg Yh z')).setCell ⟨ge,j*2+1,Y1⟩ (Yp ra' rn' rc')) hb #[Yp ao2 h1 cp2,vkh] 124/\((w2.setCell ⟨ge,j*2,Y1⟩ (Yg Yh z')).setCell ⟨ge,j*2+1,Y1⟩ (Yp ra' rn' rc')).ownsRow 0 265 2 (Yp ao2 h1 cp2) h1 (ah (eh.eraseIdx 0))/\own (Yp ao2 h1 cp2)=[gh]/\((w2.setCell ⟨ge,j*2,Y1⟩ (Yg Yh z')).setCell ⟨ge,j*2+1,Y1⟩ (Yp ra' rn' rc')).ownsRow 0 265 2 (Yp (Y2 ⟨ge,0,Y1⟩) ne ce) ne (ah (es.set j (Yg Yh z',Yp ra' rn' rc')))/\ax [hb,gh,ge] w1 ((w2.setCell ⟨ge,j*2,Y1⟩ (Yg Yh z')).setCell ⟨ge,j*2+1,Y1⟩ (Yp ra' rn' rc'))):=by
       have hown:own (Yp ao2 h1 cp2)=[gh]:=y1;have T3:ax [hb,gh,ge] w1 ((w2.setCell ⟨ge,j*2,Y1⟩ (Yg Yh z')).setCell ⟨ge,j*2+1,Y1⟩ (Yp ra' rn' rc')):=((T2.more (by simp)).set _ _ (.inl (by simp))).set _ _ (.inl (by simp));refine⟨(HT1.o.more (by simp)).trans T3 (fun x hx=> .inl (by simp at hx⊢;rcases hx with h|h|h<;>simp[h])),?_,?_,hown,Ck E2 (by omega) (by omega) _,T3⟩
       · have:=(y3.far ⟨ge,j*2,Y1⟩ (Yg Yh z') (by simp[HAP.o])).far ⟨ge,j*2+1,Y1⟩ (Yp ra' rn' rc') (by simp[HAP.o]);simpa using this
       refine aK y4 fun g hg=> ?_
       rw[hown]at hg;simp at hg;subst hg;rw[Zb _ _ _ _ (by simp[HAP.o]),Zb _ _ _ _ (by simp[HAP.o])]
      clear y1 y2 y3 y4 T2 B2 E2 hg2 hs2 ht2 G2 hu0 hu1 q2 q3))
   all_goals
    go_wp2_with fail;go_meet;exact⟨_,_,HR⟩
  case rest=>
   obtain⟨ao2,cp2,HR2⟩:=hcut
   rename Y4=>w2
   have L2:=HR2.o.2.2.2.2.2.blk HR1.o.2.1 (by simp[HAP.o]);have H2:=HR2.o.2.1;have ll2:=L2.lt;have lh2:=H2.lt
   have zh:Yf (Turned w w2 j (Yp (Y2 ⟨ge,0,Y1⟩) es.length ce) es lb hb (Yp (Y2 ⟨gl,0,Y1⟩) el.length cl) vkl (Yp (Y2 ⟨gh,0,Y1⟩) eh.length ch) vkh (Yg Yh z,Yp ra rn rc) (Yg Yh z',Yp ra' rn' rc') (Yp ao1 (nl+1) cp1) (Yp ao2 h1 cp2) (el++[(Yg Yh z,Yp ra rn rc)]) (eh.eraseIdx 0) (Yg Yh z',Yp ra' rn' rc') [] vkl vkh):=by
    obtain⟨q1,q2,q3,q4,q5,q6⟩:=HR2.o;obtain⟨r1,r2,r3,r4⟩:=HR1.o;obtain⟨n1,n2,n3,n4,_⟩:=HNS.o;have hl:=HL1.o
    have hlen:(eh.eraseIdx 0).length=h1:=by rw[afK (by omega)];omega
    have hsz:=q6.size
    have far:∀g∈own (Yp ao1 (nl+1) cp1),g∉[hb,gh,ge]:=fun g hg=>by
     rcases r4 g hg with h|h
     · subst h;simp[HAP.o]
     have:=HP.o.hblk.lt;have:=aQ HP.o.bz ge (by simp[own,aaR]);have:=aQ HP.o.hents gh (by simp[own,aaR]);simp;omega
    refine⟨q1.more (by simp[own,aaR]),q6.blk r2 (by simp[HAP.o]),q2,?_,?_,?_,fun k hk=>(r4 k hk).imp (fun h=>by simp[own,aaR,h]) (fun h=>⟨h.1,nlA h.2 hsz⟩),fun k hk=> .inl (by rw[q4]at hk;exact hk),.inr q4⟩
    · rw[aaN,n3];exact af r3 q6 far
    · rw[hlen];exact q3
    rw[n2];exact q5
   rcases HK.o with NL|⟨hin,hlast⟩
   · obtain⟨ka,kc,hvk⟩:=NL;have HVK:=hd hvk;have d1:=H2.cell 1;simp at d1;rw[hvk]at d1;go_wp2_with fail;refine(eF hb 0 ka kc _ lh2 d1).mono ?_;rintro x w3 ⟨rfl,rfl⟩;go_wp2_with fail
     go_end0
     exact⟨rfl,_,_,.inl ⟨⟨_,_,HVK.o⟩,zh.o⟩⟩
   obtain⟨gq,cq,curq,hvq,_,hqn,hqm,_,_⟩:=aA hin.lk (by have:=hin.pos;omega);obtain⟨gr,cr,curr,hvr,_,hrn,hrm,_,_⟩:=aA hin.hk (by have:=hin.pos;omega);have hap:=hin.apart;rw[hvq,hvr]at hap;simp only[oQ,aaP,aeQ,YW,afA,or_false,forall_eq,not_or]at hap
   have HAQ:Yf ((gq≠b/\gq≠lb/\gq≠hb/\gq≠ge/\gq≠gk/\gq≠gl/\gq≠gh/\gq≠gr)/\(gr≠b/\gr≠lb/\gr≠hb/\gr≠ge/\gr≠gk/\gr≠gl/\gr≠gh/\gr≠gq)):=by
    show(_/\_);refine⟨⟨?_,?_,?_,?_,?_,?_,?_,?_⟩,⟨?_,?_,?_,?_,?_,?_,?_,?_⟩⟩<;>simp only[hap,ne_eq,not_false_eq_true]
   have HIN:=hd hin;obtain⟨nq,hnq⟩:∃nq,pl.length=nq:=⟨_,rfl⟩;obtain⟨nr,hnr⟩:∃nr,ph.length=nr:=⟨_,rfl⟩;obtain⟨r1,hr1⟩:∃r1,nr-1=r1:=⟨_,rfl⟩;obtain⟨i1,hi1,hy0,hys,hyb⟩:=aaX Tryz.info266;have T02:=HR2.o.1;have QK:=af hin.lk T02 (fun g hg=>by rw[hvq]at hg;simp[own,aaR]at hg;subst hg;simp[HAQ.o]);have RK:=af hin.hk T02 (fun g hg=>by rw[hvr]at hg;simp[own,aaR]at hg;subst hg;simp[HAQ.o]);have HTK:=hd (oo hb 1 0 vkh ph kb _ _ w2.drew (by have:=hin.small;omega) H2.drew rfl RK hlast hin.one.2 (by rw[hvr];simp[own,aaR,HAQ.o,afY HAQ.o.2.2.2.1]));rw[hnr,hr1,hvr,show((0:Nat):Int)=0 from rfl]at HTK;have HNQ:Yf (pl.length=nq/\ph.length=nr/\r1+1=nr/\nq<=100/\nr<=100):=⟨hnq,hnr,by have:=hin.pos;omega,by have:=hin.small;omega,by have:=hin.small;omega⟩;have HVQ:=hd hvq;have HVR:=hd hvr;have HQK:=hd QK;have HL2:=hd L2;have d1:=L2.cell 1;have e1:=H2.cell 1;simp at d1 e1;rw[hvq,hnq]at d1;rw[hvr,hnr]at e1
   have hz:((nr:Int)==0)=false:=by simp;have:=hin.pos;omega
   go_wp2_with fail;refine(gz hb 0 nr _ cr _ hz lh2 e1).mono ?_;rintro x w2 ⟨rfl,rfl⟩;go_wp2_with fail
   go_region_law (first
    |(refine step_append_lies (afZ w3 (Yk #[Ym (Y2 ⟨kb,0,Y1⟩)] 266)) rfl (.tmp 54) (.tmp 59) 122 rfl 0 266 i1 (.pointer Y1) 1 8 aeY hi1 hy0 hys hyb rfl (by decide) (Yp (Y2 ⟨gq,0,Y1⟩) nq cq) nq pl (by simp[afk,afl]) HQ3.o ⟨w3.heap.size,0,Y1⟩ 1 1 [Ym (Y2 ⟨kb,0,Y1⟩)] (by simp[afk,afl]) rfl HN3.o (by intro u hu;simp at hu;subst hu;rfl) (by omega) (by have:=HNQ.o;unfold aaV;omega) (by have:=HNQ.o;omega) (aeR _) _ rfl ?_
      intro g4 cp4 w4 o4 t4 s4 sl4;have T4:ax [gq] (w3.alloc (Yk #[Ym (Y2 ⟨kb,0,Y1⟩)] 266)) w4:=ax.grown t4 (F:=[gq]) (fun k hk=>by simp[aaR]at hk;simp[hk]);have L4:=T4.blk (HL3.o.alloc (Yk #[Ym (Y2 ⟨kb,0,Y1⟩)] 266)) (by simp[afY HAQ.o.1.2.1]);have s5:=L4.cell 1;have s6:=L4.free 1;have s7:=L4.lt;simp at s5;rw[HVQ.o,HNQ.o.1]at s5;have HP4:Yf (g4=gq\/(w3.heap.size<g4/\g4<w4.heap.size)):=s4.imp (fun h=>by simp[aaR]at h;exact h.symm) (fun h=>⟨by rw[h];simp,sl4⟩);have HT4:=hd T4;have HO4:=hd o4;have HL4:=hd L4
      clear o4 t4 s4 T4 L4)
    |(go_simp
      go_at_call 320
      refine HTK.o.mono ?_;rintro x w3 ⟨rfl,v3,y1,y2,y3,y4⟩;obtain⟨ao3,cp3,rfl⟩:=ai y4;have T3:ax [hb,gr] w2 w3:=y2.bW;have L3:=T3.blk HL2.o (by simp[HAP.o,afY HAQ.o.2.2.1]);have Q3:=af HQK.o T3 (fun g hg=>by rw[HVQ.o]at hg;simp[own,aaR]at hg;subst hg;simp[HAQ.o]);have HQ3:=hd (Q3.alloc (Yk #[Ym (Y2 ⟨kb,0,Y1⟩)] 266));rw[HVQ.o,HNQ.o.1]at HQ3;have E3:=ae.new w3 #[Ym (Y2 ⟨kb,0,Y1⟩)] 266
      have HN3:Yf (∀k u,([Ym (Y2 ⟨kb,0,Y1⟩)]:List Y3)[k]? =Y2 u->(w3.alloc (Yk #[Ym (Y2 ⟨kb,0,Y1⟩)] 266)).cell? ((⟨w3.heap.size,0,Y1⟩:abR).add k)=Y2 u):=fun k u hu=>by
       rw[Zn,E3.cell,Ze];simpa using hu
      have s1:=L3.cell 1;simp at s1;rw[HVQ.o,HNQ.o.1]at s1
      have s2:(w3.alloc (Yk #[Ym (Y2 ⟨kb,0,Y1⟩)] 266)).cell? ⟨lb,1,Y1⟩=Y2 (Yp (Y2 ⟨gq,0,Y1⟩) nq cq):=by
       have:=(L3.alloc (Yk #[Ym (Y2 ⟨kb,0,Y1⟩)] 266)).cell 1;simp at this;rw[HVQ.o,HNQ.o.1]at this;exact this
      have s3:=L3.lt;have HT3:=hd T3;have HL3:=hd L3;have HY1:=hd y1;have HY3:=hd y3;have HY4:=hd y4
      clear y1 y2 y3 y4 T3 L3 Q3 E3))
   all_goals
    go_wp2_with fail
    go_end0
    have HF2:=Dx zh.o HT3.o HT4.o HY3.o HY1.o HY4.o HL4.o HO4.o HP4.o (by rw[HVQ.o];rfl) (by rw[HVR.o];rfl) HR2.o.2.2.2.1 HP.o.lblk.lt HP.o.hblk.lt (aQ HIN.o.lk gq (by rw[HVQ.o];simp[own,aaR])) (aQ HIN.o.hk gr (by rw[HVR.o];simp[own,aaR])) HAP.o HAQ.o HNQ.o;exact⟨rfl,_,_,.inr ⟨_,_,HF2.1,HF2.2⟩⟩
end Bt
namespace Bt
theorem wV{P:Program}(w:Y4)(t ty e:Y5)(i:TypeInfo)(ht:P.underlying t=Y2 (.slice e))(hi:P.info? e=Y2 i)(ka kb:Option abR)(kc kd:Nat):
   (Builtin.append_ #[t,t] ty #[Yp ka 0 kc,Yp kb 0 kd]).run P w=.ok (Yp ka 0 kc) w:=by
 cases ka<;>cases kb<;>simp[Builtin.append_,run_underlying ht,sizeOf,typeInfo,hi,Builtin.lenOf,Builtin.firstCells,storeCells,loadCells,loadCellsFrom]
theorem wE{P:Program}{ops:Array Oper}{o:Oper}{a:Act}{K:Act->Y4->Prop}{Q:Exit->Act->Y4->Prop}{E:Prop}
   (hg:o.guard=Y1) (d x:Operand) (t:Y5) (hop:o.op=Op.call {callee:=Callee.builtin Builtin.append,args:=#[d,x],argTypes:=#[t,t]})
   (v u:Y3) (hd:a.eval d=v) (hx:a.eval x=u) {v':Y3} {w':Y4} (hr:(Builtin.append_ #[t,t] o.type #[v,u]).run P w=.ok v' w') (hK:K (a.put o.dst v') w'):
   if Region.wanted o (yielded ops a.tmps)=true then Oper.wp P o a w K Q else E:=by
 have hw:Region.wanted o (yielded ops a.tmps)=true:=by simp[Region.wanted,hg]
 rw[if_pos hw];unfold Oper.wp;simp[execOp,hop,resolve,invoke,builtin,hd,hx,hr,Result.andThen];exact hK
structure Joined(w w':Y4)(b off j:Nat)(cs:Array Y3)(T:Y5)(ve vk:Y3)(es:List (Y3×Y3))(ps:List Y3)(lb:Nat)(vel:Y3)(el':List (Y3×Y3))(ve' vk' vel' vkl':Y3)(F:List Nat):Prop where
 gP:ax (b::lb::(own ve++own vk++own vel++F)) w w'
 blk:ae w' b ((cs.setIfInBounds (off+1) vk').setIfInBounds off ve') T
 bz:w'.ownsRow 0 265 2 ve' (es.length-1) (ah (es.eraseIdx j))
 kids:w'.ownsRow 0 266 1 vk' (ps.length-1) (ps.eraseIdx (j+1))
 lblk:ae w' lb #[vel',vkl'] 124
 lents:w'.ownsRow 0 265 2 vel' el'.length (ah el')
 eown:own ve'=own ve/\own vk'=own vk
 lown:∀k∈own vel',k∈own vel\/(w.heap.size<=k/\k<w'.heap.size)
theorem Mv{w1:Y4}{off k1' c1' g1 m:Nat}{cs:Array Y3}{ve' v0:Y3}{ces el:List (Y3×Y3)}{Qi:List Y3}{z:Int}{ra:Option abR}{rn rc:Nat}
   (T1:ax [b,gk] w w1) (K1:w1.ownsRow 0 266 1 (Yp (Y2 ⟨gk,0,Y1⟩) k1' c1') k1' Qi) (T2:ax [b,ge] w1 w2) (T3:ax [gl] (w2.alloc (Yk #[Yg Yh z,Yp ra rn rc] 265)) w3)
   (y3:ae w2 b ((cs.setIfInBounds (off+1) (Yp (Y2 ⟨gk,0,Y1⟩) k1' c1')).setIfInBounds off ve') T) (y4:w2.ownsRow 0 265 2 ve' m (ah ces)) (y1:own ve'=[ge])
   (L3:ae w3 lb #[v0,vkl] 124) (o3:w3.ownsRow 0 265 2 (Yp (Y2 ⟨g1,0,Y1⟩) (nl+1) cp1) (nl+1) (ah el++[Yg Yh z,Yp ra rn rc])) (s3:g1=gl\/(w2.heap.size<g1/\g1<w3.heap.size)) (llb:lb<w.heap.size)
   (hA:(b≠lb/\b≠hb/\lb≠hb/\b≠ge/\b≠gk/\b≠gl/\b≠gh/\lb≠ge/\lb≠gk/\lb≠gl/\lb≠gh/\hb≠ge/\hb≠gk/\hb≠gl/\hb≠gh/\ge≠gk/\ge≠gl/\ge≠gh/\gk≠gl/\gk≠gh/\gl≠gh)/\(lb≠b/\hb≠b/\hb≠lb/\ge≠b/\gk≠b/\gl≠b/\gh≠b/\ge≠lb/\gk≠lb/\gl≠lb/\gh≠lb/\ge≠hb/\gk≠hb/\gl≠hb/\gh≠hb/\gk≠ge/\gl≠ge/\gh≠ge/\gl≠gk/\gh≠gk/\gh≠gl)):
   ax [b,gk,ge,gl,lb] w (w3.setCell ⟨lb,0,Y1⟩ (Yp (Y2 ⟨g1,0,Y1⟩) (nl+1) cp1))/\ae (w3.setCell ⟨lb,0,Y1⟩ (Yp (Y2 ⟨g1,0,Y1⟩) (nl+1) cp1)) b ((cs.setIfInBounds (off+1) (Yp (Y2 ⟨gk,0,Y1⟩) k1' c1')).setIfInBounds off ve') T/\(w3.setCell ⟨lb,0,Y1⟩ (Yp (Y2 ⟨g1,0,Y1⟩) (nl+1) cp1)).ownsRow 0 265 2 ve' m (ah ces)/\own ve'=[ge]/\(w3.setCell ⟨lb,0,Y1⟩ (Yp (Y2 ⟨g1,0,Y1⟩) (nl+1) cp1)).ownsRow 0 266 1 (Yp (Y2 ⟨gk,0,Y1⟩) k1' c1') k1' Qi/\ae (w3.setCell ⟨lb,0,Y1⟩ (Yp (Y2 ⟨g1,0,Y1⟩) (nl+1) cp1)) lb #[Yp (Y2 ⟨g1,0,Y1⟩) (nl+1) cp1,vkl] 124/\(w3.setCell ⟨lb,0,Y1⟩ (Yp (Y2 ⟨g1,0,Y1⟩) (nl+1) cp1)).ownsRow 0 265 2 (Yp (Y2 ⟨g1,0,Y1⟩) (nl+1) cp1) (nl+1) (ah (el++[(Yg Yh z,Yp ra rn rc)]))/\(g1=gl\/(w.heap.size<=g1/\g1<(w3.setCell ⟨lb,0,Y1⟩ (Yp (Y2 ⟨g1,0,Y1⟩) (nl+1) cp1)).heap.size)):=by
 have h1:=T1.size;have h2:=T2.size;have TA:ax [gl] w2 w3:=((ax.refl [gl] w2).alloc _).trans T3 (fun _ h=> .inl h)
 have far:∀g,g≠lb->(w3.setCell ⟨lb,0,Y1⟩ (Yp (Y2 ⟨g1,0,Y1⟩) (nl+1) cp1)).heap[g]? =w3.heap[g]?:=fun g hg=>Zb _ _ _ _ hg
 refine⟨((((T1.more (by simp)).trans T2 (fun x hx=> .inl (by simp at hx⊢;rcases hx with h|h<;>simp[h]))).trans TA (fun x hx=> .inl (by simp at hx;simp[hx])))).set _ _ (.inl (by simp)),?_,?_,y1,?_,?_,?_,?_⟩
 · exact(TA.blk y3 (by simp[hA])).far ⟨lb,0,Y1⟩ _ (by simp[hA])
 · refine aK (af y4 TA fun g hg=>by rw[y1]at hg;simp at hg;subst hg;simp[hA]) fun g hg=>far g ?_
   rw[y1]at hg;simp at hg;subst hg;simp[hA]
 · refine aK (af (af K1 T2 fun g hg=>by simp[own,aaR]at hg;subst hg;simp[hA]) TA fun g hg=>by simp[own,aaR]at hg;subst hg;simp[hA]) fun g hg=>far g ?_
   simp[own,aaR]at hg;subst hg;simp[hA]
 · have:=L3.set 0 (Yp (Y2 ⟨g1,0,Y1⟩) (nl+1) cp1);simpa using this
 · rw[gy]
   refine aK o3 fun g hg=>far g ?_
   simp[own,aaR]at hg;subst hg;rcases s3 with h|h
   · rw[h];simp[hA]
   omega
 rcases s3 with h|h
 · exact .inl h
 right;simp;omega
theorem LX{off k1' c1' g1 g2 n2 m:Nat}{cs:Array Y3}{ve' v0:Y3}{ces el eh:List (Y3×Y3)}{Qi:List Y3}
   (hT:ax [b,gk,ge,gl,lb] w w2) (B2:ae w2 b ((cs.setIfInBounds (off+1) (Yp (Y2 ⟨gk,0,Y1⟩) k1' c1')).setIfInBounds off ve') T) (y4:w2.ownsRow 0 265 2 ve' m (ah ces)) (y1:own ve'=[ge]) (K2:w2.ownsRow 0 266 1 (Yp (Y2 ⟨gk,0,Y1⟩) k1' c1') k1' Qi)
   (hg1:g1=gl\/(w.heap.size<=g1/\g1<w2.heap.size)) (T3:ax [g1] w2 w3) (L3:ae w3 lb #[v0,vkl] 124) (o3:w3.ownsRow 0 265 2 (Yp (Y2 ⟨g2,0,Y1⟩) n2 cp2) n2 (ah el++ah eh)) (s3:g2=g1\/(w2.heap.size<=g2/\g2<w3.heap.size))
   (llb:lb<w.heap.size) (lb0:b<w.heap.size) (lge:ge<w.heap.size) (lgk:gk<w.heap.size)
   (hA:(b≠lb/\b≠hb/\lb≠hb/\b≠ge/\b≠gk/\b≠gl/\b≠gh/\lb≠ge/\lb≠gk/\lb≠gl/\lb≠gh/\hb≠ge/\hb≠gk/\hb≠gl/\hb≠gh/\ge≠gk/\ge≠gl/\ge≠gh/\gk≠gl/\gk≠gh/\gl≠gh)/\(lb≠b/\hb≠b/\hb≠lb/\ge≠b/\gk≠b/\gl≠b/\gh≠b/\ge≠lb/\gk≠lb/\gl≠lb/\gh≠lb/\ge≠hb/\gk≠hb/\gl≠hb/\gh≠hb/\gk≠ge/\gl≠ge/\gh≠ge/\gl≠gk/\gh≠gk/\gh≠gl)):
   ax [b,gk,ge,gl,lb] w (w3.setCell ⟨lb,0,Y1⟩ (Yp (Y2 ⟨g2,0,Y1⟩) n2 cp2))/\ae (w3.setCell ⟨lb,0,Y1⟩ (Yp (Y2 ⟨g2,0,Y1⟩) n2 cp2)) b ((cs.setIfInBounds (off+1) (Yp (Y2 ⟨gk,0,Y1⟩) k1' c1')).setIfInBounds off ve') T/\(w3.setCell ⟨lb,0,Y1⟩ (Yp (Y2 ⟨g2,0,Y1⟩) n2 cp2)).ownsRow 0 265 2 ve' m (ah ces)/\own ve'=[ge]/\(w3.setCell ⟨lb,0,Y1⟩ (Yp (Y2 ⟨g2,0,Y1⟩) n2 cp2)).ownsRow 0 266 1 (Yp (Y2 ⟨gk,0,Y1⟩) k1' c1') k1' Qi/\ae (w3.setCell ⟨lb,0,Y1⟩ (Yp (Y2 ⟨g2,0,Y1⟩) n2 cp2)) lb #[Yp (Y2 ⟨g2,0,Y1⟩) n2 cp2,vkl] 124/\(w3.setCell ⟨lb,0,Y1⟩ (Yp (Y2 ⟨g2,0,Y1⟩) n2 cp2)).ownsRow 0 265 2 (Yp (Y2 ⟨g2,0,Y1⟩) n2 cp2) n2 (ah (el++eh))/\(g2=gl\/(w.heap.size<=g2/\g2<(w3.setCell ⟨lb,0,Y1⟩ (Yp (Y2 ⟨g2,0,Y1⟩) n2 cp2)).heap.size)):=by
 have h1:=hT.size;have h3:=T3.size
 have n1:∀x,x<w.heap.size->x≠gl->x≠g1:=fun x hx hne e=>by
  rcases hg1 with h|h
  · exact hne (e.trans h)
  omega
 have far:∀g,g≠lb->(w3.setCell ⟨lb,0,Y1⟩ (Yp (Y2 ⟨g2,0,Y1⟩) n2 cp2)).heap[g]? =w3.heap[g]?:=fun g hg=>Zb _ _ _ _ hg
 refine⟨(hT.trans T3 (fun x hx=> ?_)).set _ _ (.inl (by simp)),?_,?_,y1,?_,?_,?_,?_⟩
 · simp at hx;subst hx;rcases hg1 with h|h
   · left;simp[h]
   exact .inr h.1
 · exact(T3.blk B2 (by simp;exact n1 b lb0 (by simp[hA]))).far ⟨lb,0,Y1⟩ _ (by simp[hA])
 · refine aK (af y4 T3 fun g hg=>by rw[y1]at hg;simp at hg;subst hg;simp;exact n1 _ lge (by simp[hA])) fun g hg=>far g ?_
   rw[y1]at hg;simp at hg;subst hg;simp[hA]
 · refine aK (af K2 T3 fun g hg=>by simp[own,aaR]at hg;subst hg;simp;exact n1 _ lgk (by simp[hA])) fun g hg=>far g ?_
   simp[own,aaR]at hg;subst hg;simp[hA]
 · have:=L3.set 0 (Yp (Y2 ⟨g2,0,Y1⟩) n2 cp2);simpa using this
 · rw[gy]
   refine aK o3 fun g hg=>far g ?_
   simp[own,aaR]at hg;subst hg;rcases s3 with h|h
   · rw[h];exact(n1 lb llb (by simp[hA])).symm
   omega
 rcases s3 with h|h
 · rcases hg1 with h'|h'
   · exact .inl (h.trans h')
   right;simp;omega
 right;simp;omega
theorem FM(w:Y4)(b off j:Nat)(cs:Array Y3)(T:Y5)(ve vk:Y3)(es:List (Y3×Y3))(ps:List Y3)(lb hb:Nat)(vel vkl veh vkh:Y3)(el eh:List (Y3×Y3))(mid:Y3×Y3)(pl ph:List Y3)
   (h:Sd w b off j cs T ve vk es ps lb hb vel vkl veh vkh el eh) (hk:((∃ka kc,vkl=Yp ka 0 kc)/\∃ka kc,vkh=Yp ka 0 kc)\/J9 w (b::lb::hb::(own ve++own vk++own vel++own veh)) vkl vkh pl ph) (hmid:es[j]? =Y2 mid) (hone:∀u∈ps,u.oneCell'=true) (hel:0<el.length) (heh:0<eh.length):
   aaT Zc 272 #[Ym (Y2 ⟨b,off,Y1⟩),Yg Yh j] w fun x w'=>x=Yl (Yn #[])/\∃ve' vk' vel',((∃ka kc,vkl=Yp ka 0 kc)/\Joined w w' b off j cs T ve vk es ps lb vel (el++mid::eh) ve' vk' vel' vkl [])\/
     ∃vkl',Joined w w' b off j cs T ve vk es ps lb vel (el++mid::eh) ve' vk' vel' vkl' (own vkl)/\w'.ownsRow 0 266 1 vkl' (pl++ph).length (pl++ph)/\∀k∈own vkl',k∈own vkl\/(w.heap.size<=k/\k<w'.heap.size):=by
 obtain⟨gk,ck,rV,rfl,hgk,hkn,hkm,hkc,hkt⟩:=aA h.kids (by have:=(List.getElem?_eq_some_iff.1 h.lo).1;omega);obtain⟨ge,ce,cure,rfl,hge,hen,hem,hec,het⟩:=aA h.bz (by have:=(List.getElem?_eq_some_iff.1 hmid).1;omega);obtain⟨gh,ch,Vn,rfl,hgh,hhn,hhm,hhc,hht⟩:=aA h.hents (by omega);obtain⟨gl,cl,UX,rfl,hgl,hln,hlm,hlc,hlt⟩:=aA h.lents (by omega);have hap:=qV h.apart;simp only[oQ,aaP,aeQ,afA,or_false,forall_eq]at hap;obtain⟨a1,a2,a3,⟨a4,a5,a6,a7⟩,⟨a8,a9,a10,a11⟩,⟨a12,a13,a14,a15⟩,⟨a16,a17,a18⟩,⟨a19,a20⟩,a21⟩:=hap;have HAP:Yf ((b≠lb/\b≠hb/\lb≠hb/\b≠ge/\b≠gk/\b≠gl/\b≠gh/\lb≠ge/\lb≠gk/\lb≠gl/\lb≠gh/\hb≠ge/\hb≠gk/\hb≠gl/\hb≠gh/\ge≠gk/\ge≠gl/\ge≠gh/\gk≠gl/\gk≠gh/\gl≠gh)/\(lb≠b/\hb≠b/\hb≠lb/\ge≠b/\gk≠b/\gl≠b/\gh≠b/\ge≠lb/\gk≠lb/\gl≠lb/\gh≠lb/\ge≠hb/\gk≠hb/\gl≠hb/\gh≠hb/\gk≠ge/\gl≠ge/\gh≠ge/\gl≠gk/\gh≠gk/\gh≠gl)):=⟨⟨a1,a2,a3,a4,a5,a6,a7,a8,a9,a10,a11,a12,a13,a14,a15,a16,a17,a18,a19,a20,a21⟩,⟨afY a1,afY a2,afY a3,afY a4,afY a5,afY a6,afY a7,afY a8,afY a9,afY a10,afY a11,afY a12,afY a13,afY a14,afY a15,afY a16,afY a17,afY a18,afY a19,afY a20,afY a21⟩⟩;clear a1 a2 a3 a4 a5 a6 a7 a8 a9 a10 a11 a12 a13 a14 a15 a16 a17 a18 a19 a20 a21;obtain⟨hj,hjm⟩:=List.getElem?_eq_some_iff.1 hmid;obtain⟨hj1,_⟩:=List.getElem?_eq_some_iff.1 h.hi;obtain⟨z,ra,rn,rc,rfl⟩:=h.kT.1 mid (afx hmid);have HP:=hd h;have HK:=hd hk;have c0:=(h.blk.cell off).trans h.c0;have c1:=(h.blk.cell (off+1)).trans h.c1;have k0:=((show ae w gk rV 266 from hgk).cell j).trans (cell_of hkt h.lo);have k1:=((show ae w gk rV 266 from hgk).cell (j+1)).trans (cell_of hkt h.hi);have m0:=((show ae w ge cure 265 from hge).cell (j*2)).trans (cell_of het (by have:=fo es j hj;rw[hjm]at this;exact this));have m1:=((show ae w ge cure 265 from hge).cell (j*2+1)).trans (cell_of het (by have:=eZ es j hj;rw[hjm]at this;exact this));have hc0:=h.hblk.d1;have lc0:=h.lblk.d1;have lbb:=h.blk.lt;have lgk:=(geA.1 hgk).1;have lge:=(geA.1 hge).1;have lhb:=h.hblk.lt;have llb:=h.lblk.lt;obtain⟨nk,hnk⟩:∃nk,ps.length=nk:=⟨_,rfl⟩;obtain⟨ne,hne⟩:∃ne,es.length=ne:=⟨_,rfl⟩;obtain⟨nl,hnl⟩:∃nl,el.length=nl:=⟨_,rfl⟩;obtain⟨nh,hnh⟩:∃nh,eh.length=nh:=⟨_,rfl⟩;rw[hnk]at c1 hj1;rw[hne]at c0 hj;rw[hnh]at hc0;rw[hnl]at lc0;obtain⟨j1,hjj⟩:∃j1,j+1=j1:=⟨_,rfl⟩
 rw[hjj]at k1 hj1;have HNS:Yf (ps.length=nk/\es.length=ne/\el.length=nl/\eh.length=nh/\j+1=j1/\nk<=100/\ne<=100/\nl<=100/\nh<=100):=⟨hnk,hne,hnl,hnh,hjj,by have:=h.small;omega⟩
 have wj1:IntKind.i64.wrap ((j:Int)+1)=(j1:Int):=by rw[show(j:Int)+1=(j1:Int) by omega];exact jC _ (by omega) (by have:=h.small;omega)
 have i1:(j:Int)<(ne:Int):=by omega
 have i2:(j1:Int)<(nk:Int):=by omega
 have i3:(j:Int)<(nk:Int):=by omega
 have n3:j<nk:=by omega
 obtain⟨i0,hi0,hz0,hzs,hzb⟩:=aaX Ti.Tryz.info265;have lgh:=(geA.1 hgh).1;have lgl:=(geA.1 hgl).1;have HTK:=hd (oo b (off+1) (j+1) (Yp (Y2 ⟨gk,0,Y1⟩) ps.length ck) ps hb cs T w.drew (by have:=h.small;omega) h.blk.drew h.c1 h.kids h.hi hone (by simp[own,aaR,HAP.o]));rw[hnk,hjj]at HTK;obtain⟨k1',Ag⟩:∃k1',nk-1=k1':=⟨_,rfl⟩;rw[Ag]at HTK;have HK1:Yf (k1'+1=nk/\j<k1'):=⟨by omega,by omega⟩
 have HLO:Yf ((ps.eraseIdx j1)[j]? =Y2 (Ym (Y2 ⟨lb,0,Y1⟩))):=by
  show _=_;rw[<-hjj,List.getElem?_eraseIdx_of_lt (by omega)];exact h.lo
 have Wq:=hd hmid
 have HNH:Yf (0<nh):=by show _<_;omega
 have ik:(j:Int)<(k1':Int):=by omega
 have nk1:j<k1':=by omega
 clear hk hnk hne hnl hnh hjj hmid hel heh hkt het hht hlt hgk hge hgh hgl h hjm Ag;go_enter Tryz.func272,Tryz.ntmps272
 go_upto_region 0 with fail
 go_cut[4,5]from 6 (fun s4 s5 wx=>s4=Ym (Y2 ⟨lb,0,Y1⟩)/\s5=Ym (Y2 ⟨hb,0,Y1⟩)/\∃c1',Yf (ax [b,gk] w wx/\ae wx b (cs.setIfInBounds (off+1) (Yp (Y2 ⟨gk,0,Y1⟩) k1' c1')) T/\wx.ownsRow 0 266 1 (Yp (Y2 ⟨gk,0,Y1⟩) k1' c1') k1' (ps.eraseIdx j1)))
 case first=>
  go_region_with (first
   |(go_at_call 320
     refine HTK.o.mono ?_;rintro x w1 ⟨rfl,v1,y1,y2,y3,y4⟩;obtain⟨g1,c1',fO,hv1,hg1,_,_,_,ht1⟩:=aA y4 (by have:=HK1.o;omega)
     have hgg:g1=gk:=by rw[hv1]at y1;simpa[own,aaR]using y1
     subst hgg;subst hv1
     have s1:w1.cell? ⟨b,off+1,Y1⟩=Y2 (Yp (Y2 ⟨g1,0,Y1⟩) k1' c1'):=by
      rw[y3.cell];rw[Array.getElem?_setIfInBounds_self,if_pos (geA.1 HP.o.c1).1]
     have s2:w1.cell? ⟨g1,j,Y1⟩=Y2 (Ym (Y2 ⟨lb,0,Y1⟩)):=((show ae w1 g1 fO 266 from hg1).cell j).trans (cell_of ht1 HLO.o);have s3:=y3.lt;have s4:=(geA.1 hg1).1;have HR:Yf (ax [b,g1] w w1/\ae w1 b (cs.setIfInBounds (off+1) (Yp (Y2 ⟨g1,0,Y1⟩) k1' c1')) T/\w1.ownsRow 0 266 1 (Yp (Y2 ⟨g1,0,Y1⟩) k1' c1') k1' (ps.eraseIdx j1)):=⟨y2.bW,y3,y4⟩
     clear y1 y2 y3 y4 hg1 ht1))
  all_goals
   go_wp2_with fail;go_meet;exact⟨rfl,rfl,_,HR⟩
 case rest=>
  obtain⟨rfl,rfl,c1',HR0⟩:=hcut
  rename Y4=>w1
  clear HTK c0 c1 k0 k1 m0 m1 hc0 lc0 lbb lgk lge lhb llb lgh lgl wj1;have T1:=HR0.o.1;have B1:=HR0.o.2.1;have L1:=T1.blk HP.o.lblk (by simp[HAP.o]);have E1:=af HP.o.bz T1 (fun g hg=>by simp[own,aaR]at hg;subst hg;simp[HAP.o]);have O1:=af HP.o.lents T1 (fun g hg=>by simp[own,aaR]at hg;subst hg;simp[HAP.o]);have hoff:=(geA.1 HP.o.c0).1;have HTO:=hd (jD b off j (Yp (Y2 ⟨ge,0,Y1⟩) es.length ce) es (Yg Yh z,Yp ra rn rc) _ T w1.drew (by have:=HP.o.small;omega) B1.drew (by rw[Array.getElem?_setIfInBounds_ne (by omega)];exact HP.o.c0) E1 Wq.o HP.o.kT.1 (by simp[own,aaR,HAP.o]));rw[HNS.o.2.1]at HTO;rw[HNS.o.2.2.1]at O1;have d0:=L1.d1;rw[HNS.o.2.2.1]at d0;have llb:=L1.lt;have HL1:=hd L1;have HO1:=hd O1;have HT1:=hd T1;have UZ:=hd HR0.o.2.2;clear T1 B1 L1 E1 O1 hoff
  go_upto_region 1 with fail
  go_cut[]from 19 (fun wx=>∃ve' g1 cp1,Yf (ax [b,gk,ge,gl,lb] w wx/\ae wx b ((cs.setIfInBounds (off+1) (Yp (Y2 ⟨gk,0,Y1⟩) k1' c1')).setIfInBounds off ve') T/\wx.ownsRow 0 265 2 ve' (ne-1) (ah (es.eraseIdx j))/\own ve'=[ge]/\wx.ownsRow 0 266 1 (Yp (Y2 ⟨gk,0,Y1⟩) k1' c1') k1' (ps.eraseIdx j1)/\ae wx lb #[Yp (Y2 ⟨g1,0,Y1⟩) (nl+1) cp1,vkl] 124/\wx.ownsRow 0 265 2 (Yp (Y2 ⟨g1,0,Y1⟩) (nl+1) cp1) (nl+1) (ah (el++[(Yg Yh z,Yp ra rn rc)]))/\(g1=gl\/(w.heap.size<=g1/\g1<wx.heap.size))))
  case first=>
   go_region_law (first
    |(refine step_append_lies (afZ w2 (Yk #[Yg Yh z,Yp ra rn rc] 265)) rfl (.tmp 23) (.tmp 29) 121 rfl 0 265 i0 (Yj #[Yg Yh 0,Yp Y1 0 0]) 2 32 aeX hi0 hz0 hzs hzb rfl (by decide) (Yp (Y2 ⟨gl,0,Y1⟩) nl cl) nl (ah el) (by simp[afk,afl]) HQ2.o ⟨w2.heap.size,0,Y1⟩ 1 1 [Yg Yh z,Yp ra rn rc] (by simp[afk,afl]) rfl HN2.o (by intro u hu;simp at hu;rcases hu with rfl|rfl<;>rfl) (by omega) (by have:=HNS.o;unfold aaV;omega) (by have:=HNS.o;omega) (aeR _) _ rfl ?_
      intro g1 cp1 w3 o3 t3 s3 sl3;have T3:ax [gl] (w2.alloc (Yk #[Yg Yh z,Yp ra rn rc] 265)) w3:=ax.grown t3 (F:=[gl]) (fun k hk=>by simp[aaR]at hk;simp[hk]);have L3:=T3.blk (HL2.o.alloc (Yk #[Yg Yh z,Yp ra rn rc] 265)) (by simp[HAP.o]);have s5:=L3.d1;have s6:=L3.free 0;have s7:=L3.lt;rw[HNS.o.2.2.1]at s5;have S3:g1=gl\/(w2.heap.size<g1/\g1<w3.heap.size):=s3.imp (fun h=>by simp[aaR]at h;exact h.symm) (fun h=>⟨by rw[h];simp,sl3⟩);have HT3:=hd T3;have HO3:=hd o3;have HL3:=hd L3;have HS3:=hd S3
      clear o3 t3 s3 T3 L3 S3)
    |(go_simp
      go_at_call 207
      refine HTO.o.mono ?_;rintro x w2 ⟨rfl,ve2,y1,y2,y3,y4⟩;have T2:ax [b,ge] w1 w2:=y2.bW;have L2:=T2.blk HL1.o (by simp[HAP.o]);have Q2:=af HO1.o T2 (fun g hg=>by simp[own,aaR]at hg;subst hg;simp[HAP.o]);have HQ2:=hd (Q2.alloc (Yk #[Yg Yh z,Yp ra rn rc] 265));have E2:=ae.new w2 #[Yg Yh z,Yp ra rn rc] 265
      have HN2:Yf (∀k u,([Yg Yh z,Yp ra rn rc]:List Y3)[k]? =Y2 u->(w2.alloc (Yk #[Yg Yh z,Yp ra rn rc] 265)).cell? ((⟨w2.heap.size,0,Y1⟩:abR).add k)=Y2 u):=fun k u hu=>by
       rw[Zn,E2.cell,Ze];simpa using hu
      have s1:=L2.d1;rw[HNS.o.2.2.1]at s1
      have s2:(w2.alloc (Yk #[Yg Yh z,Yp ra rn rc] 265)).cell? ⟨lb,0,Y1⟩=Y2 (Yp (Y2 ⟨gl,0,Y1⟩) nl cl):=by
       have:=(L2.alloc (Yk #[Yg Yh z,Yp ra rn rc] 265)).cell 0;simp at this;rw[HNS.o.2.2.1]at this;exact this
      have s3:=L2.lt;have HT2:=hd T2;have HL2:=hd L2;have HY1:=hd y1;have HY3:=hd y3;have HY4:=hd y4
      clear y1 y2 y3 y4 T2 L2 Q2 E2))
   all_goals
    go_wp2_with fail;go_meet;exact⟨_,_,_,Mv HT1.o UZ.o HT2.o HT3.o HY3.o HY4.o HY1.o HL3.o HO3.o HS3.o HP.o.lblk.lt HAP.o⟩
  case rest=>
   obtain⟨ve',g1,cp1,HR1⟩:=hcut
   rename Y4=>w2
   clear HTO d0 llb HL1 HO1 HT1 UZ HR0;obtain⟨q1,q2,q3,q4,q5,q6,q7,q8⟩:=HR1.o;have H2:=q1.blk HP.o.hblk (by simp[HAP.o]);have O2:=af HP.o.hents q1 (fun g hg=>by simp[own,aaR]at hg;subst hg;simp[HAP.o]);rw[HNS.o.2.2.2.1]at O2;have d0:=q6.d1;have e0:=H2.d1;rw[HNS.o.2.2.2.1]at e0;have ll2:=q6.lt;have lh2:=H2.lt;have HNW:=hd (O2.cells (g:=gh) rfl);have HOW:Yf (w2.drew.ownsRow 0 265 2 (Yp (Y2 ⟨g1,0,Y1⟩) (nl+1) cp1) (nl+1) (ah (el++[(Yg Yh z,Yp ra rn rc)]))):=q7
   have HLN:Yf ((ah eh).length=nh*2):=by show _=_;rw[fe,HNS.o.2.2.2.1]
   have HL2:=hd q6
   have HLG:Yf (¬lb=g1):=by
    show¬_;intro e;rcases q8 with h|h
    · exact absurd (e.trans h) (by simp[HAP.o])
    have:=HP.o.lblk.lt;omega
   go_upto_region 2 with fail
   go_cut[]from 33 (fun wy=>∃g2 cp2,Yf (ax [b,gk,ge,gl,lb] w wy/\ae wy b ((cs.setIfInBounds (off+1) (Yp (Y2 ⟨gk,0,Y1⟩) k1' c1')).setIfInBounds off ve') T/\wy.ownsRow 0 265 2 ve' (ne-1) (ah (es.eraseIdx j))/\own ve'=[ge]/\wy.ownsRow 0 266 1 (Yp (Y2 ⟨gk,0,Y1⟩) k1' c1') k1' (ps.eraseIdx j1)/\ae wy lb #[Yp (Y2 ⟨g2,0,Y1⟩) (nl+1+nh) cp2,vkl] 124/\wy.ownsRow 0 265 2 (Yp (Y2 ⟨g2,0,Y1⟩) (nl+1+nh) cp2) (nl+1+nh) (ah ((el++[(Yg Yh z,Yp ra rn rc)])++eh))/\(g2=gl\/(w.heap.size<=g2/\g2<wy.heap.size))))
   case first=>
    go_region_law (first
     |(refine step_append_lies (abA w2) rfl (.tmp 37) (.tmp 41) 121 rfl 0 265 i0 (Yj #[Yg Yh 0,Yp Y1 0 0]) 2 32 aeX hi0 hz0 hzs hzb rfl (by decide) (Yp (Y2 ⟨g1,0,Y1⟩) (nl+1) cp1) (nl+1) (ah (el++[(Yg Yh z,Yp ra rn rc)])) (by simp[afk,afl]) HOW.o ⟨gh,0,Y1⟩ nh ch (ah eh) (by simp[afk,afl]) HLN.o HNW.o (jW HP.o.kT.2.2) HNH.o (by have:=HNS.o;unfold aaV;omega) (by have:=HNS.o;omega) (aeR _) _ rfl ?_
       intro g2 cp2 w3 o3 t3 s3 sl3;have T3:ax [g1] w2 w3:=(ax.grown t3 (F:=[g1]) (fun k hk=>by simp[aaR]at hk;simp[hk])).bW;have L3:=T3.blk HL2.o (by simp;exact HLG.o);have s5:=L3.d1;have s6:=L3.free 0;have s7:=L3.lt;have S3:g2=g1\/(w2.heap.size<=g2/\g2<w3.heap.size):=s3.imp (fun h=>by simp[aaR]at h;exact h.symm) (fun h=>⟨by rw[h];simp,sl3⟩);have HT3:=hd T3;have HO3:=hd o3;have HL3:=hd L3;have HS3:=hd S3
       clear o3 t3 s3 T3 L3 S3))
    all_goals
     go_wp2_with fail;go_meet;exact⟨_,_,LX HR1.o.1 HR1.o.2.1 HR1.o.2.2.1 HR1.o.2.2.2.1 HR1.o.2.2.2.2.1 HR1.o.2.2.2.2.2.2.2 HT3.o HL3.o HO3.o HS3.o HP.o.lblk.lt HP.o.blk.lt (aQ HP.o.bz ge (by simp[own,aaR])) (aQ HP.o.kids gk (by simp[own,aaR])) HAP.o⟩
   case rest=>
    obtain⟨g2,cp2,HR2⟩:=hcut
    rename Y4=>w3
    obtain⟨q1,q2,q3,q4,q5,q6,q7,q8⟩:=HR2.o;have H2:=q1.blk HP.o.hblk (by simp[HAP.o]);have d1:=q6.cell 1;have f1:=q6.free 1;have e1:=H2.cell 1;simp at d1 e1;have ll2:=q6.lt;have lh2:=H2.lt
    have zh:∀W vkl' F,ax (b::lb::(own (Yp (Y2 ⟨ge,0,Y1⟩) es.length ce)++own (Yp (Y2 ⟨gk,0,Y1⟩) ps.length ck)++own (Yp (Y2 ⟨gl,0,Y1⟩) el.length cl)++F)) w W->(∀g,g<w3.heap.size->g≠lb->g∉F->W.heap[g]? =w3.heap[g]?)->w3.heap.size<=W.heap.size->b∉F->ge∉F->gk∉F->g2∉F->ae W lb #[Yp (Y2 ⟨g2,0,Y1⟩) (nl+1+nh) cp2,vkl'] 124->Joined w W b off j cs T (Yp (Y2 ⟨ge,0,Y1⟩) es.length ce) (Yp (Y2 ⟨gk,0,Y1⟩) ps.length ck) es ps lb (Yp (Y2 ⟨gl,0,Y1⟩) el.length cl) (el++(Yg Yh z,Yp ra rn rc)::eh) ve' (Yp (Y2 ⟨gk,0,Y1⟩) k1' c1') (Yp (Y2 ⟨g2,0,Y1⟩) (nl+1+nh) cp2) vkl' F:=by
     intro W vkl' F hT hk hs b1 b2 b3 b4 hL;have hge:=aQ HP.o.bz ge (by simp[own,aaR]);have hgk:=aQ HP.o.kids gk (by simp[own,aaR]);have hlb:=HP.o.lblk.lt;have hs1:=q1.size
     have g2l:g2≠lb:=by
      rcases q8 with h|h
      · rw[h];simp[HAP.o]
      omega
     have g2s:g2<w3.heap.size:=aQ q7 g2 (by simp[own,aaR]);refine⟨hT,?_,?_,?_,hL,?_,⟨q4,rfl⟩,fun k hk=> ?_⟩
     · have:=hk b q2.lt (by simp[HAP.o]) b1;unfold ae at q2⊢;rw[this];exact q2
     · rw[HNS.o.2.1]
       exact aK q3 fun g hg=>by rw[q4]at hg;simp at hg;subst hg;exact hk _ (by omega) (by simp[HAP.o]) b2
     · rw[HNS.o.1,show nk-1=k1' by have:=HK1.o;omega,HNS.o.2.2.2.2.1]
       exact aK q5 fun g hg=>by simp[own,aaR]at hg;subst hg;exact hk _ (by omega) (by simp[HAP.o]) b3
     · rw[show(el++(Yg Yh z,Yp ra rn rc)::eh).length=nl+1+nh by have:=HNS.o;simp;omega,show el++(Yg Yh z,Yp ra rn rc)::eh=(el++[(Yg Yh z,Yp ra rn rc)])++eh by simp]
       exact aK q7 fun g hg=>by simp[own,aaR]at hg;subst hg;exact hk _ g2s g2l b4
     simp[own,aaR]at hk;subst hk;rcases q8 with h|h
     · left;simp[own,aaR,h]
     right;omega
    have HFI:=hd zh;have HQ1:=hd q1;have HQ6:=hd q6;rcases HK.o with⟨⟨ka,kc,hva⟩,⟨kb,kd,hvb⟩⟩|hin
    · obtain⟨i1,hi1,hy0,hys,hyb⟩:=aaX Tryz.info266;rw[hva]at d1;rw[hvb]at e1;have HVA:=hd hva;have HZ:=hd (fun W ty=>wV (P:=Zc) W 122 ty 266 i1 aeY hi1 ka kb kc kd);go_wp2_with fail
      go_region_law (refine wE rfl (.tmp 49) (.tmp 53) 122 rfl (Yp ka 0 kc) (Yp kb 0 kd) (by simp[afk,afl]) (by simp[afk,afl]) (HZ.o _ _) ?_)
      all_goals
       go_wp2_with fail
       go_end0
       refine⟨rfl,ve',Yp (Y2 ⟨gk,0,Y1⟩) k1' c1',Yp (Y2 ⟨g2,0,Y1⟩) (nl+1+nh) cp2,.inl ⟨⟨ka,kc,HVA.o⟩,HFI.o _ vkl [] ?_ ?_ ?_ (by simp) (by simp) (by simp) (by simp) ?_⟩⟩
       · exact(HQ1.o.drew.set ⟨lb,1,Y1⟩ _ (.inl (by simp))).more (by simp[own,aaR])
       · intro g _ hg _;exact Zb _ _ _ _ hg
       · simp
       have:=HQ6.o.set 1 (Yp ka 0 kc);rw[HVA.o];show ae (w3.setCell ⟨lb,1,Y1⟩ (Yp ka 0 kc)) lb _ _;simpa using this
    obtain⟨gq,cq,curq,hvq,_,hqn,hqm,_,_⟩:=aA hin.lk (by have:=hin.pos;omega);obtain⟨gr,cr,curr,hvr,_,hrn,hrm,_,_⟩:=aA hin.hk (by have:=hin.pos;omega);have hap:=hin.apart;rw[hvq,hvr]at hap;simp only[oQ,aaP,aeQ,YW,afA,or_false,forall_eq,not_or]at hap
    have HAQ:Yf ((gq≠b/\gq≠lb/\gq≠hb/\gq≠ge/\gq≠gk/\gq≠gl/\gq≠gh/\gq≠gr)/\(gr≠b/\gr≠lb/\gr≠hb/\gr≠ge/\gr≠gk/\gr≠gl/\gr≠gh/\gr≠gq)):=by
     show(_/\_);refine⟨⟨?_,?_,?_,?_,?_,?_,?_,?_⟩,⟨?_,?_,?_,?_,?_,?_,?_,?_⟩⟩<;>simp only[hap,ne_eq,not_false_eq_true]
    obtain⟨i1,hi1,hy0,hys,hyb⟩:=aaX Tryz.info266;have QK:=af hin.lk HQ1.o (fun g hg=>by rw[hvq]at hg;simp[own,aaR]at hg;subst hg;simp[HAQ.o]);have RK:=af hin.hk HQ1.o (fun g hg=>by rw[hvr]at hg;simp[own,aaR]at hg;subst hg;simp[HAQ.o]);obtain⟨nq,hnq⟩:∃nq,pl.length=nq:=⟨_,rfl⟩;obtain⟨nr,hnr⟩:∃nr,ph.length=nr:=⟨_,rfl⟩;rw[hvq]at d1;rw[hvr]at e1;have HVQ:=hd hvq;rw[hvq]at QK;rw[hvr]at RK;rw[hnq]at d1 QK;rw[hnr]at e1 RK;have HOW:=hd (QK);have HNW:Yf (∀k u,ph[k]? =Y2 u->w3.drew.cell? ((⟨gr,0,Y1⟩:abR).add k)=Y2 u):=RK.cells (g:=gr) rfl;have HNQ:Yf (pl.length=nq/\ph.length=nr/\0<nr/\nq<=100/\nr<=100):=⟨hnq,hnr,by have:=hin.pos;omega,by have:=hin.small;omega,by have:=hin.small;omega⟩
    have HLN:Yf (ph.length=nr*1):=by show _=_;omega
    have Xe:=hd hin.one.2;have HGQ:Yf (gq<w.heap.size):=aQ hin.lk gq (by rw[hvq];simp[own,aaR]);go_wp2_with fail
    go_region_law (first
     |(refine step_append_lies (abA w3) rfl (.tmp 49) (.tmp 53) 122 rfl 0 266 i1 (.pointer Y1) 1 8 aeY hi1 hy0 hys hyb rfl (by decide) (Yp (Y2 ⟨gq,0,Y1⟩) nq cq) nq pl (by simp[afk,afl]) HOW.o ⟨gr,0,Y1⟩ nr cr ph (by simp[afk,afl]) HLN.o HNW.o Xe.o HNQ.o.2.2.1 (by have:=HNQ.o;unfold aaV;omega) (by have:=HNQ.o;omega) (aeR _) _ rfl ?_
       intro g4 cp4 w4 o4 t4 s4 sl4;have T4:ax [gq] w3 w4:=(ax.grown t4 (F:=[gq]) (fun k hk=>by simp[aaR]at hk;simp[hk])).bW;have L4:=T4.blk HQ6.o (by simp[afY HAQ.o.1.2.1]);have s5:=L4.cell 1;have s6:=L4.free 1;have s7:=L4.lt;simp at s5;rw[HVQ.o,HNQ.o.1]at s5;have HS4:Yf (g4=gq\/(w3.heap.size<=g4/\g4<w4.heap.size)):=s4.imp (fun h=>by simp[aaR]at h;exact h.symm) (fun h=>⟨by rw[h];simp,sl4⟩);have HT4:=hd T4;have HO4:=hd o4;have HL4:=hd L4
       clear o4 t4 s4 T4 L4))
    all_goals
     go_wp2_with fail
     go_end0
     have hs1:=HQ1.o.size;have hs4:=HT4.o.size
     have hq:own vkl=[gq]:=by rw[HVQ.o];rfl
     have hlb:=HP.o.lblk.lt
     have hg4:g4≠lb:=by
      rcases HS4.o with h|h
      · rw[h];simp[HAQ.o]
      omega
     have hg2:g2≠gq:=by
      rcases HR2.o.2.2.2.2.2.2.2 with h|h
      · rw[h];exact afY HAQ.o.1.2.2.2.2.2.1
      have:=HGQ.o;omega
     refine⟨rfl,ve',Yp (Y2 ⟨gk,0,Y1⟩) k1' c1',Yp (Y2 ⟨g2,0,Y1⟩) (nl+1+nh) cp2,.inr ⟨Yp (Y2 ⟨g4,0,Y1⟩) (nq+nr) cp4,HFI.o _ _ (own vkl) ?_ ?_ ?_ ?_ ?_ ?_ ?_ ?_,?_,?_⟩⟩
     · rw[hq];exact((((HQ1.o.more (G:=[b,gk,ge,gl,lb,gq]) (by simp)).trans HT4.o (fun x hx=> .inl (by simp at hx;simp[hx]))).set ⟨lb,1,Y1⟩ _ (.inl (by simp)))).more (by simp[own,aaR])
     · intro g h1 h2 h3;rw[hq]at h3;rw[Zb _ _ _ _ h2];exact HT4.o.block g h1 h3
     · simpa using hs4
     · rw[hq];simp[afY HAQ.o.1.1]
     · rw[hq];simp[afY HAQ.o.1.2.2.2.1]
     · rw[hq];simp[afY HAQ.o.1.2.2.2.2.1]
     · rw[hq];simpa using hg2
     · have:=HL4.o.set 1 (Yp (Y2 ⟨g4,0,Y1⟩) (nq+nr) cp4);simpa using this
     · rw[aaN,HNQ.o.1,HNQ.o.2.1]
       refine aK HO4.o fun g hg=>Zb _ _ _ _ ?_
       simp[own,aaR]at hg;rw[hg];exact hg4
     intro k hk;simp[own,aaR]at hk;subst hk;rcases HS4.o with h|h
     · left;rw[hq];simp[h]
     right;simp;omega
end Bt
end Go.Proofs.YthhhfcdakfbpkaaGreatDoor
