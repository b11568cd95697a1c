/- clausekeep.Split answers true for every list of numbers and every text (whatever bytes), and leaves the list as it was: where both are of bulk at most 1048576 (the second form), the listed package variables as the program's text lays them. -/
import Derived.Test.YthhhfcdakfbpkaaGreatDoorU2
import Derived.Test.YthhhfcdakfbpkaaGreatDoorRows
import Derived.Lib.LaidU8T
import Derived.PinnedBridge
import Derived.Deep.Strs
import Derived.Test.YthhhfcdakfbpkaaGreatDoorU5
import Derived.Test.YthhhfcdakfbpkaaGreatDoorU12
import Derived.Shelf.Vars
import Derived.Test.YthhhfcdakfbpkaaGreatDoorU11
import Derived.Test.YthhhfcdakfbpkaaGreatDoorU10
import Derived.Test.YthhhfcdakfbpkaaGreatDoorU1
import Derived.JoinedCond
import Derived.KernelRfl
import Derived.SliceStrings
import Derived.ChangeSlices
import Derived.ChangeSame
import Derived.WideShapes
import Derived.Test.YthhhfcdakfbpkaaGreatDoorCards
import Derived.Test.YthhhfcdakfbpkaaGreatDoorTie
import Derived.ProofKit
import Derived.OpenShut
import Derived.ChangeMaps5
import Derived.Deep.DeepHandedRow
import Derived.Lay
import Derived.MakeChecks
open Go.Value renaming int -> Yg, agg -> Yj, pointer -> Ym, tuple -> Yn, slice -> Yp
open Go.IntKind renaming i64 -> Yh
open Go.Obj renaming cells -> Yk
open Go.Ending renaming returned -> Yl
open Prod renaming fst -> agx, snd -> agU
open Array renaming ext' -> ahU
open List renaming ext_getElem? -> ahV, getElem?_take -> afo, getElem?_drop -> YO, getElem?_map -> ady, getElem?_eq_none -> YY, getElem?_eq_getElem -> YP, mem_cons -> aeQ, mem_append -> YW, map_nil -> Y0, map_cons -> YZ, map_append -> aev, sum_cons -> ahp, length_append -> aaN, length_cons -> Yw, length_nil -> aeC, flatMap_cons -> YU, length_map -> aeB, length_flatMap -> ahX, map_congr_left -> ahY, length_drop -> Yv, tail_cons -> aic, append_cancel_right -> aid, cons_append -> YI, nil_append -> YK, take_append_of_le_length -> aff, drop_append_of_le_length -> aie, drop -> aif, append_nil -> aaK
open Go.World renaming var? -> ahW
open Option renaming bind_some -> agZ, none -> Y1, some -> Y2
open Go.Proofs.YthhhfcdakfbpkaaGreatDoor.Lx renaming Tok -> Xk, Bs -> Y6, bO -> aib, lex -> adX, bC -> adu, cnt -> acL, isSp -> acM
open Go.Proofs.Tryz renaming prog -> Zc, func3 -> aim, underlying22 -> aip, f3 -> aiq, checked -> air, params3 -> ais, underlying9 -> ait
open Go.Proofs.YthhhfcdakfbpkaaGreatDoor.Mg renaming ay -> abS, bJ -> ahx, jb -> ahg, Ic -> aik
open Go.Proofs.YthhhfcdakfbpkaaGreatDoor.Px renaming E -> ZU, must -> ahZ, negate -> aia, atom -> Z0, sees -> Zm, oper -> aaf, bL -> aeb, nA -> aih, bX -> aii, dO -> aij, fH -> aag
open Go.RowKit.Below renaming heap_setCell -> Zb
open Nat renaming zero_le -> aeR, add_zero -> acJ, add_assoc -> YT, eq_zero_or_pos -> ain
open Go.Proofs.YthhhfcdakfbpkaaGreatDoor.Tb renaming gL -> ahn
open ByteArray renaming size_append -> ahS, size_extract -> ail
open Go.Proofs.YthhhfcdakfbpkaaGreatDoor.Mk renaming gG -> aio
open Bool renaming and_eq_true -> YD
open Go renaming Value -> Y3, World -> Y4, TypeId -> Y5, Calls -> aaT, maxLen -> aaV
open Go.RowKit renaming Below -> aaS, intOf -> aeJ
namespace Go.Proofs.YthhhfcdakfbpkaaGreatDoor
set_option linter.unusedSimpArgs false
set_option linter.unusedVariables false
set_option maxRecDepth 100000
set_option maxHeartbeats 16000000
open Go.RowKit
variable {W w:Y4}{b c ce g ge k m p sz:Nat}{e t:Y5}{nx:Int}{F R:List Nat}
section
open Go.RowKit Go.Shelf Go.Lib
theorem FB{s:ByteArray}{x:List UInt8}(h:s.data.toList=x):s=⟨x.toArray⟩:=by
 cases s with
 |mk d=>cases d with
  |mk l=>simp at h;subst h;rfl
theorem qi{P:Program}{nm:String}(ss:List (List UInt8))(hg:P.globalNamed nm=Y2 g)(hty:(P.globals[g]?).map (·.type)=Y2 t)
   (ht:P.underlying t=Y2 (.array m e)) (he:P.underlying e=Y2 .string) (hce:P.cellsOf e=1) (hct:P.cellsOf t=m)
   (h:VarReads P w nm (.agg (ss.map fun x=> .lit (.string x)))):∃t' fr,w.heap[g]? =Y2 (.cells (iB ss) t' fr):=by
 obtain⟨g',t',cs,fuel,p,hg',hty',hvar,hd⟩:=h;obtain rfl:=Option.some.inj (hg.symm.trans hg');obtain rfl:=Option.some.inj (hty.symm.trans hty')
 have hcs:cs=iB ss:=by
  cases fuel with
  |zero=>simp[DataW.trod]at hd
  |succ fuel=>
   simp only[DataW.trod,ht,hce,hct,Nat.mul_one]at hd
   split at hd
   · rename_i hl;obtain⟨xs,hm,hx⟩:=Option.map_eq_some_iff.1 hd
     have hxs:xs.map (·.1)=ss.map fun x=>(DataW.lit (.string x):DataW Unit):=by
      have:=congrArg agx hx;simpa using this
     have hxl:xs.length=m:=by simpa using mapM_length hm
     have hzl:ss.length=m:=by
      have:=congrArg List.length hxs;simp at this;omega
     apply ahU;apply ahV;intro i;by_cases hi:i<m
     · obtain⟨b,hb,hf⟩:=mapM_at hm i i (by simp[hi]);obtain⟨s,hc,rfl,_⟩:=DataW.trod_string he hf
       have h1:cs.toList[i]? =Y2 (.string s):=by
        have:=congrArg (·[0]?) hc;simpa[afo,YO]using this
       have h2:(xs.map (·.1))[i]? =Y2 (DataW.lit (.string s.data.toList):DataW Unit):=by simp[hb]
       rw[hxs]at h2;simp only[ady,Option.map_eq_some_iff,DataW.lit.injEq,Lit.string.injEq]at h2;obtain⟨x,hx',hxx⟩:=h2;rw[h1,FB hxx.symm];simp[iB,hx']
     rw[YY (by omega),YY (by simp[iB];omega)]
   cases hd
 subst hcs;simp only[ahW,hg,agZ]at hvar
 split at hvar
 · rename_i c t2 fr hh
   cases hvar
   exact⟨t2,fr,hh⟩
 cases hvar
def IU(x:Nat×Y6×Nat):DataW Unit:=.agg [.lit (.int .i64 (x.2.2:Int)),.lit (.string x.2.1),.lit (.int .i64 (x.1:Int))]
theorem qm:∀l:List (Nat×Y6×Nat),(iT l).length=l.length*3
 |[]=>rfl
 |(a,s,k)::r=>by simp[iT,qm r];omega
theorem AU:∀(l:List (Nat×Y6×Nat)) (i:Nat) (h:i<l.length),(iT l)[i*3]? =Y2 (.int .i64 (l[i].2.2:Int))/\(iT l)[i*3+1]? =Y2 (.string ⟨l[i].2.1.toArray⟩)/\(iT l)[i*3+2]? =Y2 (.int .i64 (l[i].1:Int))
 |(a,s,k)::r,0,_=>⟨rfl,rfl,rfl⟩
 |(a,s,k)::r,i+1,h=>by
  have ih:=AU r i (by simpa using h)
  have e:∀j,(iT ((a,s,k)::r))[j+3]? =(iT r)[j]?:=by
   intro j;show([Yg .i64 (k:Int),.string ⟨s.toArray⟩,.int .i64 (a:Int)]++iT r)[j+3]? =_;rw[List.getElem?_append_right (by simp)];simp
  rw[show(i+1)*3=i*3+3 from by omega,show i*3+3+1=(i*3+1)+3 from by omega,show i*3+3+2=(i*3+2)+3 from by omega,e,e,e];simpa using ih
theorem DY{P:Program}{nm:String}{f0 f1 f2:Field}(ss:List (Nat×Y6×Nat))(hg:P.globalNamed nm=Y2 g)(hty:(P.globals[g]?).map (·.type)=Y2 t)
   (ht:P.underlying t=Y2 (.array m e)) (he:P.underlying e=Y2 (.struct #[f0,f1,f2])) (hce:P.cellsOf e=3) (hct:P.cellsOf t=m*3) (hm:ss.length=m)
   (u0:P.underlying f0.type=Y2 (.int .i64)) (u1:P.underlying f1.type=Y2 .string) (u2:P.underlying f2.type=Y2 (.int .i64)) (c0:P.cellsOf f0.type=1) (c1:P.cellsOf f1.type=1) (c2:P.cellsOf f2.type=1)
   (o0:f0.offset=0) (o1:f1.offset=1) (o2:f2.offset=2)
   (h:VarReads P w nm (.agg (ss.map IU))):∃t' fr,w.heap[g]? =Y2 (.cells (iT ss).toArray t' fr):=by
 obtain⟨g',t',cs,fuel,p,hg',hty',hvar,hd⟩:=h;obtain rfl:=Option.some.inj (hg.symm.trans hg');obtain rfl:=Option.some.inj (hty.symm.trans hty')
 have hlen:cs.toList.length=m*3:=by
  cases fuel with
  |zero=>simp[DataW.trod]at hd
  |succ fuel=>
   simp only[DataW.trod,ht]at hd
   split at hd
   · rename_i hl;rw[hl,hct]
   cases hd
 have key:∀i,(hi:i<m)->cs.toList[i*3]? =Y2 (.int .i64 ((ss[i]'(by omega)).2.2:Int))/\cs.toList[i*3+1]? =Y2 (.string ⟨(ss[i]'(by omega)).2.1.toArray⟩)/\cs.toList[i*3+2]? =Y2 (.int .i64 ((ss[i]'(by omega)).1:Int)):=by
  intro i hi;obtain⟨fuel',d,q,hdi,hel⟩:=array_elem ht hd i hi
  have hi':i<ss.length:=by omega
  simp only[ady,YP hi',Option.map_some,Option.some.injEq]at hdi;subst hdi;rw[hce]at hel;obtain⟨y0,y1,y2,n,hx,hl,h0,h1,h2⟩:=Go.Deep.trod_struct3 he hel;rw[o0,c0]at h0;rw[o1,c1]at h1;rw[o2,c2]at h2;obtain⟨z0,a0,b0,_⟩:=DataW.trod_int u0 h0;obtain⟨z1,a1,b1,_⟩:=DataW.trod_string u1 h1;obtain⟨z2,a2,b2,_⟩:=DataW.trod_int u2 h2;subst b0;subst b1;subst b2;simp only[IU,Prod.mk.injEq,DataW.agg.injEq,List.cons.injEq,DataW.lit.injEq,Lit.int.injEq,Lit.string.injEq,true_and,and_true]at hx;obtain⟨⟨e0,e1,e2⟩,_⟩:=hx;have g0:=congrArg (·[0]?) a0;have g1:=congrArg (·[0]?) a1;have g2:=congrArg (·[0]?) a2;simp only[afo,YO]at g0 g1 g2;simp at g0 g1 g2;refine⟨?_,?_,?_⟩
  · rw[e0];simpa using g0
  · rw[FB (s:=z1) e1.symm]at g1;simpa using g1
  rw[e2];simpa using g2
 have hcs:cs=(iT ss).toArray:=by
  apply ahU;apply ahV;intro j;by_cases hj:j<m*3
  · have hi:j/3<m:=by omega
    obtain⟨k0,k1,k2⟩:=key (j/3) hi;obtain⟨r0,r1,r2⟩:=AU ss (j/3) (by omega)
    have h3:j=j/3*3\/j=j/3*3+1\/j=j/3*3+2:=by omega
    rcases h3 with e|e|e
    · rw[e,k0];exact r0.symm
    · rw[e,k1];exact r1.symm
    rw[e,k2];exact r2.symm
  rw[YY (by omega),YY (by simp[qm];omega)]
 subst hcs;simp only[ahW,hg,agZ]at hvar
 split at hvar
 · rename_i c t2 fr hh
   cases hvar
   exact⟨t2,fr,hh⟩
 cases hvar
theorem Cf{P:Program}{nm name:String}{is:Array (String×Y5)}{d:DataW Unit}(hg:P.globalNamed nm=Y2 g)(hty:(P.globals[g]?).map (·.type)=Y2 t)
   (ht:P.underlying t=Y2 (.interface is)) (h:VarReads P w nm (.iface name d)):∃te pe,w.cell? ⟨g,0,Y1⟩=Y2 (.iface te pe):=by
 obtain⟨g',t',cs,fuel,p,hg',hty',hvar,hd⟩:=h;obtain rfl:=Option.some.inj (hg.symm.trans hg');obtain rfl:=Option.some.inj (hty.symm.trans hty');rw[World.var?_cell hg hvar 0,<-Array.getElem?_toList];generalize cs.toList=l at hd⊢
 cases fuel with
 |zero=>simp[DataW.trod]at hd
 |succ fuel=>
  match l,hd with
  |[],hd=>simp[DataW.trod,ht]at hd
  |[v],hd=>
   cases v with
   |iface u x=>exact⟨u,x,rfl⟩
   |_=>simp[DataW.trod,ht]at hd
  |a::b::r,hd=>simp[DataW.trod,ht]at hd
end
section
open Go.RowKit Go.Shelf Go.Lib
theorem RA:U8Types Zc Tryz.lays197_ren:=⟨by kernel_rfl,by kernel_rfl,by kernel_rfl,by kernel_rfl⟩
theorem QS:U8Extra Zc Tryz.lays197_ren:=⟨by kernel_rfl,by kernel_rfl,by kernel_rfl,by kernel_rfl,by kernel_rfl,by kernel_rfl,by kernel_rfl⟩
theorem Mf:(Rows.laid_unicode_utf8_acceptRanges:DataW Unit)=acceptData:=by kernel_rfl
theorem PV:Rows.laid_unicode_utf8_first=firstData:=Pinned.utf8First_eq
theorem keys_eq:(Rows.laid_clause_reader_keywords:DataW Unit)=.agg (Lx.keys.map fun x=> .lit (.string x)):=by kernel_rfl
theorem OD:(Rows.laid_clause_reader_signs:DataW Unit)=.agg (nK.map fun x=> .lit (.string x)):=by kernel_rfl
theorem Uv:(Rows.laid_clause_syntax_operators:DataW Unit)=.agg (Px.cu.map IU):=by kernel_rfl
theorem Aj(h:W.ShapedOpen Zc):12<=W.heap.size:=by
 have hz:(((begin Zc (fun _ _=>0) default).world.heap[12-1]?).bind Obj.row?).isSome=true:=by kernel_rfl
 obtain⟨⟨zero,t⟩,he⟩:=Option.isSome_iff_exists.1 hz;obtain⟨cs,hc,_⟩:=h.1 (12-1) zero t (of_decide_eq_true (by kernel_rfl)) he;obtain⟨hlt,_⟩:=geA.1 hc;exact hlt
theorem Al(ha:VarReads Zc W "unicode/utf8.acceptRanges" Rows.laid_unicode_utf8_acceptRanges)(hk:VarReads Zc W "clause/reader.keywords" Rows.laid_clause_reader_keywords)
   (hs:VarReads Zc W "clause/reader.signs" Rows.laid_clause_reader_signs) (hf:VarReads Zc W "unicode/utf8.first" Rows.laid_unicode_utf8_first)
   (ho:VarReads Zc W "clause/syntax.operators" Rows.laid_clause_syntax_operators) (hr:VarReads Zc W "strconv.ErrRange" Rows.laid_strconv_ErrRange) (hsh:W.ShapedOpen Zc):jJ W where
 env:={
   tabs:=utf8Tabs_of_readsT RA QS (PV▸hf) (Mf▸ha)
   kws:=qi (t:=383) (e:=9) (m:=27) Lx.keys (by kernel_rfl) (by kernel_rfl) (by kernel_rfl) (by kernel_rfl) (by kernel_rfl) (by kernel_rfl) (keys_eq▸hk)
   sgs:=qi (t:=338) (e:=9) (m:=16) nK (by kernel_rfl) (by kernel_rfl) (by kernel_rfl) (by kernel_rfl) (by kernel_rfl) (by kernel_rfl) (OD▸hs)
   room:=Aj hsh}
 ops:=DY (t:=409) (e:=408) (m:=14) Px.cu (by kernel_rfl) (by kernel_rfl) (by kernel_rfl) Tryz.underlying408 (by kernel_rfl) (by kernel_rfl) rfl (by kernel_rfl) (by kernel_rfl) (by kernel_rfl) (by kernel_rfl) (by kernel_rfl) (by kernel_rfl) rfl rfl rfl (Uv▸ho)
 rng:=Cf (t:=209) (by kernel_rfl) (by kernel_rfl) Tryz.underlying209 hr
end
section
open Go.RowKit Go.Shelf Go.Lib
theorem D5{P:Program}{nm:String}{k:IntKind}(zs:List Int)(hg:P.globalNamed nm=Y2 g)(hty:(P.globals[g]?).map (·.type)=Y2 t)
   (ht:P.underlying t=Y2 (.array m e)) (he:P.underlying e=Y2 (.int k)) (hce:P.cellsOf e=1) (hct:P.cellsOf t=m)
   (h:VarReads P w nm (tabData k zs)):∃t' fr,w.heap[g]? =Y2 (.cells (zs.map fun z=>Yg k z).toArray t' fr):=by
 obtain⟨g',t',cs,fuel,p,hg',hty',hvar,hd⟩:=h;obtain rfl:=Option.some.inj (hg.symm.trans hg');obtain rfl:=Option.some.inj (hty.symm.trans hty')
 have hcs:cs=(zs.map fun z=>Yg k z).toArray:=by
  apply ahU;exact cells_of_tab ht he hce hct hd
 subst hcs;simp only[ahW,hg,agZ]at hvar
 split at hvar
 · rename_i c t2 fr hh
   cases hvar
   exact⟨t2,fr,hh⟩
 cases hvar
theorem pow_eq:(Rows.laid_internal_strconv_uint64pow10:DataW Unit)=tabData .u64 pow10Tab:=by kernel_rfl
theorem zX(hp:jJ W)(h:VarReads Zc W "internal/strconv.uint64pow10" Rows.laid_internal_strconv_uint64pow10)(hsh:W.ShapedOpen Zc):Av W where
 envp:=hp
 pow:=D5 (t:=276) (e:=200) (m:=20) pow10Tab (by kernel_rfl) (by kernel_rfl) (by kernel_rfl) (by kernel_rfl) (by kernel_rfl) (by kernel_rfl) (pow_eq▸h)
end
section
namespace Tx
open Tb Tw Bt
theorem RH{tn:Y6}{cs:abS}{M:aN}(e:ZU)(s:ByteArray)(hp:Px.Reads s.data.toList (.delete tn (Y2 e)))(hm:s.size<=aaV)(he:jJ w)(h:kU w b 0 p ge ce tn cs M nx F R)(hok:e.ok 2000)(ns:List Int)(hns:Ai cs M (Y2 e)=.ok ns):
   aaT Zc 9 #[Ym (Y2 ⟨b,0,Y1⟩),.string s] w fun x w'=>x=Yl (Yn #[Yj #[Yg Yh 0,Yp Y1 0 0,Yg Yh (ns.length:Nat)],Yg Yh 0])/\ax (b::p::F) w w'/\
     ∃F' R',kU w' b 0 p ge ce tn cs (without ns M) nx F' R'/\∀g∈F'++R',g∈F++R\/w.heap.size<=g:=by
 have hbl:=h.blk.lt
 have hFl:∀g∈p::F,g<w.heap.size:=fun g hg=>h.lt g (by simp only[aeQ,YW]at hg⊢;rcases hg with rfl|hg;exact .inr (.inr (.inl rfl));exact .inr (.inr (.inr (.inl hg))))
 have hold:∀{F' R':List Nat} {n:Nat},(∀g∈F'++R',g∈F++R\/w.heap.size+2<=g)->∀g∈b::ge::p::(F'++R'),g<w.heap.size\/w.heap.size+2<=g:=fun{F' R' _} hs g hg=>by
  simp only[aeQ]at hg;rcases hg with h1|h1|h1|h1
  · exact .inl (h.lt g (by simp[h1]))
  · exact .inl (h.lt g (by simp[h1]))
  · exact .inl (h.lt g (by simp[h1]))
  rcases hs g h1 with h1|h1
  · exact .inl (h.lt g (by simp only[aeQ];exact .inr (.inr (.inr h1))))
  exact .inr h1
 refine(kR (.delete tn (Y2 e)) s hp hm b _ w he h.blk rfl
   (fun wp v x w2=>x=Yl (Yj #[Yg Yh 0,Yp Y1 0 0,Yg Yh (ns.length:Nat)])/\ax (p::F) (wp.setCell ⟨b,0,Y1⟩ (.int .i32 1)) w2/\∃F' R',kU w2 b 1 p ge ce tn cs (without ns M) nx F' R'/\∀g∈F'++R',g∈F++R\/w.heap.size+2<=g) ?_ ?_).mono ?_
 · intro wp v B hb hBB hst;obtain rfl:v=_:=hst;refine(Ns ((h.below hb).lock 1) e hok ns hns).mono ?_;rintro x w2 ⟨rfl,hT,F',R',hS,hsub⟩;have hs1:=hb.size;simp at hsub;exact⟨rfl,hT,F',R',hS,fun g hg=>by rcases hsub g (by simpa using hg)with h|h;exact .inl (by simpa using h);exact .inr (by omega)⟩
 · rintro wp v x w2 hb ⟨rfl,hT,F',R',hS,hsub⟩;refine⟨.inl ⟨_,_,_,_,_,rfl⟩,fun k hk hl=> ?_,⟨_,hS.blk,rfl⟩,by simpa using hT.size⟩;rw[hT.block k (by simpa using hl) (fun hm=>by have:=hFl k hm;omega)];exact Zb _ _ _ _ (by show k≠b;omega)
 rintro x w' ⟨wp,v,x0,w2,W3,hb,hsz,⟨rfl,hT,F',R',hS,hsub⟩,hTd,hA3,hA4⟩;exact⟨sU hTd,F7 hb hT hA3 hA4,F',R',hS.unlock (hold (n:=0) hsub) hA3 hA4,fun g hg=>by rcases hsub g hg with h|h;exact .inl h;exact .inr (by omega)⟩
def I4(cs:abS)(M:aN)(l:List (Option ZU))(o:Option ZU)(os:List (ZU×Bool)):Except Nat (List (List Mg.V×List Mg.V)):=match ahx cs (ahg cs l o os)with
 |.error c=> .error c
 |.ok _=>Mg.aG cs (Tb.bf cs l) (os.map agx) o (M.map agU)
theorem xe{cs:abS}{M:aN}{l:List (Option ZU)}{o:Option ZU}{os:List (ZU×Bool)}{fs:List (List Mg.V×List Mg.V)}(h:I4 cs M l o os=.ok fs):ahx cs (ahg cs l o os)=.ok ()/\Mg.aG cs (Tb.bf cs l) (os.map agx) o (M.map agU)=.ok fs:=by
 unfold I4 at h
 cases hc:ahx cs (ahg cs l o os)with
 |error c=>rw[hc]at h;cases h
 |ok u=>rw[hc]at h;exact⟨rfl,h⟩
theorem NF{tn:Y6}{cs:abS}{M:aN}(l:List (Option ZU))(e:ZU)(os:List (ZU×Bool))(lm:Option Nat)(s:ByteArray)(hp:Px.Reads s.data.toList (.select l tn (Y2 e) os lm))(hm:s.size<=aaV)(he:jJ w)(h:kU w b 0 p ge ce tn cs M nx F R)
   (hlen:l.length<=2000/\os.length<=2000/\1<=l.length) (hc1:1<=cs.length/\cs.length<=6) (hok:∀d∈ahg cs l (Y2 e) os,d.1.ok 2000) (c:Nat) (hc:I4 cs M l (Y2 e) os=.error c):
   aaT Zc 9 #[Ym (Y2 ⟨b,0,Y1⟩),.string s] w fun x w'=>ax [b] w w'/\kU w' b 0 p ge ce tn cs M nx F R/\x=Yl (Yn #[Yj #[Yg Yh 0,Yp Y1 0 0,Yg Yh 0],Yg Yh (c:Int)]):=by
 have hbl:=h.blk.lt
 refine(kR (.select l tn (Y2 e) os lm) s hp hm b _ w he h.blk rfl
   (fun wp v x w2=>aaS (wp.setCell ⟨b,0,Y1⟩ (.int .i32 1)).heap.size (wp.setCell ⟨b,0,Y1⟩ (.int .i32 1)) w2/\x=lL 0 c) ?_ ?_).mono ?_
 · intro wp v B hb hBB hst;obtain⟨u,u',rfl,hu,hu'⟩:=hst;have hu2:wp.ownsRow (B+1) 225 2 u l.length (l.flatMap iK):=hu;have hu3:wp.ownsRow (B+1) 227 2 u' os.length (os.flatMap dA):=hu';have hi:=Ts.au (Tw.aW hu2 (p:=⟨b,0,Y1⟩) (.int .i32 1) (by show b<_;omega)) (aeR _);have ho:=Ts.au (Tw.aW hu3 (p:=⟨b,0,Y1⟩) (.int .i32 1) (by show b<_;omega)) (aeR _);have hS:=(h.below hb).lock 1;obtain⟨va,vc,rfl⟩:=ai hu2;obtain⟨ua,uc,rfl⟩:=ai hu3;refine(K7 hS e lm.isSome (lm.getD 0) va ua l.length vc os.length uc c fun W1 hW=> ?_).mono ?_
   · obtain⟨sv,ve,vk,d,L,ht⟩:=hS.tab;refine(qj l (Y2 e) os lm.isSome (lm.getD 0) ⟨tn.toArray⟩ hlen p cs M nx F R sv ve vk d L _ _ W1 (ht.below hW) hS.ok hc1 hok (eO hi hW) (eO ho hW)).mono ?_;rintro x W2 ⟨hb2,hx⟩;refine⟨?_,hb2⟩;unfold I4 at hc
     cases hk:ahx cs (ahg cs l (Y2 e) os)with
     |error k=>
      rw[hk]at hx hc;injection hc with hc;subst hc;exact hx
     |ok u=>
      rw[hk]at hx hc;simp only at hx hc;rw[hc]at hx;exact hx
   rintro x w2 ⟨rfl,hB2⟩;exact⟨hB2,rfl⟩
 · rintro wp v x w2 hb ⟨hB,rfl⟩;have hK:=((h.below hb).lock 1).blk;refine⟨.inr ⟨c,rfl⟩,fun k hk hl=> ?_,⟨_,hK.below hB hK.lt,rfl⟩,by simpa using hB.size⟩;rw[hB.block k (by simpa using hl)];exact Zb _ _ _ _ (by show k≠b;omega)
 rintro x w' ⟨wp,v,x0,w2,W3,hb,hsz,⟨hB,rfl⟩,hTd,hA3,hA4⟩;exact⟨F7 hb (ax.of hB) hA3 hA4,(((h.below hb).lock 1).below hB).unlock (fun g hg=> .inl (h.lt g hg)) hA3 hA4,OM hTd⟩
end Tx
end
section
namespace Mg
open Px (E bX nA nB nC)
theorem OJ{z:Int}(h:ck z=.error c):1<=c:=by
 unfold ck at h
 split at h
 · cases h
 cases h;omega
theorem LD{a b:Int}(h:arith k a b=.error c):1<=c:=by
 unfold arith at h
 repeat' split at h
 all_goals first|exact OJ h|(cases h;omega)|cases h
theorem Ep{t:Y6}(h:pE t=.error c):1<=c:=by
 unfold pE at h
 split at h
 · cases h
 cases h;omega
theorem N7{v:V}(h:sP k v=.error c):1<=c:=by
 unfold sP at h
 repeat' split at h
 all_goals first|(cases h;done)|(rename_i hk;cases h;exact OJ hk)
theorem MP{a b:V}(h:Gm k a b=.error c):1<=c:=by
 unfold Gm at h
 repeat' split at h
 all_goals first|(cases h;done)|exact Ep h|(rename_i hk;cases h;exact LD hk)
theorem mG{cs:ay}{row:List V}:∀{e:E} {c:Nat},value cs row e=.error c->1<=c
 |.bool b,c,h=>by cases h
 |.num z,c,h=>by cases h
 |.str s,c,h=>Ep h
 |.nm n,c,h=>by
  simp only[value]at h
  split at h<;>cases h
 |.null,c,h=>by cases h
 |.un k e,c,h=>by
  simp only[value]at h
  split at h
  · rename_i hk;cases h;exact mG hk
  exact N7 h
 |.bin k a b,c,h=>by
  simp only[value]at h
  split at h
  · rename_i hk;cases h;exact mG hk
  split at h
  · rename_i hk;cases h;exact mG hk
  exact MP h
theorem DL{cs:ay}{row:List V}:∀{l:List E} {c:Nat},vals cs row l=.error c->1<=c
 |[],c,h=>by cases h
 |e::l,c,h=>by
  simp only[vals]at h
  split at h
  · rename_i hk;cases h;exact mG hk
  split at h
  · rename_i hk;cases h;exact DL hk
  cases h
theorem E9{cs:ay}{row:List V}{o:Option E}(h:aY cs row o=.error c):1<=c:=by
 cases o with
 |none=>cases h
 |some e=>
  simp only[aY]at h
  split at h
  · rename_i hk;cases h;exact mG hk
  cases h
theorem yX{cs:ay}{items orders:List E}{o:Option E}:∀{l:List (List V)} {c:Nat},aG cs items orders o l=.error c->1<=c
 |[],c,h=>by cases h
 |r::l,c,h=>by
  simp only[aG]at h
  split at h
  · rename_i hk;cases h;exact E9 hk
  · exact yX h
  split at h
  · rename_i hk;cases h;exact DL hk
  split at h
  · rename_i hk;cases h;exact DL hk
  split at h
  · rename_i hk;cases h;exact yX hk
  cases h
theorem NH{cs:ay}{ds:List (E×Nat)}(h:bJ cs ds=.error c):1<=c:=by
 unfold bJ at h
 repeat' split at h
 all_goals first|(cases h;omega)|cases h
theorem RU{cs:ay}{row:List V}{e:E}(hr:jB cs row)(ho:e.ok 2000)(hd:mf cs (e,3)=true){v:V}(hv:value cs row e=.ok v):v=aO true\/v=aO false\/v=aZ:=by
 unfold mf at hd
 cases ht:typ cs e with
 |error c=>rw[ht]at hd;cases hd
 |ok t=>
  rw[ht]at hd;obtain⟨h1,h2⟩:=sound hr e t v ho ht hv
  have hk:v.kind=14\/v.kind=15:=by
   rcases h2 with h|⟨h,h3⟩|⟨h,h3⟩|⟨h,h3⟩
   · exact .inl h
   · subst h;cases hd
   · subst h;cases hd
   exact .inr h3
  obtain⟨k,i,t'⟩:=v;simp only at hk;rcases hk with rfl|rfl
  · obtain⟨h3,h4⟩:=h1.null rfl;simp only at h3 h4;subst h3 h4;exact .inr (.inr rfl)
  obtain⟨h3,h4⟩:=h1.truth rfl;simp only at h3 h4;subst h4;rcases h3 with rfl|rfl
  · exact .inr (.inl rfl)
  exact .inl rfl
theorem yE{cs:ay}{items orders:List E}{e:E}:∀{l:List (List V)} {fs:List (List V×List V)},aG cs items orders (Y2 e) l=.ok fs->∀r∈l,∃v,value cs r e=.ok v
 |[],fs,h,r,hr=>by simp at hr
 |a::l,fs,h,r,hr=>by
  simp only[aG]at h
  have key:(∃v,value cs a e=.ok v)/\∃fs',aG cs items orders (Y2 e) l=.ok fs':=by
   have hv:∀{b:Bool},aY cs a (Y2 e)=.ok b->∃v,value cs a e=.ok v:=fun{b} hc=>by
    simp only[aY]at hc
    split at hc
    · cases hc
    exact⟨_,by assumption⟩
   split at h
   · cases h
   · rename_i hc;exact⟨hv hc,_,h⟩
   rename_i hc;refine⟨hv hc,?_⟩
   split at h
   · cases h
   split at h
   · cases h
   split at h
   · cases h
   exact⟨_,by assumption⟩
  rcases List.mem_cons.1 hr with rfl|hr
  · exact key.1
  obtain⟨_,fs',hf⟩:=key;exact yE hf r hr
theorem rG{cs:ay}{items:List E}{o:Option E}:∀{M:List (Int×List V)} {fs:List (List V×List V)},aG cs items [] o (M.map agU)=.ok fs->∃ns,dz cs o M=.ok ns/\ns.length=fs.length
 |[],fs,h=>by simp only[Y0,aG]at h;cases h;exact⟨[],rfl,rfl⟩
 |m::M,fs,h=>by
  simp only[YZ,aG]at h
  split at h
  · cases h
  · rename_i hc;obtain⟨ns,h1,h2⟩:=rG h;exact⟨ns,by simp[dz,hc,h1],h2⟩
  rename_i hc
  split at h
  · cases h
  split at h
  · cases h
  split at h
  · cases h
  rename_i fs' hf
  cases h
  obtain⟨ns,h1,h2⟩:=rG hf;exact⟨m.1::ns,by simp[dz,hc,h1],by simp[h2]⟩
theorem F5{cs:ay}{l:List (Option E)}{o:Option E}{os:List (E×Bool)}(h:bJ cs (jb cs l o os)=.ok ()):bJ cs (ahn o)=.ok ()/\∀d∈ahn o,mf cs d=true:=by
 unfold bJ at h⊢
 split at h
 · rename_i h1
   split at h
   · rename_i h2
     have a1:∀d∈ahn o,knows cs d.1=true:=fun d hd=>List.all_eq_true.1 h1 d (by unfold jb;simp[hd])
     have a2:∀d∈ahn o,mf cs d=true:=fun d hd=>List.all_eq_true.1 h2 d (by unfold jb;simp[hd])
     rw[if_pos (List.all_eq_true.2 a1),if_pos (List.all_eq_true.2 a2)];exact⟨rfl,a2⟩
   cases h
 cases h
theorem Bz{cs:ay}{items:List E}:∀{l:List (List V)},(∀r∈l,∃a,vals cs r items=.ok a)->∃fs,aG cs items [] Y1 l=.ok fs/\fs.length=l.length
 |[],_=>⟨[],rfl,rfl⟩
 |r::l,h=>by
  obtain⟨a,ha⟩:=h r (by simp)
  obtain⟨fs,h1,h2⟩:=Bz (l:=l) fun q hq=>h q (by simp[hq])
  exact⟨(a,[])::fs,by simp[aG,aY,ha,vals,h1],by simp[h2]⟩
theorem Ji:bJ bX (jb bX [Y1] Y1 [])=.ok ():=rfl
theorem Li(r:List V)(h:Ic r):∃a,vals bX r [nA,nB,nC]=.ok a:=by
 obtain⟨z,na,nb,c,rfl⟩:=h;exact⟨_,rfl⟩
end Mg
namespace Px
def Sm:Y6:=[83,69,76,69,67,84,32,42,32,70,82,79,77,32,116]
def VR:St:=.select [Y1] [116] Y1 [] Y1
theorem Io:Reads Sm VR:=Reads.calc (n:=200) (by decide+kernel) rfl
end Px
end
section
namespace Px
open Lx (Bs)
theorem nV{α β:Type}{x:Rg α}{f:α->Rg β}{ts q:List Xk}{b:β}(h:Rg.seq x f ts (.ok (b,q))):∃a q1,x ts (.ok (a,q1))/\f a q1 (.ok (b,q)):=by
 rcases seq_ok h with⟨e,_,h2⟩|h
 · cases h2
 exact h
theorem Kt{α:Type}{x:Nat->Rg α}(f:α->Nat)(hx:∀i ts a q,x i ts (.ok (a,q))->f a+q.length<=ts.length){ts:List Xk}{l:List α}{q:List Xk}(h:Reach x ts l q):(l.map f).sum+l.length+q.length<=ts.length+1:=by
 induction h with
 |first h1=>have:=hx _ _ _ _ h1;simp;omega
 |step h1 hs h2 ih=>
  have:=hx _ _ _ _ h2;have:=bB hs;simp only[aev,List.sum_append,YZ,Y0,ahp,List.sum_nil,aaN,Yw,aeC];omega
theorem pQ{α:Type}{x:Nat->Rg α}(f:α->Nat)(hx:∀i ts a q,x i ts (.ok (a,q))->f a+q.length<=ts.length){ts:List Xk}{l:List α}{q:List Xk}(h:Sep x ts (.ok (l,q))):(l.map f).sum+l.length+q.length<=ts.length+1:=by
 cases h with
 |stop h1 _=>exact Kt f hx h1
theorem il{s:Bs}{ts q:List Xk}{u:Unit}(h:bU sz s ts (.ok (u,q))):q.length+1=ts.length:=by
 rcases aU h with⟨h1,h2⟩|⟨_,h2⟩
 · cases h2;exact bB h1
 cases h2
theorem qa{ts q:List Xk}{s:Bs}(h:cO sz ts (.ok (s,q))):q.length+1=ts.length:=by
 unfold cO at h
 cases ts with
 |nil=>simp[name]at h
 |cons t r=>
  simp only[name]at h
  split at h
  · cases h
  split at h
  · cases h
  cases h;simp
theorem uH{ts q:List Xk}{w:Option E}(h:dC sz ts (.ok (w,q))):(dU w).length+q.length<=ts.length:=by
 unfold dC at h
 split at h
 · rename_i hs;obtain⟨e,q1,h1,h2⟩:=nV h
   cases h2
   have:=(h1.2 _ _ rfl).2;have:=bB hs;simp only[dU,aX,Yw,E.eB];omega
 cases h;simp[dU]
theorem T9:∀(i:Nat) ts a q,(fun _:Nat=>uC sz) i ts (.ok (a,q))->a.size+q.length<=ts.length:=fun _ ts a q h=>(h.2 _ _ rfl).2
theorem zU:∀o:List (E×Bool),(o.flatMap dN).length=(o.map fun x:E×Bool=>x.1.size).sum+o.length
 |[]=>rfl
 |x::o=>by
  rw[YU,aaN,zU o];simp only[dN,Yw,E.eB,YZ,ahp];omega
def St.lens:St->Nat
 |.create _ c=>c.length
 |.insert _ r=>r.length
 |.update _ s _=>s.length
 |.select i _ _ o _=>i.length+o.length
 |_=>0
theorem Oh{ts q:List Xk}{s:St}(h:bM sz ts (.ok (s,q))):s.nodes.length<=2*ts.length+10/\s.lens<=ts.length+1:=by
 unfold bM at h;have htl:=iX ts
 split at h
 · obtain⟨_,q1,h1,h⟩:=nV h;obtain⟨t,q2,h2,h⟩:=nV h;obtain⟨_,q3,h3,h⟩:=nV h;obtain⟨l,q4,h4,h⟩:=nV h;obtain⟨_,q5,h5,h⟩:=nV h
   cases h
   have a1:=il h1;have a2:=qa h2;have a3:=il h3;have a4:=pQ (fun _=>0) (fun i ts a q h=>by have:=oW sz i _ _ _ h;omega) h4;simp only[St.nodes,St.lens,Yw,aeB];omega
 split at h
 · obtain⟨_,q1,h1,h⟩:=nV h;obtain⟨t,q2,h2,h⟩:=nV h
   cases h
   simp[St.nodes,St.lens]
 split at h
 · obtain⟨_,q1,h1,h⟩:=nV h;obtain⟨t,q2,h2,h⟩:=nV h;obtain⟨_,q3,h3,h⟩:=nV h;obtain⟨l,q4,h4,h⟩:=nV h
   cases h
   have a1:=il h1;have a2:=qa h2;have a3:=il h3
   have a4:=pQ (fun r:List E=>(r.flatMap E.nodes).length+1) (fun i ts r q h=>by
    obtain⟨_,p1,k1,h⟩:=nV h;obtain⟨m,p2,k2,h⟩:=nV h;obtain⟨_,p3,k3,h⟩:=nV h
    cases h
    have b1:=il k1;have b2:=pQ E.size T9 k2;have b3:=il k3
    have b4:(r.flatMap E.nodes).length=(r.map E.size).sum:=by
     rw[ahX]
     congr 1
     exact ahY fun e _=>e.eB
    omega) h4
   have e:(l.flatMap Jc).length=(l.map fun r:List E=>(r.flatMap E.nodes).length+1).sum:=by
    rw[ahX]
    rfl
   simp only[St.nodes,St.lens,Yw,e];omega
 split at h
 · obtain⟨_,q1,h1,h⟩:=nV h;obtain⟨t,q2,h2,h⟩:=nV h;obtain⟨w,q3,h3,h⟩:=nV h
   cases h
   have a1:=il h1;have a2:=qa h2;have a3:=uH h3;simp only[St.nodes,St.lens,Yw];omega
 split at h
 · obtain⟨t,q1,h1,h⟩:=nV h;obtain⟨_,q2,h2,h⟩:=nV h;obtain⟨l,q3,h3,h⟩:=nV h;obtain⟨w,q4,h4,h⟩:=nV h
   cases h
   have a1:=qa h1;have a2:=il h2
   have a3:=pQ (fun x:Bs×E=>x.2.size+1) (fun i ts x q h=>by
    obtain⟨n,p1,k1,h⟩:=nV h;obtain⟨_,p2,k2,h⟩:=nV h;obtain⟨e,p3,k3,h⟩:=nV h
    cases h
    have b1:=qa k1;have b2:=il k2;have b3:=(k3.2 _ _ rfl).2;simp only
    omega) h3
   have a4:=uH h4
   have e:(l.flatMap Ae).length=(l.map fun x:Bs×E=>x.2.size+1).sum:=by
    rw[ahX]
    congr 1
    exact ahY fun x _=>by simp[Ae,E.eB]
   simp only[St.nodes,St.lens,Yw,aaN,e];omega
 obtain⟨_,q0,h0,h⟩:=nV h;obtain⟨i,q1,h1,h⟩:=nV h;obtain⟨_,q2,h2,h⟩:=nV h;obtain⟨t,q3,h3,h⟩:=nV h;obtain⟨w,q4,h4,h⟩:=nV h;obtain⟨o,q5,h5,h⟩:=nV h;obtain⟨l,q6,h6,h⟩:=nV h
 cases h
 have a0:=il h0
 have a1:=pQ (fun x:Option E=>(jK x).length) (fun j ts x q h=>by
  unfold fE at h
  split at h
  · rename_i hs
    cases h
    have:=bB hs;simp[jK];omega
  obtain⟨e,p1,k1,h⟩:=nV h
  cases h
  have b3:=(k1.2 _ _ rfl).2;simp only[jK,E.eB]
  omega) h1
 have a2:=il h2;have a3:=qa h3;have a4:=uH h4
 have a5:(o.flatMap dN).length+q5.length<=q4.length+1/\o.length<=q4.length:=by
  unfold fZ at h5
  split at h5
  · rename_i hs;obtain⟨_,p1,k1,h5⟩:=nV h5;have b1:=il k1;have b0:=bB hs
    have b2:=pQ (fun x:E×Bool=>x.1.size) (fun j ts x q h=>by
     obtain⟨e,p1,k1,h⟩:=nV h;have b3:=(k1.2 _ _ rfl).2;unfold jM at h;have:=iX p1
     split at h
     · cases h;simp only;omega
     split at h
     · cases h;simp only;omega
     cases h;simp only;omega) h5
    have e:=zU o;omega
  cases h5;simp
 have a6:(mX l).length<=1:=by cases l<;>simp[mX]
 have e:(i.flatMap jK).length=(i.map fun x:Option E=>(jK x).length).sum:=by
  rw[ahX]
 simp only[St.nodes,St.lens,Yw,aaN,e];omega
end Px
end
section
namespace Px
open Lx (Bs)
variable {α β:Type}
def Nz(x:Out α):Prop:=∀p c,x=Y2 (.error (p,c))->1<=c
theorem Nz.bind{x:Out α}{f:α->List Xk->Out β}(hx:Nz x)(hf:∀a q,Nz (f a q)):Nz (aC x f):=fun p c h=>by
 rcases tF h with⟨e,h1,h2⟩|⟨a,q,h1,h2⟩
 · cases h2;exact hx p c h1
 exact hf a q p c h2
theorem Nz.ok{a:α}{q:List Xk}:Nz (Y2 (.ok (a,q)):Out α):=fun p c h=>by cases h
theorem Nz.err(hc:1<=c):Nz (Y2 (.error (p,c)):Out α):=fun p c h=>by cases h;assumption
theorem Nz.must{s:Bs}{ts:List Xk}:Nz (must sz s ts):=by
 unfold ahZ
 split
 · exact Nz.ok
 exact Nz.err (by omega)
theorem Nz.ex:∀n m a ts,Nz (ex sz n m a ts):=by
 intro n
 induction n with
 |zero=>intro m a ts p c h;cases h
 |succ n ih=>
  intro m a ts;unfold Px.ex
  repeat' split
  all_goals first
   |exact Nz.ok
   |exact ih _ _ _
   |exact(ih _ _ _).bind fun b q=>ih _ _ _
   |exact(ih _ _ _).bind fun b q=>Nz.ok
   |exact(ih _ _ _).bind fun b q=>Nz.must.bind fun _ q=>Nz.ok
   |(refine(ih _ _ _).bind fun b q=> ?_
     unfold aia
     repeat' split
     all_goals first|exact Nz.ok|exact Nz.err (by omega))
   |(refine(ih _ _ _).bind fun b q=> ?_
     unfold gJ
     repeat' split
     all_goals first|exact Nz.ok|exact Nz.must.bind fun _ q=>Nz.ok|exact(ih _ _ _).bind fun b q=>Nz.ok)
   |(unfold Z0
     repeat' split
     all_goals first|exact Nz.ok|exact Nz.err (by omega))
def dw(x:Rg α):Prop:=∀ts p c,x ts (.error (p,c))->1<=c
theorem dw.seq{x:Rg α}{f:α->Rg β}(hx:dw x)(hf:∀a,dw (f a)):dw (Rg.seq x f):=fun ts p c h=>by
 rcases seq_ok h with⟨e,h1,h2⟩|⟨a,q,h1,h2⟩
 · cases h2;exact hx ts p c h1
 exact hf a q p c h2
theorem dw.ret(a:α):dw (Rg.ret a):=fun ts p c h=>by cases h
theorem dw.must(sz:Nat)(s:Bs):dw (bU sz s):=fun ts p c h=>Nz.must p c h
theorem dw.name(sz:Nat):dw (cO sz):=fun ts p c h=>by
 have:Nz (Px.name sz ts):=by
  unfold Px.name
  repeat' split
  all_goals first|exact Nz.ok|exact Nz.err (by omega)
 exact this p c h
theorem dw.ex(sz:Nat):dw (uC sz):=fun ts p c h=>by
 obtain⟨⟨n,hn⟩,_⟩:=h;exact Nz.ex n 1 [] ts p c hn
theorem dw.ite{x y:Rg α}{b:List Xk->Bool}(hx:dw x)(hy:dw y):dw fun ts r=>if b ts=true then x ts r else y ts r:=fun ts p c h=>by
 by_cases hb:b ts=true
 · simp only[if_pos hb]at h;exact hx ts p c h
 simp only[if_neg hb]at h;exact hy ts p c h
theorem dw.tail{x:Rg α}(hx:dw x):dw fun ts r=>x ts.tail r:=fun ts=>hx ts.tail
theorem dw.is(f:List Xk->α×List Xk):dw fun ts r=>r=.ok (f ts):=fun ts p c h=>by cases h
theorem dw.sep{x:Nat->Rg α}(hx:∀i,dw (x i)):dw (Sep x):=fun ts p c h=>by
 cases h with
 |err0 h1=>exact hx 0 _ _ _ h1
 |err h1 h2 h3=>exact hx _ _ _ _ h3
theorem dw.where(sz:Nat):dw (dC sz):=dw.ite (dw.tail ((dw.ex sz).seq fun _=>dw.ret _)) (dw.is _)
theorem dw.Dw(sz i:Nat):dw (kV sz i):=by
 intro ts
 have h0:dw (Rg.seq (cO sz) (fun n q r=>if 6<=i then r=.error (nJ sz ts,4)else Rg.seq (gQ sz) (kP sz n) q r)):=(dw.name sz).seq fun n=>by
  by_cases h6:6<=i
  · simp only[if_pos h6]
    exact fun q p c h=>by cases h;omega
  simp only[if_neg h6]
  exact dw.seq (dw.ite (dw.is _) (dw.ite (dw.is _) ((dw.must sz _).seq fun _=>dw.ret _))) fun k=>dw.ite (dw.tail ((dw.must sz _).seq fun _=>dw.ret _)) (dw.is _)
 exact h0 ts
theorem dw.stmt(sz:Nat):dw (bM sz):=by
 have m:=dw.must sz;have n:=dw.name sz;have e:=dw.ex sz;have v:=dw.where sz;refine dw.ite (dw.tail ?_) (dw.ite (dw.tail ?_) (dw.ite (dw.tail ?_) (dw.ite (dw.tail ?_) (dw.ite (dw.tail ?_) ?_))))
 · exact(m _).seq fun _=>n.seq fun _=>(m _).seq fun _=>(dw.sep fun i=>dw.Dw sz i).seq fun _=>(m _).seq fun _=>dw.ret _
 · exact(m _).seq fun _=>n.seq fun _=>dw.ret _
 · exact(m _).seq fun _=>n.seq fun _=>(m _).seq fun _=>(dw.sep fun _=>(m _).seq fun _=>(dw.sep fun _=>e).seq fun _=>(m _).seq fun _=>dw.ret _).seq fun _=>dw.ret _
 · exact(m _).seq fun _=>n.seq fun _=>v.seq fun _=>dw.ret _
 · exact n.seq fun _=>(m _).seq fun _=>(dw.sep fun _=>n.seq fun _=>(m _).seq fun _=>e.seq fun _=>dw.ret _).seq fun _=>v.seq fun _=>dw.ret _
 refine(m _).seq fun _=>(dw.sep fun _=> ?_).seq fun _=>(m _).seq fun _=>n.seq fun _=>v.seq fun _=>dw.seq ?_ fun _=>dw.seq ?_ fun _=>dw.ret _
 · exact dw.ite (dw.is _) (e.seq fun _=>dw.ret _)
 · exact dw.ite (dw.tail ((m _).seq fun _=>dw.sep fun _=>e.seq fun e=>dw.ite (dw.is _) (dw.ite (dw.is _) (dw.is _)))) (dw.is _)
 refine dw.ite (dw.tail (dw.seq (fun ts p c h=> ?_) fun _=>dw.ret _)) (dw.is _)
 have:Nz (limit sz ts):=by
  unfold limit
  repeat' split
  all_goals first|exact Nz.ok|exact Nz.err (by omega)
 exact this p c h
theorem Q6:∀(m:Nat) (l:Bs) (pos p c:Nat),l.length<=m->aib 0 pos l=.error (p,c)->1<=c:=by
 intro m
 induction m with
 |zero=>
  intro l pos p c hl h;obtain rfl:=List.length_eq_zero_iff.1 (Nat.le_zero.1 hl);simp[aib]at h
 |succ m ih=>
  intro l pos p c hl h
  cases l with
  |nil=>simp[aib]at h
  |cons b r=>
   rw[Lx.eX]at h
   split at h
   · rename_i e h1
     cases h
     unfold Lx.bZ at h1
     repeat' split at h1
     all_goals first|(cases h1;done)|(cases h1;omega)
   rename_i k t n h1;have hn:=Lx.gT h1
   split at h
   · cases h
   rename_i e h2
   cases h
   exact ih _ _ _ _ (by simp only[Yv,Yw]at hl hn⊢;omega) h2
theorem Mq{s:Bs}(h:bL s (.error (p,c))):1<=c:=by
 unfold bL at h
 cases hl:adX s with
 |error e=>
  rw[hl]at h
  cases h
  unfold adX at hl
  split at hl
  · cases hl;omega
  exact Q6 _ _ _ _ _ (nlr _) hl
 |ok ts=>
  rw[hl]at h;obtain⟨q,h1,h2⟩:=h
  match q,h1,h2 with
  |.error e,h1,h2=>cases h2;exact dw.stmt s.length ts p c h1
  |.ok (a,u),h1,h2=>
   simp only at h2
   split at h2
   · split at h2
     · cases h2;omega
     cases h2
   cases h2;omega
end Px
end
section
namespace Px
open Lx (Bs)
def key(t:Xk):Nat×Bs:=(t.kind,t.text)
def Lk(u v:List Xk):Prop:=u.map key=v.map key
def dX(q r:List Xk):Prop:=q.head?.map key=r.head?.map key
theorem Lk.cons{t:Xk}{u v:List Xk}(h:Lk (t::u) v):∃t' u',v=t'::u'/\key t=key t'/\Lk u u':=by
 cases v with
 |nil=>simp[Lk]at h
 |cons t' u'=>simp[Lk]at h;exact⟨t',u',rfl,h.1,h.2⟩
theorem Lk.nil{v:List Xk}(h:Lk [] v):v=[]:=by cases v<;>simp[Lk]at h⊢
theorem Lk.app:∀{a b v:List Xk},Lk (a++b) v->∃x y,v=x++y/\Lk a x/\Lk b y
 |[],b,v,h=>⟨[],v,rfl,rfl,h⟩
 |t::a,b,v,h=>by
  obtain⟨t',u',rfl,hk,h2⟩:=Lk.cons (u:=a++b) h;obtain⟨x,y,rfl,hx,hy⟩:=Lk.app h2;exact⟨t'::x,y,rfl,by simp[Lk,hk]at hx⊢;exact hx,hy⟩
theorem dX.app{u v q r:List Xk}(h:Lk u v)(hq:dX q r):dX (u++q) (v++r):=by
 cases u with
 |nil=>obtain rfl:=h.nil;exact hq
 |cons t u=>obtain⟨t',u',rfl,hk,_⟩:=h.cons;simp[dX,hk]
theorem dX.of{q r:List Xk}(h:dX q r):(q=[]/\r=[])\/∃k s p q1 p' r1,q=⟨k,s,p⟩::q1/\r=⟨k,s,p'⟩::r1:=by
 cases q with
 |nil=>cases r with
  |nil=>exact .inl ⟨rfl,rfl⟩
  |cons=>simp[dX]at h
 |cons t q=>cases r with
  |nil=>simp[dX]at h
  |cons t' r=>
   obtain⟨k,s,p⟩:=t;obtain⟨k',s',p'⟩:=t';simp[dX,key]at h;obtain⟨rfl,rfl⟩:=h;exact .inr ⟨k,s,p,q,p',r,rfl,rfl⟩
theorem dX.sees{q r:List Xk}(h:dX q r)(s:Bs):Zm s q=Zm s r:=by
 rcases h.of with⟨rfl,rfl⟩|⟨_,_,_,_,_,_,rfl,rfl⟩<;>rfl
theorem dX.oper{q r:List Xk}(h:dX q r)(l:Nat):aaf l q=aaf l r:=by
 rcases h.of with⟨rfl,rfl⟩|⟨_,_,_,_,_,_,rfl,rfl⟩<;>rfl
theorem dX.top{q r:List Xk}(h:dX q r):qH q=qH r:=by
 rcases h.of with⟨rfl,rfl⟩|⟨_,_,_,_,_,_,rfl,rfl⟩<;>rfl
def Loc{α:Type}(f g:List Xk->Out α):Prop:=∀ts b q,f ts=Y2 (.ok (b,q))->∃u,ts=u++q/\∀v r,Lk u v->dX q r->g (v++r)=Y2 (.ok (b,r))
theorem Loc.ret{α:Type}(a:α):Loc (fun ts=>Y2 (.ok (a,ts))) (fun ts=>Y2 (.ok (a,ts))):=by
 intro ts b q h;injection h with h;injection h with h;injection h with h1 h2;subst h1;subst h2;exact⟨[],rfl,fun v r hv _=>by rw[hv.nil];rfl⟩
theorem Loc.bind{α β:Type}{f g:List Xk->Out α}{F G:α->List Xk->Out β}(h:Loc f g)(hF:∀a,Loc (F a) (G a)):Loc (fun ts=>aC (f ts) (F)) (fun ts=>aC (g ts) G):=by
 intro ts b q hh;rcases tF hh with⟨e,_,he⟩|⟨a,q1,h1,h2⟩
 · cases he
 obtain⟨u,rfl,hu⟩:=h _ _ _ h1;obtain⟨u2,rfl,hu2⟩:=hF a _ _ _ h2;refine⟨u++u2,by simp,fun v r hv hr=> ?_⟩;obtain⟨x,y,rfl,hx,hy⟩:=hv.app;dsimp only;rw[laa,hu x (y++r) hx (dX.app hy hr)];exact hu2 y r hy hr
theorem Loc.sees{α:Type}{s:Bs}{F F':List Xk->List Xk->Out α}{G G':List Xk->Out α}(hF:∀ts ts',Loc (F ts) (F' ts'))(hG:Loc G G'):Loc (fun ts=>if Zm s ts=true then F ts ts.tail else G ts) (fun ts=>if Zm s ts=true then F' ts ts.tail else G' ts):=by
 intro ts b q h;dsimp only at h⊢
 split at h
 · rename_i hs
   cases ts with
   |nil=>cases hs
   |cons t ts=>
    obtain⟨u,hu,hh⟩:=hF _ (t::ts) _ _ _ h;rw[aic]at hu;subst hu;refine⟨t::u,rfl,fun v r hv hr=> ?_⟩;obtain⟨t',u',rfl,hk,hv2⟩:=hv.cons
    have hs':Zm s (t'::u'++r)=true:=by rw[<-hs];exact(dX.sees (by simp[dX,hk]) s).symm
    rw[if_pos hs'];obtain⟨u2,e2,hh2⟩:=hF (t::(u++q)) (t'::u'++r) _ _ _ h;have:=aid e2;rw[YI,aic];exact hh2 u' r (by rw[<-this];exact hv2) hr
 rename_i hs;obtain⟨u,rfl,hh⟩:=hG _ _ _ h;refine⟨u,rfl,fun v r hv hr=> ?_⟩;rw[if_neg (by rw[<-(dX.app hv hr).sees s];exact hs)];exact hh v r hv hr
theorem Loc.oper{α:Type}{l:Nat}{F F':Nat->List Xk->Out α}{G G':List Xk->Out α}(hF:∀k,Loc (F k) (F' k))(hG:Loc G G'):Loc (fun ts=>if aaf l ts=0 then G ts else F (aaf l ts) ts.tail) (fun ts=>if aaf l ts=0 then G' ts else F' (aaf l ts) ts.tail):=by
 intro ts b q h;dsimp only at h⊢
 split at h
 · rename_i hs;obtain⟨u,rfl,hh⟩:=hG _ _ _ h;refine⟨u,rfl,fun v r hv hr=> ?_⟩;rw[if_pos (by rw[<-(dX.app hv hr).oper l];exact hs)];exact hh v r hv hr
 rename_i hs
 cases ts with
 |nil=>exact absurd rfl hs
 |cons t ts=>
  obtain⟨u,hu,hh⟩:=hF _ _ _ _ h;rw[aic]at hu;subst hu;refine⟨t::u,rfl,fun v r hv hr=> ?_⟩;obtain⟨t',u',rfl,hk,hv2⟩:=hv.cons;have hs':aaf l (t::(u++q))=aaf l (t'::u'++r):=dX.oper (by simp[dX,hk]) l;rw[<-hs',if_neg hs,YI,aic];exact hh u' r hv2 hr
theorem Loc.must(sz sz':Nat)(s:Bs):Loc (must sz s) (must sz' s):=by
 have:Loc (fun ts=>if Zm s ts=true then(fun _ r=>Y2 (.ok ((),r))) ts ts.tail else(Y2 (.error (nJ sz ts,4)):Out Unit)) (fun ts=>if Zm s ts=true then(fun _ r=>Y2 (.ok ((),r))) ts ts.tail else(Y2 (.error (nJ sz' ts,4)):Out Unit)):=
  Loc.sees (fun _ _=>Loc.ret ()) (fun ts b q h=>by cases h)
 exact this
theorem Loc.atom(sz sz':Nat):Loc (atom sz) (atom sz'):=by
 intro ts b q h
 cases ts with
 |nil=>cases h
 |cons t r=>
  obtain⟨k,s,p⟩:=t
  have e1:gW≠bq:=by decide
  have e2:dK≠bq:=by decide
  have e3:dK≠gW:=by decide
  have hq:q=r:=by
   simp only[Z0]at h
   repeat' split at h
   all_goals first|(cases h;done)|(injection h with h;injection h with h;injection h with h1 h2;exact h2.symm)
  subst hq;refine⟨[⟨k,s,p⟩],rfl,fun v r hv hr=> ?_⟩;obtain⟨t',u',rfl,hk,hv2⟩:=hv.cons;obtain rfl:=hv2.nil;obtain⟨k',s',p'⟩:=t';simp only[key,Prod.mk.injEq]at hk;obtain⟨rfl,rfl⟩:=hk;simp only[Z0,YI,YK]at h⊢
  repeat' split at h
  all_goals first|(cases h;done)|(injection h with h;injection h with h;injection h with h1 h2;subst h1;simp[*])
theorem Loc.negate(p p':Nat)(a:List Nd):Loc (negate p a) (negate p' a):=by
 intro ts b q h;refine⟨[],?_,fun v r hv hr=> ?_⟩
 · unfold aia at h
   repeat' split at h
   all_goals first|(cases h;done)|(cases h;rfl)
 rw[hv.nil];unfold aia at h⊢
 repeat' split at h
 all_goals first|(cases h;done)|(injection h with h;injection h with h;injection h with h1 h2;subst h1;simp[*])
theorem Loc.gJ{sz':Nat}{f g:List Xk->Out (List Nd)}(h:Loc f g)(a:List Nd):Loc (gJ sz f a) (gJ sz' g a):=by
 refine Loc.sees (F:=fun _ r=>if Zm fH r=true then aC (ahZ sz bq r.tail) fun _ q=>Y2 (.ok (aX 22 a,q))else aC (ahZ sz bq r) fun _ q=>Y2 (.ok (aX 21 a,q))) (F':=fun _ r=>if Zm fH r=true then aC (ahZ sz' bq r.tail) fun _ q=>Y2 (.ok (aX 22 a,q))else aC (ahZ sz' bq r) fun _ q=>Y2 (.ok (aX 21 a,q))) (fun _ _=> ?_) ?_
 · exact Loc.sees (F:=fun _ r=>aC (ahZ sz bq r) fun _ q=>Y2 (.ok (aX 22 a,q))) (F':=fun _ r=>aC (ahZ sz' bq r) fun _ q=>Y2 (.ok (aX 22 a,q))) (fun _ _=>Loc.bind (Loc.must sz sz' _) fun _=>Loc.ret _) (Loc.bind (Loc.must sz sz' _) fun _=>Loc.ret _)
 exact Loc.oper (F:=fun k r=>aC (f r) fun b q=>Y2 (.ok (bP k a b,q))) (F':=fun k r=>aC (g r) fun b q=>Y2 (.ok (bP k a b,q))) (fun k=>Loc.bind h fun _=>Loc.ret _) (Loc.ret _)
theorem PQ(sz sz':Nat):∀n m a,Loc (ex sz n m a) (ex sz' n m a)
 |0,m,a=>fun ts b q h=>by cases h
 |n+1,m,a=>by
  have ih:=PQ sz sz' n;show Loc (fun ts=>ex sz (n+1) m a ts) (fun ts=>ex sz' (n+1) m a ts);by_cases c1:10<=m
  · simp only[ex,if_pos c1];exact Loc.oper (F:=fun k r=>aC (ex sz n (m-9) [] r) fun b q=>ex sz n m (bP k a b) q) (F':=fun k r=>aC (ex sz' n (m-9) [] r) fun b q=>ex sz' n m (bP k a b) q) (fun k=>Loc.bind (ih _ _) fun b=>ih _ _) (Loc.ret _)
  by_cases c2:m=3
  · simp only[ex,if_neg c1,if_pos c2];exact Loc.sees (F:=fun _ r=>aC (ex sz n 3 [] r) fun b q=>Y2 (.ok (aX 20 b,q))) (F':=fun _ r=>aC (ex sz' n 3 [] r) fun b q=>Y2 (.ok (aX 20 b,q))) (fun _ _=>Loc.bind (ih _ _) fun _=>Loc.ret _) (ih _ _)
  by_cases c3:m=4
  · simp only[ex,if_neg c1,if_neg c2,if_pos c3]
    exact Loc.bind (ih _ _) fun b=>Loc.gJ (ih _ _) b
  by_cases c4:m=8
  · simp only[ex,if_neg c1,if_neg c2,if_neg c3,if_pos c4];refine Loc.sees (F:=fun ts r=>if qH r=true then Y2 (.ok (leaf 16 [] bot,r.tail))else aC (ex sz n 8 [] r) fun b q=>aia (nJ sz ts) b q) (F':=fun ts r=>if qH r=true then Y2 (.ok (leaf 16 [] bot,r.tail))else aC (ex sz' n 8 [] r) fun b q=>aia (nJ sz' ts) b q) (fun ts ts'=> ?_) (ih _ _);intro r b q h;dsimp only at h⊢
    split at h
    · rename_i ht
      cases r with
      |nil=>cases ht
      |cons t r=>
       injection h with h;injection h with h;injection h with h1 h2;rw[aic]at h2;subst h1;subst h2;refine⟨[t],rfl,fun v q hv hq=> ?_⟩;obtain⟨t',u',rfl,hk,hv2⟩:=hv.cons;obtain rfl:=hv2.nil;rw[if_pos (by rw[<-ht];exact(dX.top (by simp[dX,hk])).symm)]
       rfl
    rename_i ht;obtain⟨u,rfl,hh⟩:=Loc.bind (ih 8 []) (F:=fun b q=>aia (nJ sz ts) b q) (G:=fun b q=>aia (nJ sz' ts') b q) (fun b=>Loc.negate _ _ b) _ _ _ h;refine⟨u,rfl,fun v r hv hr=> ?_⟩;rw[if_neg (by rw[<-(dX.app hv hr).top];exact ht)];exact hh v r hv hr
  by_cases c5:m=9
  · simp only[ex,if_neg c1,if_neg c2,if_neg c3,if_neg c4,if_pos c5];exact Loc.sees (F:=fun _ r=>aC (ex sz n 1 [] r) fun b q=>aC (ahZ sz kJ q) fun _ q=>Y2 (.ok (b,q))) (F':=fun _ r=>aC (ex sz' n 1 [] r) fun b q=>aC (ahZ sz' kJ q) fun _ q=>Y2 (.ok (b,q))) (fun _ _=>Loc.bind (ih _ _) fun _=>Loc.bind (Loc.must sz sz' _) fun _=>Loc.ret _) (Loc.atom sz sz')
  simp only[ex,if_neg c1,if_neg c2,if_neg c3,if_neg c4,if_neg c5]
  exact Loc.bind (ih _ _) fun b=>ih _ _
theorem Ex.loc{a b:List Nd}{ts q:List Xk}(h:Ex sz m a ts (.ok (b,q)))(sz':Nat):∃u,ts=u++q/\∀v r,Lk u v->dX q r->Ex sz' m a (v++r) (.ok (b,r)):=by
 obtain⟨n,hn⟩:=h;obtain⟨u,hu,hh⟩:=PQ sz sz' n m a _ _ _ hn;exact⟨u,hu,fun v r hv hr=>⟨n,hh v r hv hr⟩⟩
end Px
end
section
namespace Lx
def rJ(c:Bs):Prop:=∀b∈c,b≠40/\b≠41/\b≠39/\b≠34/\b≠45/\b≠59
theorem rJ.drop{c:Bs}(h:rJ c)(n:Nat):rJ (c.drop n):=fun b hb=>h b (List.mem_of_mem_drop hb)
theorem mI{p:UInt8->Bool}{x:UInt8}(hx:p x=false):∀(c r:Bs),cnt p (c++x::r)=cnt p c
 |[],r=>by simp[cnt,hx]
 |b::c,r=>by simp only[YI,cnt];rw[mI hx c r]
theorem yT{b x:UInt8}(h:b≠x):¬b.toNat=x.toNat:=fun e=>h (UInt8.toNat_inj.1 e)
theorem vD:∀(c:Bs),rJ c->∀r,bC (c++41::r)=cnt isSp c
 |[],_,r=>rfl
 |b::c,h,r=>by
  have h1:¬b.toNat=45:=yT (x:=45) (h b (by simp)).2.2.2.2.1;have ih:=vD c (fun x hx=>h x (by simp[hx])) r;unfold bC at ih⊢;simp only[YI,dW,h1,false_and,if_false,cnt]
  split
  · rw[ih];omega
  rfl
theorem Lr{b:UInt8}{c:Bs}(h:rJ (b::c))(r:Bs):bZ (b::(c++41::r))=bZ (b::c):=by
 have e1:cnt dx (b::(c++41::r))=cnt dx (b::c):=mI (x:=41) (by decide) (b::c) r;have e2:cnt aP (b::(c++41::r))=cnt aP (b::c):=mI (x:=41) (by decide) (b::c) r;have t1:(b::(c++41::r)).take (cnt dx (b::c))=(b::c).take (cnt dx (b::c)):=aff (l₁:=b::c) (jI _ _);have t2:(b::(c++41::r)).take (cnt aP (b::c))=(b::c).take (cnt aP (b::c)):=aff (l₁:=b::c) (jI _ _)
 have q1:¬(b.toNat=39\/b.toNat=34):=fun e=>by
  rcases e with e|e
  · exact yT (x:=39) (h b (by simp)).2.2.1 e
  exact yT (x:=34) (h b (by simp)).2.2.2.1 e
 have q2:(if 2<=(b::(c++41::r)).length/\hasB oq ((b::(c++41::r)).take 2)=true then(Except.ok (51,(b::(c++41::r)).take 2,2):Except Nat (Nat×Bs×Nat))else if hasB ones ((b::(c++41::r)).take 1)=true then .ok (51,(b::(c++41::r)).take 1,1)else .error 2)
     =if 2<=(b::c).length/\hasB oq ((b::c).take 2)=true then(Except.ok (51,(b::c).take 2,2):Except Nat (Nat×Bs×Nat))else if hasB ones ((b::c).take 1)=true then .ok (51,(b::c).take 1,1)else .error 2:=by
   cases c with
   |nil=>
    have:hasB oq [b,41]=false:=by simp[hasB,oq]
    refine Eq.trans (if_neg fun h=> ?_) (Eq.trans ?_ (if_neg fun h=> ?_).symm)
    · have:=h.2;simp[‹hasB oq [b,41]=false›]at this
    · rfl
    simp at h
   |cons d c=>
    by_cases hb:hasB oq [b,d]=true
    · exact(if_pos ⟨by simp,hb⟩).trans (if_pos ⟨by simp,hb⟩).symm
    refine Eq.trans (if_neg fun h=>hb h.2) (Eq.trans ?_ (if_neg fun h=>hb h.2).symm)
    rfl
 simp only[bZ,e1,e2,t1,t2,if_neg q1];rw[q2]
theorem Ml{b:UInt8}{c:Bs}(h:rJ (b::c)){k:Nat}{t:Bs}{n:Nat}(ho:bZ (b::c)=.ok (k,t,n)):(k=50\/k=51)->t≠[41]:=by
 have q1:¬(b.toNat=39\/b.toNat=34):=fun e=>by
  rcases e with e|e
  · exact yT (x:=39) (h b (by simp)).2.2.1 e
  exact yT (x:=34) (h b (by simp)).2.2.2.1 e
 rintro hk rfl;simp only[bZ,if_neg q1]at ho
 repeat' split at ho
 all_goals first
  |(cases ho;done)
  |(injection ho with ho;injection ho with h1 h2;omega)
  |(rename_i hb;injection ho with ho;injection ho with h1 h2;injection h2 with h2 h3
    first
    |(rw[h2]at hb;exact absurd hb (by decide))
    |(rw[h2]at hb;exact absurd hb.2 (by decide))
    |(simp at h2;exact(h b (by simp)).2.1 h2))
theorem Rc(r:Bs):bZ (41::r)=.ok (51,[41],1):=by
 cases r with
 |nil=>rfl
 |cons x r=>
  have:hasB oq [41,x]=false:=by simp[hasB,oq]
  simp[bZ,isLet,aP,this,hasB,ones]
theorem QN(r:Bs):bZ (40::r)=.ok (51,[40],1):=by
 cases r with
 |nil=>rfl
 |cons x r=>
  have:hasB oq [40,x]=false:=by simp[hasB,oq]
  simp[bZ,isLet,aP,this,hasB,ones]
open Px (key Lk)
def shut(p:Nat):Xk:=⟨51,[41],p⟩
def behind(p:Nat)(r:Bs):Except (Nat×Nat) (List Xk):=bO 0 (p+1+bC r) (r.drop (bC r))
theorem si(p:Nat)(r:Bs):bO 0 p (41::r)=match behind p r with
   |.ok ts=> .ok (shut p::ts)
   |.error e=> .error e:=by
 rw[eX,Rc]
 rfl
theorem PR:∀(m:Nat) (c:Bs),c.length<=m->rJ c->∀(p:Nat) (r:Bs) (ts:List Xk),bO 0 p (c++41::r)=.ok ts->
   ∃T q,ts=T++shut (p+c.length)::q/\behind (p+c.length) r=.ok q/\(∀t∈T,(t.kind=50\/t.kind=51)->t.text≠[41])/\
     ∀p' r' q',behind (p'+c.length) r'=.ok q'->∃T',Lk T T'/\bO 0 p' (c++41::r')=.ok (T'++shut (p'+c.length)::q'):=by
 intro m
 induction m with
 |zero=>
  intro c hc;obtain rfl:c=[]:=List.length_eq_zero_iff.1 (by omega);intro _ p r ts h;rw[YK,si]at h
  split at h
  · rename_i q hq;injection h with h;subst h;exact⟨[],q,rfl,hq,by simp,fun p' r' q' h'=>⟨[],rfl,by simp only[aeC,acJ]at h'⊢;rw[YK,si,h'];rfl⟩⟩
  cases h
 |succ m ih=>
  intro c hc ht p r ts h
  cases c with
  |nil=>
   rw[YK,si]at h
   split at h
   · rename_i q hq;injection h with h;subst h;exact⟨[],q,rfl,hq,by simp,fun p' r' q' h'=>⟨[],rfl,by simp only[aeC,acJ]at h'⊢;rw[YK,si,h'];rfl⟩⟩
   cases h
  |cons b c=>
   have key:∀p r,bO 0 p (b::c++41::r)=match bZ (b::c)with
       |.error e=> .error (p,e)
       |.ok (k,t,n)=>match bO 0 (p+(n+cnt isSp ((b::c).drop n))) ((b::c).drop (n+cnt isSp ((b::c).drop n))++41::r)with
        |.ok ts=> .ok (⟨k,t,p⟩::ts)
        |.error e=> .error e:=by
    intro p r;rw[YI,eX,Lr ht]
    split
    · rename_i e he;rw[he]
    rename_i k t n he;rw[he];have hn:=(gT he).2.1;have hdr:(b::(c++41::r)).drop n=(b::c).drop n++41::r:=aie (l₁:=b::c) hn;have hsp:cnt isSp ((b::c).drop n)<=((b::c).drop n).length:=jI _ _;rw[hdr,vD _ (ht.drop n),aie hsp,List.drop_drop,YT]
    rfl
   rw[key]at h
   split at h
   · cases h
   rename_i k t n he;have hn:=gT he;have hsp:cnt isSp ((b::c).drop n)<=((b::c).drop n).length:=jI _ _;rw[Yv]at hsp;generalize hN:n+cnt isSp ((b::c).drop n)=N at*
   have hN1:N<=(b::c).length:=by omega
   split at h
   · rename_i us hu;injection h with h;subst h;obtain⟨T,q,rfl,hq,hs,hall⟩:=ih ((b::c).drop N) (by rw[Yv];omega) (ht.drop N) _ _ _ hu
     have hl:∀p,p+N+((b::c).drop N).length=p+(b::c).length:=fun p=>by rw[Yv];omega
     rw[hl]at hq;refine⟨⟨k,t,p⟩::T,q,by rw[hl];rfl,hq,?_,fun p' r' q' h'=> ?_⟩
     · intro x hx;rcases List.mem_cons.1 hx with rfl|hx
       · exact Ml ht he
       exact hs x hx
     obtain⟨T',hT,h2⟩:=hall (p'+N) r' q' (by rw[hl];exact h');refine⟨⟨k,t,p'⟩::T',by simp[Lk,Px.key]at hT⊢;exact hT,?_⟩;rw[key,he];simp only[hN];rw[h2,hl]
     rfl
   cases h
end Lx
end
section
namespace Px
open Lx (Bs rJ shut behind)
def pre(l:List Xk):Except (Nat×Nat) (List Xk)->Except (Nat×Nat) (List Xk)
 |.ok ts=> .ok (l++ts)
 |.error e=> .error e
theorem Jv(a b:List Xk)(x:Except (Nat×Nat) (List Xk)):pre a (pre b x)=pre (a++b) x:=by cases x<;>simp[pre]
theorem gZ{w:Bs}{t:Bs}(hne:w≠[])(hw:∀r,Lx.bZ (w++32::r)=.ok (k,t,w.length))(p:Nat)(Z:Bs):
   aib 0 p (w++32::Z)=pre [⟨k,t,p⟩] (aib 0 (p+w.length+1+adu Z) (Z.drop (adu Z))):=by
 have h:=hw Z;have hd:(w++32::Z).drop w.length=32::Z:=List.drop_left
 obtain⟨x,xs,hx⟩:∃x xs,w++32::Z=x::xs:=by
  cases w with
  |nil=>exact absurd rfl hne
  |cons x xs=>exact⟨_,_,rfl⟩
 rw[hx]at h hd⊢;rw[Lx.eX,h];dsimp only;rw[hd,Jg,show aif (1+adu Z) (32::Z)=Z.drop (adu Z)from by rw[Nat.add_comm];rfl,<-YT]
 cases aib 0 (p+w.length+1+adu Z) (Z.drop (adu Z))<;>rfl
theorem lN{w:Bs}(h1:∃c r,w=c::r/\Lx.isLet c=true)(h2:∀c∈w,Lx.dx c=true)(r:Bs):Lx.bZ (w++32::r)=if Lx.hasB Lx.keys (w.map Lx.Mo)=true then .ok (50,w.map Lx.Mo,w.length)else .ok (18,w.map Lx.zL,w.length):=GN h1 h2 (.inl rfl)
def LK:List Xk:=[⟨50,jN,0⟩,⟨18,[97],7⟩,⟨50,eT,9⟩,⟨18,[116],14⟩,⟨50,bG,16⟩]
def Rs:List Xk:=[⟨50,iw,0⟩,⟨50,eT,7⟩,⟨18,[116],12⟩,⟨50,bG,14⟩]
def wB:Bs:=[68,69,76,69,84,69,32,70,82,79,77,32,116,32,87,72,69,82,69,32]
theorem nz(Y:Bs)(h:22+Y.length<=2000):adX (dO++Y)=pre LK (aib 0 (22+adu Y) (Y.drop (adu Y))):=by
 unfold adX;rw[if_neg (by simp[dO];omega)];show aib 0 0 (jN++32::([97]++32::(eT++32::([116]++32::(bG++32::Y)))))=_;rw[gZ (by decide) (lN ⟨_,_,rfl,by decide⟩ (by decide))];show pre _ (aib 0 7 ([97]++32::(eT++32::([116]++32::(bG++32::Y)))))=_;rw[gZ (by decide) (lN ⟨_,_,rfl,by decide⟩ (by decide))];show pre _ (pre _ (aib 0 9 (eT++32::([116]++32::(bG++32::Y)))))=_;rw[gZ (by decide) (lN ⟨_,_,rfl,by decide⟩ (by decide))];show pre _ (pre _ (pre _ (aib 0 14 ([116]++32::(bG++32::Y)))))=_;rw[gZ (by decide) (lN ⟨_,_,rfl,by decide⟩ (by decide))];show pre _ (pre _ (pre _ (pre _ (aib 0 16 (bG++32::Y)))))=_;rw[gZ (by decide) (lN ⟨_,_,rfl,by decide⟩ (by decide))];simp only[Jv]
 rfl
theorem Rw(Y:Bs)(h:20+Y.length<=2000):adX (wB++Y)=pre Rs (aib 0 (20+adu Y) (Y.drop (adu Y))):=by
 unfold adX;rw[if_neg (by simp[wB];omega)];show aib 0 0 (iw++32::(eT++32::([116]++32::(bG++32::Y))))=_;rw[gZ (by decide) (lN ⟨_,_,rfl,by decide⟩ (by decide))];show pre _ (aib 0 7 (eT++32::([116]++32::(bG++32::Y))))=_;rw[gZ (by decide) (lN ⟨_,_,rfl,by decide⟩ (by decide))];show pre _ (pre _ (aib 0 12 ([116]++32::(bG++32::Y))))=_;rw[gZ (by decide) (lN ⟨_,_,rfl,by decide⟩ (by decide))];show pre _ (pre _ (pre _ (aib 0 14 (bG++32::Y))))=_;rw[gZ (by decide) (lN ⟨_,_,rfl,by decide⟩ (by decide))];simp only[Jv]
 rfl
theorem Gy{c:Bs}(hc:rJ c)(p:Nat)(r:Bs):aib 0 p (40::(c++41::r))=pre [⟨51,[40],p⟩] (aib 0 (p+1+acL acM c) (c.drop (acL acM c)++41::r)):=by
 rw[Lx.eX,Lx.QN];have hd:aif 1 (40::(c++41::r))=c++41::r:=rfl;dsimp only;rw[hd,Lx.vD c hc,aie (Lx.jI _ _)]
 cases aib 0 (p+1+acL acM c) (c.drop (acL acM c)++41::r)<;>rfl
theorem Hy{l ts:List Xk}{x:Except (Nat×Nat) (List Xk)}(h:pre l x=.ok ts):∃us,x=.ok us/\ts=l++us:=by
 cases x with
 |error e=>cases h
 |ok us=>injection h with h;exact⟨us,rfl,h.symm⟩
theorem PL{c:Bs}(hc:rJ c){p:Nat}{r:Bs}{ts:List Xk}(h:aib 0 p (40::(c++41::r))=.ok ts):
   ∃T a b q,ts=⟨51,[40],a⟩::(T++shut b::q)/\(∃z,behind z r=.ok q)/\(∀t∈T,(t.kind=50\/t.kind=51)->t.text≠[41])/\
     ∀p' r',(∀z,∃q',behind z r'=.ok q')->∃T' b' q' z,Lk T T'/\behind z r'=.ok q'/\aib 0 p' (40::(c++41::r'))=.ok (⟨51,[40],p'⟩::(T'++shut b'::q')):=by
 rw[Gy hc]at h;obtain⟨us,h1,rfl⟩:=Hy h;obtain⟨T,q,rfl,hq,hs,hall⟩:=Lx.PR _ _ (nlr _) (hc.drop _) _ _ _ h1;refine⟨T,_,_,q,rfl,⟨_,hq⟩,hs,fun p' r' hr=> ?_⟩;obtain⟨q',hq'⟩:=hr (p'+1+acL acM c+(c.drop (acL acM c)).length);obtain⟨T',hT,h2⟩:=hall (p'+1+acL acM c) r' q' hq';exact⟨T',_,q',_,hT,hq',by rw[Gy hc,h2];rfl⟩
theorem yN{ts:List Xk}(hm:m=1\/m=2\/m=5\/m=6\/m=7){r:List Nd×List Xk}(h:Ex sz m [] ts (.ok r)):∃r,Ex sz (m+1) [] ts (.ok r):=by
 obtain⟨n,hn⟩:=h
 cases n with
 |zero=>cases hn
 |succ n=>
  unfold ex at hn;rw[if_neg (by omega),if_neg (by omega),if_neg (by omega),if_neg (by omega),if_neg (by omega)]at hn;rcases tF hn with⟨e,_,he⟩|⟨a,q,h1,_⟩
  · cases he
  exact⟨_,n,h1⟩
theorem QM{X:List Xk}{r:List Nd×List Xk}(h:Ex sz 1 [] (⟨51,[40],p⟩::X) (.ok r)):∃b q,Ex sz 1 [] X (.ok (b,q))/\sees kJ q=true:=by
 obtain⟨r,h⟩:=yN (.inl rfl) h;obtain⟨r,n,hn⟩:=yN (.inr (.inl rfl)) h
 cases n with
 |zero=>cases hn
 |succ n=>
  unfold ex at hn;rw[if_neg (by omega),if_pos rfl,if_neg (by exact dJ rfl)]at hn
  cases n with
  |zero=>cases hn
  |succ n=>
   unfold ex at hn;rw[if_neg (by omega),if_neg (by omega),if_pos rfl]at hn;rcases tF hn with⟨e,_,he⟩|⟨a,q,h1,_⟩
   · cases he
   obtain⟨r,h⟩:=yN (.inr (.inr (.inl rfl))) ⟨n,h1⟩;obtain⟨r,h⟩:=yN (.inr (.inr (.inr (.inl rfl)))) h;obtain⟨r,n,hn⟩:=yN (.inr (.inr (.inr (.inr rfl)))) h
   cases n with
   |zero=>cases hn
   |succ n=>
    unfold ex at hn;rw[if_neg (by omega),if_neg (by omega),if_neg (by omega),if_pos rfl,if_neg (by exact dJ rfl)]at hn
    cases n with
    |zero=>cases hn
    |succ n=>
     unfold ex at hn;rw[if_neg (by omega),if_neg (by omega),if_neg (by omega),if_neg (by omega),if_pos rfl,if_pos (show sees oO (⟨51,[40],p⟩::X)=true from rfl)]at hn;rcases tF hn with⟨e,_,he⟩|⟨a,q,h1,h2⟩
     · cases he
     refine⟨a,q,⟨n,h1⟩,?_⟩;rcases tF h2 with⟨e,_,he⟩|⟨_,q2,h3,_⟩
     · cases he
     rcases aU h3 with⟨h4,_⟩|⟨_,h4⟩
     · exact h4
     cases h4
theorem Jp{Z u:List Xk}{s:St}(h:bM sz (LK++Z) (.ok (s,u))):∃e os lm q,s=.select [Y2 nA] [116] (Y2 e) os lm/\uC sz Z (.ok (e,q)):=by
 unfold bM at h;rw[if_neg (by exact dJ rfl),if_neg (by exact dJ rfl),if_neg (by exact dJ rfl),if_neg (by exact dJ rfl),if_neg (by exact dJ rfl)]at h;rcases seq_ok h with⟨e,_,he⟩|⟨_,q,h1,h2⟩
 · cases he
 cases h1
 rcases seq_ok h2 with⟨e,_,he⟩|⟨l,q,h3,h4⟩
 · cases he
 have hA:Ex sz 1 [] (⟨18,[97],7⟩::⟨50,eT,9⟩::⟨18,[116],14⟩::⟨50,bG,16⟩::Z) (.ok (nA.nodes,⟨50,eT,9⟩::⟨18,[116],14⟩::⟨50,bG,16⟩::Z)):=
  Ex.down (m:=1) (by omega) (nlr 9) (by omega) (Ex.atom rfl rfl) (EJ ⟨by decide,by decide⟩) (fun _=>rfl) (fun _=>rfl)
 have hit:∀e q,fE sz (⟨18,[97],7⟩::⟨50,eT,9⟩::⟨18,[116],14⟩::⟨50,bG,16⟩::Z) (.ok (e,q))->e=Y2 nA/\q=⟨50,eT,9⟩::⟨18,[116],14⟩::⟨50,bG,16⟩::Z:=by
  intro e q hh;unfold fE at hh;rw[if_neg (by exact dJ rfl)]at hh;rcases seq_ok hh with⟨e,_,he⟩|⟨a,q1,h5,h6⟩
  · cases he
  cases h6
  have:=Ex.one hA h5.1;injection this with this;injection this with t1 t2;refine⟨?_,t2.symm⟩
  cases a<;>simp[E.nodes,leaf,aX,bP,nA]at t1
  rw[<-t1];rfl
 have hre:∀l q,Reach (fun _=>fE sz) (⟨18,[97],7⟩::⟨50,eT,9⟩::⟨18,[116],14⟩::⟨50,bG,16⟩::Z) l q->l=[Y2 nA]/\q=⟨50,eT,9⟩::⟨18,[116],14⟩::⟨50,bG,16⟩::Z:=by
  intro l q hh
  induction hh with
  |first h1=>obtain⟨rfl,rfl⟩:=hit _ _ h1;exact⟨rfl,rfl⟩
  |step h1 hs hx ih=>obtain⟨_,rfl⟩:=ih;cases hs
 cases h3 with
 |stop h5 h6=>
  obtain⟨rfl,rfl⟩:=hre _ _ h5;rcases seq_ok h4 with⟨e,_,he⟩|⟨_,q,h7,h8⟩
  · cases he
  cases h7
  rcases seq_ok h8 with⟨e,_,he⟩|⟨t,q,h7,h9⟩
  · cases he
  cases h7
  rcases seq_ok h9 with⟨e,_,he⟩|⟨w,q,h7,h10⟩
  · cases he
  rcases seq_ok h10 with⟨e,_,he⟩|⟨os,q2,_,h11⟩
  · cases he
  rcases seq_ok h11 with⟨e,_,he⟩|⟨lm,q3,_,h12⟩
  · cases he
  cases h12
  unfold dC at h7;rw[if_pos (show sees bG (⟨50,bG,16⟩::Z)=true from rfl)]at h7;rcases seq_ok h7 with⟨e,_,he⟩|⟨e,q4,h13,h14⟩
  · cases he
  cases h14
  exact⟨e,os,lm,_,rfl,h13⟩
theorem BQ{Z:List Xk}{e:E}(h:uC sz Z (.ok (e,[]))):bM sz (LK++Z) (.ok (Nh e,[])):=by
 unfold bM;rw[if_neg (by exact dJ rfl),if_neg (by exact dJ rfl),if_neg (by exact dJ rfl),if_neg (by exact dJ rfl),if_neg (by exact dJ rfl)];refine Rg.go (CQ (.inl rfl)) ?_;have hA:uC sz ([⟨18,[97],7⟩]++⟨50,eT,9⟩::⟨18,[116],14⟩::⟨50,bG,16⟩::Z) (.ok (nA,⟨50,eT,9⟩::⟨18,[116],14⟩::⟨50,bG,16⟩::Z)):=Jo (e:=nA) (show([97]:Bs).length<=30 by decide) (Ex.down (m:=1) (by omega) (nlr 9) (by omega) (Ex.atom rfl rfl) (EJ ⟨by decide,by decide⟩) (fun _=>rfl) (fun _=>rfl))
 have EZ:fE sz (⟨18,[97],7⟩::⟨50,eT,9⟩::⟨18,[116],14⟩::⟨50,bG,16⟩::Z) (.ok (Y2 nA,⟨50,eT,9⟩::⟨18,[116],14⟩::⟨50,bG,16⟩::Z)):=by
  unfold fE;rw[if_neg (by exact dJ rfl)];exact Rg.go hA rfl
 refine Rg.go (Sep.stop (Reach.first EZ) rfl) ?_;refine Rg.go (CQ (.inl rfl)) ?_;refine Rg.go (Jt (by decide)) ?_;refine Rg.go (a:=Y2 e) (q:=[]) ?_ ?_
 · unfold dC;rw[if_pos (show sees bG (⟨50,bG,16⟩::Z)=true from rfl)];exact Rg.go h rfl
 refine Rg.go (a:=[]) (q:=[]) rfl ?_;refine Rg.go (a:=Y1) (q:=[]) rfl ?_
 rfl
theorem QR{Z:List Xk}{e:E}(h:uC sz Z (.ok (e,[]))):bM sz (Rs++Z) (.ok (.delete [116] (Y2 e),[])):=by
 unfold bM;rw[if_neg (by exact dJ rfl),if_neg (by exact dJ rfl),if_neg (by exact dJ rfl),if_pos (show sees iw (Rs++Z)=true from rfl)];refine Rg.go (CQ (.inl rfl)) ?_;refine Rg.go (Jt (by decide)) ?_;refine Rg.go (a:=Y2 e) (q:=[]) ?_ rfl;show dC sz (⟨50,bG,14⟩::Z) _;unfold dC;rw[if_pos (show sees bG (⟨50,bG,14⟩::Z)=true from rfl)];exact Rg.go h rfl
theorem FD{s:Bs}{ts:List Xk}{st:St}(hl:adX s=.ok ts)(h:bM s.length ts (.ok (st,[]))):bL s (if 40<deepest st.exprs then .error (0,6)else .ok st):=by
 unfold bL;rw[hl];exact⟨_,h,by simp⟩
theorem oV{s:Bs}{st:St}(h:bL s (.ok st)):∃ts,adX s=.ok ts/\bM s.length ts (.ok (st,[]))/\deepest st.exprs<=40:=by
 unfold bL at h
 split at h
 · cases h
 rename_i ts hl;obtain⟨q,h1,h2⟩:=h
 match q,h1,h2 with
 |.error e,_,h2=>cases h2
 |.ok (a,u),h1,h2=>
  dsimp only at h2
  split at h2
  · rename_i hu;subst hu
    split at h2
    · cases h2
    injection h2 with h2;subst h2;exact⟨ts,hl,h1,by omega⟩
  cases h2
theorem ze{s:Bs}{ts:List Xk}{st st':St}(hp:bL s (.ok st'))(hl:adX s=.ok ts)(h:bM s.length ts (.ok (st,[]))):st'=st:=by
 have h2:=AZ hp (FD hl h)
 split at h2
 · cases h2
 injection h2 with h2;exact h2.symm
theorem xg{s:Bs}{ts:List Xk}(h:adX s=.ok ts):s.length<=2000:=by
 unfold adX at h
 split at h
 · cases h
 omega
def Nl:Bs:=[32,73,83,32,78,85,76,76]
theorem Sa{Y:Bs}{r:Except (Nat×Nat) St}(h:bL (dO++Y) r):(∃e,r=.error e)\/∃e os lm,r=.ok (.select [Y2 nA] [116] (Y2 e) os lm):=by
 cases r with
 |error e=>exact .inl ⟨e,rfl⟩
 |ok st=>
  obtain⟨ts,hl,hs,_⟩:=oV h;have hn:=xg hl;rw[nz Y (by simp[dO]at hn;omega)]at hl;obtain⟨us,_,rfl⟩:=Hy hl;obtain⟨e,os,lm,_,rfl,_⟩:=Jp hs;exact .inr ⟨e,os,lm,rfl⟩
theorem ML{T u q tl:List Xk}{a:Nat}(hT:∀t∈T,(t.kind=50\/t.kind=51)->t.text≠[41])(h:T++[shut a]=u++q)(hs:sees kJ q=true):u=T/\q=[shut a]:=by
 rcases List.append_eq_append_iff.1 h with⟨x,hx,hq⟩|⟨x,hx,hq⟩
 · cases x with
   |nil=>simp at hx hq;exact⟨hx,hq.symm⟩
   |cons y x=>
    simp at hq;obtain⟨_,h2,h3⟩:=hq;subst h3
    cases hs
 cases x with
 |nil=>simp at hx hq;exact⟨hx.symm,hq⟩
 |cons y x=>
  exfalso
  rw[hq]at hs;have hy:=hT y (by rw[hx];simp);simp[sees]at hs;exact hy hs.1 hs.2
theorem EK{c:Bs}(hc:rJ c){s1 s2 s3:St}(h1:bL (dO++40::(c++[41])) (.ok s1))(h2:bL (dO++(fH++32::40::(c++[41]))) (.ok s2))(h3:bL (dO++40::(c++41::Nl)) (.ok s3)):
   ∃e:E,e.ok 2000/\s1=Nh e/\s2=Nh (.un 20 e)/\s3=Nh (.un 21 e)/\bL (wB++40::(c++[41])) (.ok (.delete [116] (Y2 e))):=by
 obtain⟨ts,hl,hs,hd⟩:=oV h1;have hn:=xg hl;have hn2:=hn;simp only[aaN,Yw,aeC]at hn2;have hn3:dO.length=22:=rfl;rw[nz _ (by simp;omega)]at hl;obtain⟨us,hu,rfl⟩:=Hy hl;obtain⟨T,a,b,q,rfl,⟨z,hz⟩,hT,hall⟩:=PL hc (p:=22) (r:=[]) hu
 obtain rfl:q=[]:=by injection hz with hz;exact hz.symm
 obtain⟨e,os,lm,q,rfl,hex⟩:=Jp hs;have heo:=(hex.2 _ _ rfl).1;obtain⟨bn,q1,hb,hsh⟩:=QM hex.1;obtain⟨u,hu1,hu2⟩:=hb.loc (dO++40::(c++[41])).length;obtain⟨rfl,rfl⟩:=ML (tl:=[]) hT hu1 hsh
 have hbn:bn=e.nodes:=by
  have h9:Ex _ 9 [] (⟨51,[40],a⟩::(u++[shut b])) (.ok (bn,[])):=Ex.Ve rfl hb rfl;have h10:=Ex.down (m:=1) (by omega) (nlr 9) (by omega) h9 (stops_nil 1) (fun _=>rfl) (fun _=>rfl);have:=Ex.one h10 hex.1;injection this with this;injection this with t1 t2
 subst hbn
 have hin:∀sz T' p b' rest,Lk u T'->Ex sz 9 [] (⟨51,[40],p⟩::(T'++shut b'::rest)) (.ok (e.nodes,rest)):=fun sz T' p b' rest hT=>by
  obtain⟨u',Xn,hu2'⟩:=hb.loc sz;obtain rfl:=aid Xn;exact Ex.Ve (r:=.ok (e.nodes,shut b'::rest)) rfl (hu2' T' (shut b'::rest) hT rfl) rfl
 have hnil:∀z,∃q',behind z []=.ok q':=fun z=>⟨[],rfl⟩
 have hst:Stops 1 []:=stops_nil 1
 have r1:∀sz T' p b',Lk u T'->uC sz (⟨51,[40],p⟩::(T'++[shut b'])) (.ok (e,[])):=fun sz T' p b' hT=>by
  have:=Ex.down (m:=1) (by omega) (nlr 9) (by omega) (hin sz T' p b' [] hT) hst (fun _=>rfl) (fun _=>rfl);have h5:=Jo heo (ts:=⟨51,[40],p⟩::(T'++[shut b'])) (rest:=[]) (by rw[aaK];exact this);rw[aaK]at h5;exact h5
 have hdep:e.depth<=40:=by
  simp[St.exprs,deepest]at hd;omega
 refine⟨e,heo,?_,?_,?_,?_⟩
 · refine ze h1 ?_ (BQ (r1 _ u a b rfl));rw[nz _ (by simp;omega)];exact hl
 · obtain⟨ts,hl2,_,_⟩:=oV h2;have hm:=xg hl2;have hm2:=hm;simp only[aaN,Yw,aeC]at hm2;rw[nz _ (by simp;omega)]at hl2;obtain⟨T',b',q',z,hT',hq',hl3⟩:=hall 26 [] hnil;injection hq' with hq';subst hq'
   have hx:uC (dO++(fH++32::40::(c++[41]))).length (⟨50,fH,22⟩::⟨51,[40],26⟩::(T'++[shut b'])) (.ok (.un 20 e,[])):=by
    have g3:=Ex.down (m:=3) (by omega) (nlr 9) (by omega) (hin (dO++(fH++32::40::(c++[41]))).length T' 26 b' [] hT') (stops_nil 3) (fun _=>rfl) (fun _=>rfl);have g4:=Ex.not (a:=[]) (ts:=⟨50,fH,22⟩::⟨51,[40],26⟩::(T'++[shut b'])) (r':=.ok ((E.un 20 e).nodes,[])) rfl g3 rfl;have g5:=Ex.down (m:=1) (by omega) (by omega) (by omega) g4 hst (fun h=>by omega) (fun h=>by omega);have h5:=Jo (e:=.un 20 e) ⟨by omega,by omega,fun h=>by omega,heo⟩ (ts:=⟨50,fH,22⟩::⟨51,[40],26⟩::(T'++[shut b'])) (rest:=[]) (by rw[aaK];exact g5);rw[aaK]at h5;exact h5
   refine ze h2 ?_ (BQ hx);rw[nz _ (by simp;omega)];show pre LK (aib 0 22 (fH++32::40::(c++[41])))=_;rw[gZ (by decide) (lN ⟨_,_,rfl,by decide⟩ (by decide))];show pre LK (pre _ (aib 0 26 (40::(c++[41]))))=_;rw[hl3]
   rfl
 · obtain⟨ts,hl2,_,_⟩:=oV h3;have hm:=xg hl2;have hm2:=hm;simp only[aaN,Yw,aeC]at hm2;rw[nz _ (by simp;omega)]at hl2;obtain⟨T',b',q',z,hT',hq',hl3⟩:=hall 22 Nl (fun z=>⟨_,rfl⟩)
   obtain⟨x,y,rfl⟩:∃x y,q'=[⟨50,AA,x⟩,⟨50,bq,y⟩]:=by injection hq' with hq';exact⟨_,_,hq'.symm⟩
   have hx:uC (dO++40::(c++41::Nl)).length (⟨51,[40],22⟩::(T'++shut b'::[⟨50,AA,x⟩,⟨50,bq,y⟩])) (.ok (.un 21 e,[])):=by
    have g3:=Ex.down (m:=5) (by omega) (nlr 9) (by omega) (hin (dO++40::(c++41::Nl)).length T' 22 b' [⟨50,AA,x⟩,⟨50,bq,y⟩] hT') (MG (by omega)) (fun _=>rfl) (fun _=>rfl);have g4:Ex (dO++40::(c++41::Nl)).length 4 [] (⟨51,[40],22⟩::(T'++shut b'::[⟨50,AA,x⟩,⟨50,bq,y⟩])) (.ok ((E.un 21 e).nodes,[])):=Ex.cmp g3 (GD rfl rfl);have g5:=Ex.down (m:=1) (by omega) (by omega) (by omega) g4 hst (fun h=>by omega) (fun h=>rfl);have h5:=Jo (e:=.un 21 e) ⟨by omega,by omega,fun h=>by omega,heo⟩ (ts:=⟨51,[40],22⟩::(T'++shut b'::[⟨50,AA,x⟩,⟨50,bq,y⟩])) (rest:=[]) (by rw[aaK];exact g5);rw[aaK]at h5;exact h5
   refine ze h3 ?_ (BQ hx);rw[nz _ (by simp;omega)];show pre LK (aib 0 22 (40::(c++41::Nl)))=_;rw[hl3]
   rfl
 obtain⟨T',b',q',z,hT',hq',hl3⟩:=hall 20 [] hnil;injection hq' with hq';subst hq'
 have h5:=FD (s:=wB++40::(c++[41])) (by
  rw[Rw _ (by simp;omega)];show pre Rs (aib 0 20 (40::(c++[41])))=_;rw[hl3]
  rfl) (QR (r1 (wB++40::(c++[41])).length T' 20 b' hT'))
 rw[if_neg (by simp[St.exprs,deepest];omega)]at h5;exact h5
end Px
end
section
namespace Tx
open Tb Tw Bt
theorem NY(s:ByteArray)(hp:∀r,aeb s.data.toList r->∃p c,r=.error (p,c))(hm:s.size<=aaV)(b:Nat)(w:Y4)(he:jJ w):
   aaT Zc 9 #[Ym (Y2 ⟨b,0,Y1⟩),.string s] w fun x w'=>aaS w.heap.size w w'/\∃c:Nat,1<=c/\x=Yl (Yn #[Yj #[Yg Yh 0,Yp Y1 0 0,Yg Yh 0],Yg Yh (c:Int)]):=by
 have hmf:∀(fn:Fn) (first cap:Array Y3) (w:Y4),(Instr.makeFunc fn first cap).run Zc w=.ok (.func fn first cap) w:=fun _ _ _ _=>rfl
 have HP:=hd hp;have hb0:aaS w.heap.size w ((w.alloc (Yk #[Yg Yh 0,Yp Y1 0 0,Yg Yh 0] 29)).alloc (Yk #[Yg Yh 0] 30)):=((Below.refl _ _).alloc (nlr _) _).alloc (by simp) _;have HT:=hd (nI s ((w.alloc (Yk #[Yg Yh 0,Yp Y1 0 0,Yg Yh 0] 29)).alloc (Yk #[Yg Yh 0] 30)) (he.below hb0) hm);have K0:ae ((w.alloc (Yk #[Yg Yh 0,Yp Y1 0 0,Yg Yh 0] 29)).alloc (Yk #[Yg Yh 0] 30)) w.heap.size #[Yg Yh 0,Yp Y1 0 0,Yg Yh 0] 29:=(ae.new w _ _).alloc _;have K1:ae ((w.alloc (Yk #[Yg Yh 0,Yp Y1 0 0,Yg Yh 0] 29)).alloc (Yk #[Yg Yh 0] 30)) (w.heap.size+1) #[Yg Yh 0] 30:=(by have h:=ae.new (w.alloc (Yk #[Yg Yh 0,Yp Y1 0 0,Yg Yh 0] 29)) #[Yg Yh 0] 30;rwa [World.size_alloc]at h);clear hp he
 go_enter_defers Tryz.func9,Tryz.ntmps9
 go_wp2_with fail;refine HT.o.mono ?_;rintro e wp ⟨hb1,r,hr,ht⟩;obtain⟨p,c,rfl⟩:=HP.o _ hr;have hc1:=Px.Mq hr;obtain rfl:e=lL p c:=ht;have HK0:=hd (K0.below hb1 (by simp;omega));have HK1:=hd (K1.below hb1 (by simp));have HB1:Yf (aaS w.heap.size w wp):=hb0.trans (hb1.mono (by simp;omega));clear hb1 K0 K1 hb0 HT hr;refine leaves_cons (f:=17) (args:=#[Ym (Y2 ⟨w.heap.size+1,0,Y1⟩)]) (by simp[settle]) (by simp[go_sem]) ?_;refine(Bb (w.heap.size+1) 0 (p:Int) (c:Int) [] _ HK1.o).mono ?_;rintro e u' w'' ⟨rfl,rfl,w3,hb3,rfl⟩;have k0:=((HK0.o.below hb3 HK0.o.lt).far ⟨w.heap.size+1,0,Y1⟩ (Yg Yh (c:Int)) (by simp));have k1:=((HK1.o.below hb3 HK1.o.lt).set 0 (Yg Yh (c:Int)));have d0:=k0.cell 0;have d1:=k0.cell 1;have d2:=k0.cell 2;have d3:=k1.cell 0;simp at d0 d1 d2 d3;simp[Leaves,settle,results,Tryz.results9,go_sem,d0,d1,d2,d3];exact⟨(HB1.o.trans (hb3.mono HB1.o.size)).setCell (by show _<=w.heap.size+1;omega) _,c,hc1,rfl⟩
end Tx
end
section
namespace Px
theorem QZ{Y:Y6}{e:E}{os:List (E×Bool)}{lm:Option Nat}(h:bL (dO++Y) (.ok (.select [Y2 nA] [116] (Y2 e) os lm))):os.length<=2000/\∀d∈ahg bX [Y2 nA] (Y2 e) os,d.1.ok 2000:=by
 obtain⟨f,_,_⟩:=pO h;obtain⟨ts,hl,hs,_⟩:=oV h;obtain⟨l1,l2,_⟩:=Lx.Np hl;have hw:=(Oh hs).2;simp only[St.lens,Yw,aeC]at hw;refine⟨by omega,fun d hd=> ?_⟩;have hx:=f.exprs;simp only[St.exprs,List.filterMap_cons,id_eq,List.filterMap_nil,Option.toList_some,YI,YK]at hx;simp only[ahg,Tb.bf,Tb.MF,ahn,YZ,Y0,YU,List.flatMap_nil,aaK,YI,YK,aeQ,List.mem_map]at hd;rcases hd with rfl|rfl|⟨x,⟨y,hy,rfl⟩,rfl⟩
 · exact hx nA (by simp)
 · exact hx e (by simp)
 exact hx y.1 (by simp only[aeQ];exact .inr (.inr (List.mem_map.2 ⟨y,hy,rfl⟩)))
end Px
namespace Kp
open Tx Tb Tw Bt
def qG(s:Y6)(M:aN)(wd:Int)(k c:Nat):Prop:=1<=c\/(c=0/\wd=1/\∃e os lm fs,aeb s (.ok (.select [Y2 aih] [116] (Y2 e) os lm))/\I4 aii M [Y2 aih] (Y2 e) os=.ok fs/\(os=[]->lm=Y1->k=fs.length))
theorem NN{M:aN}(s:ByteArray)(Y:Y6)(hs:s.data.toList=aij++Y)(hm:s.size<=aaV)(he:jJ w)(h:kU w b 0 p ge ce [116] aii M nx F R)(h3:∀m∈M,aik m.2):
   aaT Zc 9 #[Ym (Y2 ⟨b,0,Y1⟩),.string s] w fun x w'=>ax [b] w w'/\kU w' b 0 p ge ce [116] aii M nx F R/\∃(wd:Int) (ao:Option Addr) (k cp c:Nat),x=Yl (Yn #[Yj #[Yg Yh wd,Yp ao k cp,Yg Yh 0],Yg Yh (c:Int)])/\qG s.data.toList M wd k c:=by
 by_cases hok:∃st,aeb s.data.toList (.ok st)
 · obtain⟨st,hst⟩:=hok;have TR:=hst;rw[hs]at TR;rcases Px.Sa TR with⟨e,he⟩|⟨e,os,lm,he⟩
   · cases he
   injection he with he;subst he;obtain⟨hl,hd⟩:=Px.QZ TR
   cases hf:I4 aii M [Y2 aih] (Y2 e) os with
   |error c=>
    refine(NF [Y2 aih] e os lm s (Px.Reads.of hst) hm he h ⟨by simp,hl,by simp⟩ ⟨by decide,by decide⟩ hd c hf).mono ?_;rintro x w' ⟨hT,hS,rfl⟩;refine⟨hT,hS,0,Y1,0,0,c,rfl,.inl ?_⟩;unfold I4 at hf
    cases hk:ahx aii (ahg aii [Y2 aih] (Y2 e) os)with
    |error k=>rw[hk]at hf;cases hf;exact Mg.NH hk
    |ok u=>rw[hk]at hf;exact Mg.yX hf
   |ok fs=>
    obtain⟨g1,g2⟩:=xe hf;refine(JV [Y2 aih] (Y2 e) os lm s (Px.Reads.of hst) hm he h ⟨by simp,hl,by simp⟩ ⟨by decide,by decide⟩ hd g1 fs g2).mono ?_;rintro x w' ⟨hT,hS,a,rfl,xs,v,hs1,hs2,rfl,hown⟩;obtain⟨ao,cp,rfl⟩:=ai hown;refine⟨hT,hS,1,ao,_,cp,0,rfl,.inr ⟨rfl,rfl,e,os,lm,fs,hst,hf,fun h1 h2=> ?_⟩⟩;subst h1 h2;rw[if_neg (by decide)]
    refine LP hs2 fun x hx=> ?_
    obtain⟨_,hmem⟩:=Mg.ji g2;obtain⟨r,_,hv,_⟩:=hmem x hx;have:=(Mg.mK hv).1;rw[this];rfl
 refine(NY s (fun r hr=> ?_) hm b w he).mono ?_
 · cases r with
   |error e=>exact⟨e.1,e.2,rfl⟩
   |ok st=>exact absurd ⟨st,hr⟩ hok
 rintro x w' ⟨hB,c,hc,rfl⟩;exact⟨ax.of hB,h.below hB,0,Y1,0,0,c,rfl,.inl hc⟩
theorem O7{M:aN}(s:ByteArray)(hs:s.data.toList=Px.Sm)(hm:s.size<=aaV)(he:jJ w)(h:kU w b 0 p ge ce [116] aii M nx F R)(h3:∀m∈M,aik m.2):
   aaT Zc 9 #[Ym (Y2 ⟨b,0,Y1⟩),.string s] w fun x w'=>ax [b] w w'/\kU w' b 0 p ge ce [116] aii M nx F R/\∃ao cp,x=Yl (Yn #[Yj #[Yg Yh 3,Yp ao (3*M.length) cp,Yg Yh 0],Yg Yh 0]):=by
 obtain⟨fs,hf,hl⟩:=Mg.Bz (cs:=aii) (items:=[aih,Px.nB,Px.nC]) (l:=M.map agU) fun r hr=>by
  obtain⟨m,hm,rfl⟩:=List.mem_map.1 hr;exact Mg.Li _ (h3 m hm)
 rw[aeB]at hl;refine(JV [Y1] Y1 [] Y1 s (by rw[hs];exact Px.Io) hm he h ⟨by simp,by simp,by simp⟩ ⟨by decide,by decide⟩ (fun d hd=> ?_) Mg.Ji fs hf).mono ?_
 · have:d∈[(aih,0),(Px.nB,0),(Px.nC,0)]:=hd;simp only[aeQ,List.not_mem_nil,or_false]at this;rcases this with rfl|rfl|rfl<;>(show([_]:Y6).length<=30;decide)
 rintro x w' ⟨hT,hS,a,rfl,xs,v,hs1,hs2,rfl,hown⟩;rw[if_neg (by decide)]at hown
 have hc:(xs.flatMap agx).length=3*M.length:=by
  rw[<-hl,<-hs2.perm.length_eq]
  have h1:∀x∈xs,x.1.length=3:=fun x hx=>by
   obtain⟨_,hmem⟩:=Mg.ji hf;obtain⟨r,_,hv,_⟩:=hmem x (hs2.perm.mem_iff.1 hx);rw[(Mg.mK hv).1];rfl
  clear hs1 hs2 hown
  induction xs with
  |nil=>rfl
  |cons a l ih=>
   rw[YU,aaN,h1 a (by simp),ih fun x hx=>h1 x (by simp[hx])];simp;omega
 rw[hc]at hown;obtain⟨ao,cp,rfl⟩:=ai hown;exact⟨hT,hS,ao,cp,rfl⟩
end Kp
end
namespace Kp
def jd(b:UInt8):UInt8:=if b=40\/b=41\/b=39\/b=34\/b=45\/b=59 then 32 else b
theorem OA(l:Y6):Lx.rJ (l.map jd):=by
 intro b hb;obtain⟨c,_,rfl⟩:=List.mem_map.1 hb;unfold jd
 split
 · decide
 rename_i h;simp only[not_or]at h;exact⟨h.1,h.2.1,h.2.2.1,h.2.2.2.1,h.2.2.2.2.1,h.2.2.2.2.2⟩
theorem JB{s T:ByteArray}(h:k<s.size)(hT:T.data.toList=(s.data.toList.take k).map jd){X:ByteArray}(hX:X.data.toList=[jd s[k]]):(T++X).data.toList=(s.data.toList.take (k+1)).map jd:=by
 have hk:k<s.data.toList.length:=by simpa using h
 rw[List.take_succ_eq_append_getElem hk,aev,<-hT];simp[hX]
 rfl
theorem SK(s:ByteArray)(k:Nat)(h:k<s.size):(s.extract k (k+1)).data.toList=[s[k]]:=by
 have hk:k<s.data.toList.length:=by simpa using h
 rw[ByteArray.data_extract,Array.toList_extract,List.extract_eq_take_drop,show k+1-k=1 by omega,List.drop_eq_getElem_cons hk]
 rfl
theorem Pq(s:ByteArray)(w:Y4)(hs:s.size<=1048576):aaT Zc 7 #[.string s] w fun x w'=>w'=w/\∃T:ByteArray,x=Yl (.string T)/\T.size=s.size/\T.data.toList=s.data.toList.map jd:=by
 have hmx:2000000<=aaV:=by decide
 go_enter Tryz.func7,Tryz.ntmps7;go_wp2_with fail;go_loopw [3,4] (fun t i wr=>∃(k:Nat) (T:ByteArray),k<=s.size/\i=Yg Yh k/\t=.string T/\T.size<=1048576/\wr=w/\Yf (T.size=k/\T.data.toList=(s.data.toList.take k).map jd)) (fun _ i _=>s.size-(aeJ i).toNat)
 case atStart=>exact⟨0,⟨#[]⟩,aeR _,rfl,rfl,by simp[ByteArray.size],rfl,rfl,by simp⟩
 case round=>
  obtain⟨k,T,hk,rfl,rfl,hT,rfl,HT⟩:=hrel;by_cases hlt:k<s.size
  · have hb:∀x:UInt8,s[k]=x\/¬s[k]=x:=fun x=>Decidable.em _
    have hne:∀x:UInt8,¬s[k]=x->((s[k].toNat:Int)==(x.toNat:Int))=false:=fun x h=>by
     rw[beq_eq_false_iff_ne];intro e;exact h (UInt8.toNat_inj.1 (by omega))
    have heq:∀x:UInt8,s[k]=x->((s[k].toNat:Int)==(x.toNat:Int))=true:=fun x h=>by rw[h];simp
    have UN:jd s[k]=32->Yf ((T++⟨#[32]⟩:ByteArray).size=k+1/\(T++⟨#[32]⟩:ByteArray).data.toList=(s.data.toList.take (k+1)).map jd):=fun h=>⟨by rw[ahS,HT.o.1];rfl,JB hlt HT.o.2 (by rw[h])⟩
    have UK:jd s[k]=s[k]->Yf ((T++s.extract k (k+1)).size=k+1/\(T++s.extract k (k+1)).data.toList=(s.data.toList.take (k+1)).map jd):=fun h=>⟨by rw[ahS,HT.o.1,ail];omega,JB hlt HT.o.2 (by rw[h];exact SK s k hlt)⟩
    have HF1:=hd UN;have HF2:=hd UK;clear UN UK
    have sz1:(T++⟨#[32]⟩:ByteArray).size<=1048577:=by rw[ahS];show T.size+1<=_;omega
    have sz2:(T++s.extract k (k+1)).size<=1048577:=by rw[ahS,ail];omega
    rcases hb 40 with h40|h40
    · have q40:((s[k].toNat:Int)==40)=true:=heq 40 h40;have HQ:=HF1.o (by simp[jd,h40]);clear hb hne heq h40;go_wp2_with fail;go_roundw
      case rel=>exact⟨k+1,_,by omega,by go_num,rfl,by have:=HQ.o.1;omega,trivial,HQ⟩
      case measure=>simp[aeJ];omega
    have q40:((s[k].toNat:Int)==40)=false:=hne 40 h40;rcases hb 41 with h41|h41
    · have q41:((s[k].toNat:Int)==41)=true:=heq 41 h41;have HQ:=HF1.o (by simp[jd,h41]);clear hb hne heq h40 h41;go_wp2_with fail;go_roundw
      case rel=>exact⟨k+1,_,by omega,by go_num,rfl,by have:=HQ.o.1;omega,trivial,HQ⟩
      case measure=>simp[aeJ];omega
    have q41:((s[k].toNat:Int)==41)=false:=hne 41 h41;rcases hb 39 with h39|h39
    · have q39:((s[k].toNat:Int)==39)=true:=heq 39 h39;have HQ:=HF1.o (by simp[jd,h39]);clear hb hne heq h40 h41 h39;go_wp2_with fail;go_roundw
      case rel=>exact⟨k+1,_,by omega,by go_num,rfl,by have:=HQ.o.1;omega,trivial,HQ⟩
      case measure=>simp[aeJ];omega
    have q39:((s[k].toNat:Int)==39)=false:=hne 39 h39;rcases hb 34 with h34|h34
    · have q34:((s[k].toNat:Int)==34)=true:=heq 34 h34;have HQ:=HF1.o (by simp[jd,h34]);clear hb hne heq h40 h41 h39 h34;go_wp2_with fail;go_roundw
      case rel=>exact⟨k+1,_,by omega,by go_num,rfl,by have:=HQ.o.1;omega,trivial,HQ⟩
      case measure=>simp[aeJ];omega
    have q34:((s[k].toNat:Int)==34)=false:=hne 34 h34;rcases hb 45 with h45|h45
    · have q45:((s[k].toNat:Int)==45)=true:=heq 45 h45;have HQ:=HF1.o (by simp[jd,h45]);clear hb hne heq h40 h41 h39 h34 h45;go_wp2_with fail;go_roundw
      case rel=>exact⟨k+1,_,by omega,by go_num,rfl,by have:=HQ.o.1;omega,trivial,HQ⟩
      case measure=>simp[aeJ];omega
    have q45:((s[k].toNat:Int)==45)=false:=hne 45 h45;rcases hb 59 with h59|h59
    · have q59:((s[k].toNat:Int)==59)=true:=heq 59 h59;have HQ:=HF1.o (by simp[jd,h59]);clear hb hne heq h40 h41 h39 h34 h45 h59;go_wp2_with fail;go_roundw
      case rel=>exact⟨k+1,_,by omega,by go_num,rfl,by have:=HQ.o.1;omega,trivial,HQ⟩
      case measure=>simp[aeJ];omega
    have q59:((s[k].toNat:Int)==59)=false:=hne 59 h59;have HQ:=HF2.o (by simp[jd,h40,h41,h39,h34,h45,h59]);clear hb hne heq h40 h41 h39 h34 h45 h59;go_wp2_with fail;go_roundw
    case rel=>exact⟨k+1,_,by omega,by go_num,rfl,by have:=HQ.o.1;omega,trivial,HQ⟩
    case measure=>simp[aeJ];omega
  go_wp2_with fail;go_ret
  have:k=s.size:=by omega
  subst this;exact⟨rfl,T,rfl,HT.o.1,by rw[HT.o.2,List.take_of_length_le (by simp)]⟩
end Kp
section
namespace Kp
open Tx Tb Tw Bt
theorem LV{c:Y6}(hc:Lx.rJ c){M:aN}{nx:Int}(hO:jL aii M nx)(h3:∀m∈M,aik m.2){w1 w2 w3:Int}{k1 k2 k3:Nat}(h1:qG (aij++40::(c++[41])) M w1 k1 0)(h2:qG (aij++(aag++32::40::(c++[41]))) M w2 k2 0)(h3':qG (aij++40::(c++41::Px.Nl)) M w3 k3 0):
   w1=1/\w2=1/\w3=1/\k1+k2+k3=M.length/\∃e ns,Px.E.ok 2000 e/\aeb (Px.wB++40::(c++[41])) (.ok (.delete [116] (Y2 e)))/\Ai aii M (Y2 e)=.ok ns/\ns.length=k1:=by
 rcases h1 with h1|⟨_,rfl,e1,os1,lm1,f1,p1,s1,n1⟩
 · omega
 rcases h2 with h2|⟨_,rfl,e2,os2,lm2,f2,p2,s2,n2⟩
 · omega
 rcases h3' with h3'|⟨_,rfl,e3,os3,lm3,f3,p3,s3,n3⟩
 · omega
 obtain⟨e,ho,q1,q2,q3,q4⟩:=Px.EK hc p1 p2 p3;unfold Px.Nh at q1 q2 q3;injection q1 with _ _ q1 o1 l1;injection q1 with q1;injection q2 with _ _ q2 o2 l2;injection q2 with q2;injection q3 with _ _ q3 o3 l3;injection q3 with q3;subst q1 q2 q3 o1 o2 o3 l1 l2 l3;obtain⟨c1,g1⟩:=xe s1;obtain⟨c2,g2⟩:=xe s2;obtain⟨c3,g3⟩:=xe s3;obtain⟨cw,cd⟩:=Mg.F5 c1
 obtain⟨f1',f2',f3',t1,t2,t3,tn,_⟩:=Mg.three e1 (M.map agU) (fun r hr=>by
  obtain⟨v,hv⟩:=Mg.yE g1 r hr;obtain⟨m,hm,rfl⟩:=List.mem_map.1 hr;rw[hv];rcases Mg.RU (hO.rows m hm) ho (cd (e1,3) (by simp[gL])) hv with rfl|rfl|rfl
  · exact .inl rfl
  · exact .inr (.inl rfl)
  · exact .inr (.inr rfl)) (fun r hr=>by
  obtain⟨m,hm,rfl⟩:=List.mem_map.1 hr
  exact Pd _ (h3 m hm))
 have u1:f1'=f1:=by have:=t1.symm.trans g1;injection this
 have u2:f2'=f2:=by have:=t2.symm.trans g2;injection this
 have u3:f3'=f3:=by have:=t3.symm.trans g3;injection this
 subst u1 u2 u3;obtain⟨ns,d1,d2⟩:=Mg.rG g1;have a1:=n1 rfl rfl;have a2:=n2 rfl rfl;have a3:=n3 rfl rfl;rw[aeB]at tn;refine⟨rfl,rfl,rfl,by omega,e1,ns,ho,q4,?_,by omega⟩;unfold Ai;rw[cw];exact d1
theorem Qn{cs:abS}{M:aN}{o:Option ZU}{ns:List Int}(h:Ai cs M o=.ok ns):ns.Sublist (M.map agx):=by
 unfold Ai at h
 split at h
 · cases h
 exact Mg.um h
theorem KO(ao:Option Addr)(n c:Nat)(words:ByteArray)(w:Y4)(hn:n<=aaV)(hws:words.size<=1048576)(he:jJ w)(hed:Av w)(hI:GX w ao n):
   aaT Zc 3 #[Yp ao n c,.string words] w fun x w'=>x=Yl (.bool true)/\aaS w.heap.size w w':=by
 have HEP:=hd he;have HBG:=hd (KG ao n c w hn he hed hI);have HTM:=hd (Pq words w hws);clear he hed hI;go_enter aim,Tryz.ntmps3;go_wp2_with fail;refine HTM.o.mono ?_;rintro x w1 ⟨rfl,S,rfl,hS1,hS2⟩;have HTX:=hd hS2
 have hsz:S.size<=1048576:=by omega
 clear hS1 hS2 HTM;go_wp2_with fail;refine HBG.o.mono ?_;rintro x W1 ⟨hb1,b,p,ge,ce,M,nx,F,R,rfl,hM,hG⟩;have HB1:=hd hb1;have HG1:=hd hG;have hbw:w1.heap.size<=b:=hG.low b (by simp);clear hb1 hG HBG
 have hmx:3000000<=aaV:=by decide
 have HT:Yf (Lx.rJ S.data.toList):=by show Lx.rJ _;rw[HTX.o];exact OA _
 have HS1:=hd HG1.o.sto;have HR3:=hd HG1.o.rows;have Xj:=hd HG1.o.low;have HOK:=hd HG1.o.sto.ok;have HE1:=hd (HEP.o.below HB1.o);have HLT:=hd HG1.o.sto.lt;clear HG1;go_wp2_with fail;refine(NN _ (40::(S.data.toList++[41])) ?_ ?_ HE1.o HS1.o HR3.o).mono ?_
 · simp[aij]
 · simp only[ahS];show 22+1+S.size+1<=aaV;omega
 rintro x w3 ⟨hT,hS,wd1,a1,k1,p1,e1,rfl,hA1⟩
 have HA1:Yf (qG (aij++40::(S.data.toList++[41])) M wd1 k1 e1):=by show qG _ _ _ _ _;simpa[aij]using hA1
 have HB3:Yf (aaS w1.heap.size w1 (w3.alloc (Yk #[Yg Yh wd1,Yp a1 k1 p1,Yg Yh 0] 29))):=(lG HB1.o hT hbw).alloc (lG HB1.o hT hbw).size _
 have HN3:Yf (aaS w3.heap.size w3 (w3.alloc (Yk #[Yg Yh wd1,Yp a1 k1 p1,Yg Yh 0] 29))):=by show aaS _ _ _;go_grown
 have HS3:=hd (hS.below HN3.o);have HE3:=hd (HEP.o.below HB3.o);have HX1:=hd (ae.new w3 #[Yg Yh wd1,Yp a1 k1 p1,Yg Yh 0] 29);have hb3:=hS.blk.lt;have hs31:=hT.size;clear hT hS HS1 HE1 hA1;go_wp2_with fail;generalize w3.alloc (Yk #[Yg Yh wd1,Yp a1 k1 p1,Yg Yh 0] 29)=V3 at*;refine(NN _ (aag++32::40::(S.data.toList++[41])) ?_ ?_ HE3.o HS3.o HR3.o).mono ?_
 · simp[aij,aag]
 · simp only[ahS]
   first|(show 27+S.size+1<=aaV;omega)|(show 22+5+S.size+1<=aaV;omega)
 rintro x w4 ⟨hT,hS,wd2,a2,k2,p2,e2,rfl,hA2⟩
 have HA2:Yf (qG (aij++(aag++32::40::(S.data.toList++[41]))) M wd2 k2 e2):=by show qG _ _ _ _ _;simpa[aij,aag]using hA2
 have HB4:Yf (aaS w1.heap.size w1 (w4.alloc (Yk #[Yg Yh wd2,Yp a2 k2 p2,Yg Yh 0] 29))):=(lG HB3.o hT hbw).alloc (lG HB3.o hT hbw).size _
 have HN4:Yf (aaS w4.heap.size w4 (w4.alloc (Yk #[Yg Yh wd2,Yp a2 k2 p2,Yg Yh 0] 29))):=by show aaS _ _ _;go_grown
 have HS4:=hd (hS.below HN4.o);have HE4:=hd (HEP.o.below HB4.o);have VX:=hd ((hT.blk HX1.o (by simp;omega)).alloc (Yk #[Yg Yh wd2,Yp a2 k2 p2,Yg Yh 0] 29));have Vm:=hd (ae.new w4 #[Yg Yh wd2,Yp a2 k2 p2,Yg Yh 0] 29);have hb4:=hS.blk.lt;clear hT hS HS3 HE3 HX1 hA2;go_wp2_with fail;generalize w4.alloc (Yk #[Yg Yh wd2,Yp a2 k2 p2,Yg Yh 0] 29)=V4 at*;refine(NN _ (40::(S.data.toList++41::Px.Nl)) ?_ ?_ HE4.o HS4.o HR3.o).mono ?_
 · simp[aij,Px.Nl]
 · simp only[ahS]
   first|(show 23+S.size+9<=aaV;omega)|(show 22+1+S.size+9<=aaV;omega)
 rintro x w5 ⟨hT,hS,wd3,a3,k3,p3,e3,rfl,hA3⟩
 have HA3:Yf (qG (aij++40::(S.data.toList++41::Px.Nl)) M wd3 k3 e3):=by show qG _ _ _ _ _;simpa[aij,Px.Nl]using hA3
 have HB5:Yf (aaS w1.heap.size w1 (w5.alloc (Yk #[Yg Yh wd3,Yp a3 k3 p3,Yg Yh 0] 29))):=(lG HB4.o hT hbw).alloc (lG HB4.o hT hbw).size _
 have HN5:Yf (aaS w5.heap.size w5 (w5.alloc (Yk #[Yg Yh wd3,Yp a3 k3 p3,Yg Yh 0] 29))):=by show aaS _ _ _;go_grown
 have HS5:=hd (hS.below HN5.o);have HE5:=hd (HEP.o.below HB5.o);have P6:=hd ((hT.blk VX.o (by simp;omega)).alloc (Yk #[Yg Yh wd3,Yp a3 k3 p3,Yg Yh 0] 29));have QW:=hd ((hT.blk Vm.o (by simp;omega)).alloc (Yk #[Yg Yh wd3,Yp a3 k3 p3,Yg Yh 0] 29));have MQ:=hd (ae.new w5 #[Yg Yh wd3,Yp a3 k3 p3,Yg Yh 0] 29);have hb5:=hS.blk.lt;clear hT hS HS4 HE4 VX Vm hA3;have g1:=P6.o.cell 0;have g2:=QW.o.cell 0;have g3:=MQ.o.cell 0;have q1:=P6.o.cell 1;have q2:=QW.o.cell 1;have q3:=MQ.o.cell 1;have l1:=P6.o.lt;have l2:=QW.o.lt;have l3:=MQ.o.lt;simp at g1 g2 g3 q1 q2 q3;rcases ain e1 with rfl|he1
 · rcases ain e2 with rfl|he2
   · rcases ain e3 with rfl|he3
     · obtain⟨rfl,rfl,rfl,hsum,e,ns,heo,hdel,hdm,hnl⟩:=LV HT.o HOK.o HR3.o HA1.o HA2.o HA3.o;have HDL:=hd hdel;have HDM:=hd hdm;have HEO:=hd heo;have hwl:(without ns M).length+ns.length=M.length:=o7 (zA HOK.o.rise) (Qn hdm);have HWL:=hd hwl;have hsz1:=HB1.o.size;subst hnl;clear hdel hdm heo hwl;have e1:IntKind.i64.wrap ((ns.length:Int)+k2)=(ns.length:Int)+k2:=aio (by omega) (by omega);have e2:IntKind.i64.wrap ((ns.length:Int)+k2+k3)=(ns.length:Int)+k2+k3:=aio (by omega) (by omega)
       have hq:(((ns.length:Int)+k2+k3)==((M.length:Nat):Int))=true:=by rw[beq_iff_eq];omega
       have HSUM:=hd hsum;clear hsum;go_wp2_with fail;generalize w5.alloc (Yk #[Yg Yh 1,Yp a3 k3 p3,Yg Yh 0] 29)=V5 at*;refine(RH e _ ?_ ?_ HE5.o HS5.o HEO.o ns HDM.o).mono ?_
       · have ht:((⟨#[68,69,76,69,84,69,32,70,82,79,77,32,116,32,87,72,69,82,69,32,40]⟩:ByteArray)++S++(⟨#[41]⟩:ByteArray)).data.toList=Px.wB++40::(S.data.toList++[41]):=by simp[Px.wB]
         rw[ht];exact Px.Reads.of HDL.o
       · simp only[ahS];show 21+S.size+1<=aaV;omega
       rintro x w6 ⟨rfl,hT,F',R',hS,hsub⟩
       have SC:∀g∈b::p::F,w1.heap.size<=g/\g<W1.heap.size:=fun g hg=>by
        have hg2:g∈b::ge::p::(F++R):=by simp only[aeQ,YW]at hg⊢;grind
        exact⟨Xj.o g hg2,HLT.o g hg2⟩
       have HB6:Yf (aaS w1.heap.size w1 w6):=⟨hT.os.trans HB5.o.os,hT.tape.trans HB5.o.tape,hT.output.trans HB5.o.output,Nat.le_trans HB5.o.size hT.size,fun k hk=>(hT.block k (nlA hk HB5.o.size) (fun hx=>by have:=SC k hx;omega)).trans (HB5.o.block k hk)⟩;have TU:Yf (aaS w1.heap.size w1 (w6.alloc (Yk #[Yg Yh 0,Yp Y1 0 0,Yg Yh (ns.length:Nat)] 29))):=HB6.o.alloc HB6.o.size _
       have HN6:Yf (aaS w6.heap.size w6 (w6.alloc (Yk #[Yg Yh 0,Yp Y1 0 0,Yg Yh (ns.length:Nat)] 29))):=by show aaS _ _ _;go_grown
       have HS6:=hd (hS.below HN6.o);have HE6:=hd (HEP.o.below TU.o)
       have HR6:Yf (∀m∈without ns M,aik m.2):=fun m hm=>HR3.o m (List.mem_filter.1 hm).1
       have Wl:=hd ((hT.blk P6.o (fun hx=>by have:=SC _ hx;omega)).alloc (Yk #[Yg Yh 0,Yp Y1 0 0,Yg Yh (ns.length:Nat)] 29));have XR:=hd (ae.new w6 #[Yg Yh 0,Yp Y1 0 0,Yg Yh (ns.length:Nat)] 29);have hb6:=hS.blk.lt;have hs65:=hT.size;have hVl:=MQ.o.lt;clear hT hS HS5 HE5 P6 QW MQ hsub g1 g2 g3 q1 q2 q3 l1 l2 l3;go_wp2_with fail;generalize w6.alloc (Yk #[Yg Yh 0,Yp Y1 0 0,Yg Yh (ns.length:Nat)] 29)=V6 at*;refine(O7 _ rfl (by show 15<=aaV;omega) HE6.o HS6.o HR6.o).mono ?_;rintro x w7 ⟨hT,hS,a7,p7,rfl⟩;have HB7:Yf (aaS w1.heap.size w1 (w7.alloc (Yk #[Yg Yh 3,Yp a7 (3*(without ns M).length) p7,Yg Yh 0] 29))):=(lG TU.o hT hbw).alloc (lG TU.o hT hbw).size _;have Tj:=(hT.blk Wl.o (by simp;omega)).alloc (Yk #[Yg Yh 3,Yp a7 (3*(without ns M).length) p7,Yg Yh 0] 29);have Ta:=(hT.blk XR.o (by simp;omega)).alloc (Yk #[Yg Yh 3,Yp a7 (3*(without ns M).length) p7,Yg Yh 0] 29);have Qq:=(ae.new w7 #[Yg Yh 3,Yp a7 (3*(without ns M).length) p7,Yg Yh 0] 29);have g1:=Tj.cell 1;have g4:=Ta.cell 2;have g7:=Qq.cell 0;have q7:=Qq.cell 1;have l1:=Tj.lt;have l4:=Ta.lt;have l7:=Qq.lt;simp at g1 g4 g7 q7;have hwl:=HWL.o;generalize (without ns M).length=N at*;have r1:IntKind.i64.wrap ((M.length:Int)-ns.length)=(M.length:Int)-ns.length:=aio (by omega) (by omega);have r2:IntKind.i64.wrap (3*((M.length:Int)-ns.length))=3*((M.length:Int)-ns.length):=aio (by omega) (by omega)
       have hq2:(((3*N:Nat):Int)==3*((M.length:Int)-ns.length))=true:=by rw[beq_iff_eq];omega
       have HQ2:=hd hwl;clear hwl hT hS Tj Ta Qq HS6 HE6
       have hq3:((3*(N:Int))==3*((M.length:Int)-ns.length))=true:=by rw[beq_iff_eq];have:=HQ2.o;omega
       go_wp2_with fail;go_ret;exact⟨by first|rfl|rw[hq3]|(rw[hq3];rfl),HB7.o⟩
     have hne3:((e3:Int)==0)=false:=by simp;omega
     go_wp2_with fail;go_ret;exact⟨rfl,HB5.o⟩
   have hne2:((e2:Int)==0)=false:=by simp;omega
   go_wp2_with fail;go_ret;exact⟨rfl,HB5.o⟩
 have hne1:((e1:Int)==0)=false:=by simp;omega
 go_wp2_with fail;go_ret;exact⟨rfl,HB5.o⟩
end Kp
end
theorem NI:(Rows.splitUptoRow.inPlace==Tryz.pinned.checked.prog.inPlace 3)=true:=by kernel_rfl
theorem M5:(Rows.splitUptoRow.unfollowed==Tryz.pinned.checked.prog.unfollowed 3)=true:=by kernel_rfl
theorem OH:(Rows.splitUptoRow.recurses==Tryz.pinned.checked.prog.recurses 3)=true:=by kernel_rfl
theorem NG:(Rows.splitUptoRow.named==Tryz.pinned.checked.prog.varsNamed 3)=true:=by kernel_rfl
section
open Go.ChangeShapes Go.WideShapes Go.ChangeAt Go.RowKit Go.Lib
theorem Ou:laidOutB Zc=true:=by kernel_rfl
theorem NM:ownKnob Tryz.prog.godebug=Y1:=by kernel_rfl
theorem Ia{p:Addr}{v:Y3}(h:w.cell? p=Y2 v):p.block<w.heap.size:=by
 unfold World.cell? at h
 split at h
 · rename_i hb;exact(geA.1 hb).1
 all_goals simp at h
theorem TG{z:Int}(hw:(Lit.int .i64 z).wf=true): -9223372036854775808<=z/\z<=9223372036854775807:=by
 simp only[Lit.wf,YD,decide_eq_true_eq]at hw
 have m1:IntKind.i64.min= -9223372036854775808:=by decide
 have m2:IntKind.i64.max=9223372036854775807:=by decide
 rw[m1,m2]at hw;exact hw
theorem Kj{H:Type}{enc:Y5×Y3->H}{fuel:Nat}{ao:Option Addr}{len cap:Nat}{y:DataW H×List MemPlace}(h:DataW.trod enc Zc W 0 (fun _=>true) true fuel 22 [.slice ao len cap]=Y2 y):len<=aaV/\Kp.GX W ao len:=by
 rcases open_ints aip Tryz.underlying3 (by kernel_rfl) h with⟨hx,_⟩|⟨a,len',cap',zs,hx,_,hl,hm,hz,_,hcell,hwf⟩
 · simp at hx;obtain⟨rfl,rfl,rfl⟩:=hx;exact⟨by simp[aaV],fun k hk=>by omega⟩
 simp at hx;obtain⟨rfl,rfl,rfl⟩:=hx;simp only[if_true]at hz;refine⟨by omega,fun k hk=> ?_⟩;obtain⟨b,off,spot⟩:=a
 have hspot:spot=Y1:=by simpa[Addr.add]using World.cell?_spot (hcell 0 (by omega))
 subst hspot;have hc:=hcell k (by omega);rw[Go.WideShapes.add_plain]at hc
 have hw:=hwf (zs.getD k 0) (by
  have:k<zs.length:=by omega
  simp only[List.getD,YP this,Option.getD_some]
  exact List.getElem_mem this)
 exact⟨b,off,_,rfl,Ia hc,hc,TG hw⟩
theorem Mi{H:Type}{d:DataW H}{l:List UInt8}(h:Rows.uptoSmall H ([d,.lit (.string l)]++[])=true):l.length<=1048576:=by
 unfold Rows.uptoSmall at h;have h:=of_decide_eq_true h;simp only[YI,YK,Rows.uptoBulkAll,Rows.uptoBulk]at h;omega
theorem CE{H:Type}{enc:Y5×Y3->H}{C:Checked}{os:Os}{f:FuncId}{fn:Func}{s:OpenSpec}{conds:List PathCond}{apart:Bool}{laid:List (String×DataW Unit)}(w0:Y4)(args:Array Y3)(hos:w0.os=os)
   (hsh:(w0.forCall (fun _ _=>0) ⟨#[],args,[]⟩).Shaped C.prog)
   (hok:Input.okWideB C.prog (w0.forCall (fun _ _=>0) ⟨#[],args,[]⟩) f ⟨#[],args,[]⟩=true)
   (hrow:s.preRow enc C.prog fn conds apart laid (w0.forCall (fun _ _=>0) ⟨#[],args,[]⟩).memory args):
   ∃(w:Y4) (tape:Tape) (i:Input),w.os=os/\(w.forCall tape i).Shaped C.prog/\i.vars=[]/\Input.okWide C.prog (w.forCall tape i) .any w.heap.size f i/\
     s.preRow enc C.prog fn conds apart laid (w.forCall tape i).memory i.args/\({}:Assume).holds C.prog (lone (Frame.enter C.prog f i.args .normal) [] (w.forCall tape i)):=
 ⟨w0,fun _ _=>0,⟨#[],args,[]⟩,hos,hsh,(Input.okWide_of_okWideB (base:=0) hok).1,(Input.okWide_of_okWideB hok).2,hrow,by
  simp only[Assume.holds]
  exact⟨by simp,by simp,by simp,by simp,by simp⟩⟩
theorem yw:(Rows.splitUptoRow.laid.all fun x=>x.2.handleName?.isNone)=true:=by kernel_rfl
theorem Il(os:Os):((World.laidAll Zc os Rows.splitUptoRow.laid).forCall (fun _ _=>0) ⟨#[],#[.slice Y1 0 0,.string ⟨#[]⟩],[]⟩).Shaped Zc:=
 World.shaped_of_ZipB (by kernel_rfl) (by kernel_rfl)
theorem PE(os:Os):laidMetH Zc Rows.splitUptoRow.laid ((World.laidAll Zc os Rows.splitUptoRow.laid).forCall (fun _ _=>0) ⟨#[],#[.slice Y1 0 0,.string ⟨#[]⟩],[]⟩).memory:=by
 rw[MakeChecks.laidMetH_plain _ _ _ yw];exact laidMet_laidAll _ (by kernel_rfl) (by kernel_rfl)
theorem IV(os:Os){H:Type}(enc:Y5×Y3->H):∃places,DataW.whole enc Zc ((World.laidAll Zc os Rows.splitUptoRow.laid).forCall (fun _ _=>0) ⟨#[],#[.slice Y1 0 0,.string ⟨#[]⟩],[]⟩).memory Tryz.f3.params.toList Rows.splitSpec.vars false #[Value.slice Y1 0 0,Value.string ⟨#[]⟩].toList 8=Y2 ([.nil,.lit (.string [])],[],places):=
 ⟨[],by kernel_rfl⟩
theorem Rt(os:Os):Input.okWideB Zc ((World.laidAll Zc os Rows.splitUptoRow.laid).forCall (fun _ _=>0) ⟨#[],#[.slice Y1 0 0,.string ⟨#[]⟩],[]⟩) 3 ⟨#[],#[.slice Y1 0 0,.string ⟨#[]⟩],[]⟩=true:=by kernel_rfl
theorem NQ(os:Os){H:Type}(enc:Y5×Y3->H):(Rows.OpenSpec.upto Rows.splitSpec).preRow enc Zc aiq Rows.splitUptoRow.domain false Rows.splitUptoRow.laid ((World.laidAll Zc os Rows.splitUptoRow.laid).forCall (fun _ _=>0) ⟨#[],#[.slice Y1 0 0,.string ⟨#[]⟩],[]⟩).memory #[.slice Y1 0 0,.string ⟨#[]⟩]:=by
 obtain⟨places,hx⟩:=IV os enc;exact OpenSpec.preRow_of_cond 8 hx (by kernel_rfl) (fun k hk=>by cases hk;kernel_rfl) (by kernel_rfl) (PE os)
theorem DR(os:Os)(started:os.Started)(H:Type)(enc:Y5×Y3->H)(F:Stop.Interp):
   ReturnsInHanded {} air os 3 .any ((Rows.OpenSpec.upto Rows.splitSpec).preRow enc Zc aiq Rows.splitUptoRow.domain false Rows.splitUptoRow.laid) (((Rows.OpenSpec.upto Rows.splitSpec).at F).post enc Zc aiq false true false false):=by
 refine returnsInHanded_of_row (C:=air) (s:=Rows.OpenSpec.upto Rows.splitSpec) NM started (by kernel_rfl) aim
   (CE (enc:=enc) (C:=air) (World.laidAll Zc os Rows.splitUptoRow.laid) #[.slice Y1 0 0,.string ⟨#[]⟩] (World.laidAll_os _ _ _) (Il os) (Rt os) (NQ os enc)) ?_
 intro W base args ds gs before hval0 hW _ Ol _ hL hsh _;have hcond:Rows.uptoSmall H (ds++gs)=true:=Ol _ rfl;have hval:∀(j:Nat) t v,Tryz.f3.params[j]? =Y2 t->args[j]? =Y2 v->Value.okWide Zc W .any base t v:=hval0;have hW':=hW;obtain⟨p,q,hA0,hV,rfl,_,_⟩:=hW;have hA:DataW.TrodAll enc Zc W 0 (fun _=>true) true Tryz.f3.params.toList args.toList ds p:=hA0;rw[ais]at hA hval;obtain⟨v0,v1,d0,d1,p0,p1,rfl,rfl,rfl,h0,h1⟩:=trodAll_two hA;obtain⟨rfl,rfl⟩:=trodVars_none hV;have h0k:=h0;obtain⟨ao,len,cap,rfl⟩:=okWide_slice aip (hval 0 22 v0 rfl rfl);obtain⟨fuel,hf⟩:=h0;obtain⟨hle,hI⟩:=Kj (show DataW.trod enc Zc W 0 (fun _=>true) true fuel 22 [.slice ao len cap]=Y2 (d0,p0)from hf);obtain⟨s,rfl,rfl,rfl,hs⟩:=Go.ChangeMaps.open_string ait (hval 1 9 v1 rfl rfl) h1;have hws:=Mi hcond;clear hA0 hval0 Ol;simp only[aaK]at hW'
 have hlt:∀x∈p0,x.block<W.heap.size:=fun x hx=>by simpa using hW'.lt x hx
 rw[MakeChecks.laidMetH_plain _ _ _ yw]at hL;have VS:jJ W:=Al (Lib.laidMet.reads hL (.tail _ (.tail _ (.tail _ (.head _))))) (Lib.laidMet.reads hL (.tail _ (.tail _ (.tail _ (.tail _ (.tail _ (.tail _ (.head _)))))))) (Lib.laidMet.reads hL (.tail _ (.tail _ (.tail _ (.tail _ (.tail _ (.tail _ (.tail _ (.head _))))))))) (Lib.laidMet.reads hL (.tail _ (.tail _ (.tail _ (.tail _ (.tail _ (.tail _ (.tail _ (.tail _ (.tail _ (.tail _ (.head _)))))))))))) (Lib.laidMet.reads hL (.tail _ (.tail _ (.tail _ (.tail _ (.tail _ (.tail _ (.tail _ (.tail _ (.head _)))))))))) (Lib.laidMet.reads hL (.tail _ (.tail _ (.tail _ (.tail _ (.head _)))))) hsh;have WY:Av W:=zX VS (Lib.laidMet.reads hL (.tail _ (.tail _ (.head _)))) hsh
 refine(Kp.KO ao len cap s W hle hws VS WY hI).mono fun e W' ⟨he,hb'⟩=> ?_
 subst he;have e1:((Rows.OpenSpec.upto Rows.splitSpec).at F).fn H ([d0,.lit (.string s.data.toList)]++[])={results:=[.lit (.bool true)],args:=[d0,.lit (.string s.data.toList)]}:=rfl;refine⟨_,rfl,_,_,_,[],p0,[],hW',?_,?_,?_,hb'.frame _,fun h=>by cases h⟩
 · rw[e1];exact trodAll_mk1 (shut_bool Tryz.underlying4 _)
 · rw[e1];have h:=trodAll_mk2 (Below.trod Ou (by kernel_rfl) (of_decide_eq_true (by kernel_rfl)) h0k hb' hlt) (Go.ChangeMaps.shut_string (enc:=enc) ait hs);rw[aaK]at h;exact h
 rw[e1];rfl
theorem DC:joinedFacts Tryz.pinned.checked.prog 3 aiq (Rows.OpenSpec.upto Rows.splitSpec).bare Rows.splitUptoRow=true:=by
 unfold joinedFacts;simp only[YD]
 repeat' refine And.intro ?_ ?_
 all_goals first|with_reducible exact NI|with_reducible exact M5|with_reducible exact OH|with_reducible exact NG|kernel_rfl
theorem Ak:Rows.SplitUptoSaid:=
 OpenClaim.holds_of_cond 3 aiq rfl rfl rfl rfl rfl rfl rfl ⟨rfl,rfl,rfl,rfl,rfl⟩ rfl rfl rfl rfl rfl (by kernel_rfl) aim DC
   (of_decide_eq_true (by kernel_rfl)) (by unfold Func.isWrapper;first|(rw[if_pos (by decide+kernel)];kernel_rfl)|(rw[if_neg (by decide+kernel)];exact⟨rfl,rfl⟩))
   (fun os started H enc _ F=>by rw[OpenClaim.pre_eq_preRow];exact DR os started H enc F)
theorem Fb(f:FuncId)(fn:Func)(hf:Tryz.pinned.checked.prog.funcNamed "clause/clausekeep.Split" =Y2 f)(hfn:Tryz.pinned.checked.prog.funcs[f]? =Y2 fn):
   true=Tryz.pinned.checked.prog.looks []/\∀(j:Nat) t,fn.params[j]? =Y2 t->Tryz.pinned.checked.prog.wantsStandIn t=false:=by
 obtain rfl:f=3:=Option.some.inj ((show Tryz.prog.funcNamed "clause/clausekeep.Split" =Y2 3 by kernel_rfl).symm.trans hf)|>.symm;obtain rfl:fn=aiq:=(Option.some.inj (Tryz.func3.symm.trans hfn)).symm;refine⟨by kernel_rfl,fun j t ht=> ?_⟩;rw[ais]at ht;rcases(show t=22\/t=9 by simpa using Array.mem_of_getElem? ht)with rfl|rfl
 · exact(show Tryz.prog.wantsStandIn 22=false by kernel_rfl)
 exact(show Tryz.prog.wantsStandIn 9=false by kernel_rfl)
theorem splitUpto_card:Rows.SplitUptoCardSaid:=
 Claim7.holds_tied_plain_at .later [] _ _ _ _ Ak (fun _ h=>by cases h) (by kernel_rfl) (fun _ h=>by cases h) splitUpto_row_tie rfl ⟨rfl,rfl⟩ (by kernel_rfl) rfl Fb (by kernel_rfl)
#print axioms splitUpto_card
end
end Go.Proofs.YthhhfcdakfbpkaaGreatDoor
