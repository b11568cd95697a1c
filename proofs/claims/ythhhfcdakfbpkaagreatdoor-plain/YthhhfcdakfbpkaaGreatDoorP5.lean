/- Parts of the proof -/
import Derived.Test.YthhhfcdakfbpkaaGreatDoorP4
import Derived.Test.YthhhfcdakfbpkaaGreatDoorP3
import Derived.Deep.CutRange
import Derived.Deep.RegionHeld3
namespace Go.Proofs.YthhhfcdakfbpkaaGreatDoor
set_option linter.unusedSimpArgs false
set_option linter.unusedVariables false
set_option maxRecDepth 100000
set_option maxHeartbeats 16000000
open Go.RowKit
variable {w:World}{base n size:Nat}{v:Value}{e:TypeId}{xs:List Value}
theorem Tryz.info223:(Tryz.prog.info? 223).map (fun i=>(i.zero,i.size,i.bytes))=some (some (.agg #[.string ⟨#[]⟩,.nilIface]),2,32):=by kernel_rfl
theorem vQ(B:Nat)(lv:Value)(ts:List Lx.Tok)(sz:Nat)(dp:Bool)(w:World)(q:List Lx.Tok)(h:Cx w B lv ts sz q dp):
   Calls Tryz.prog 124 #[.pointer (some ⟨B,0,none⟩),.func (.func 125) #[.pointer (some ⟨B,0,none⟩)] #[]] w (ah w B lv ts sz dp (Px.Sep fun _=>Px.zg sz) q (pE B 223 2 F5) fun l=>l.any xI):=by
 obtain⟨i0,hi,hz0,hz1,hz2⟩:=info_parts Tryz.info223;have HX:=hd h;have hlt:=h.lt
 have sH:q.length<=2000:=by
  obtain⟨k,rfl,h⟩:=h;have:=h.len;simp;omega
 clear h;go_enter Tryz.func124,Tryz.ntmps124;go_wp2_with fail;refine(xJ B lv ts sz dp w q HX.out).mono ?_;rintro x w1 ho;obtain⟨hg,⟨p,c,hr,rfl⟩|⟨a,q1,v,hr,rfl,hv,hx⟩⟩:=ho.cases
 · exact⟨rfl,ah.err hg (Px.Sep.err0 hr)⟩
 have HR1:=hd (Px.Reach.first (x:=fun _=>Px.zg sz) hr);have HX1:=hd hx;have HG1:=hd hg;have hs1:=hg.size;clear hr hx hg ho;obtain⟨n,e⟩:=a
 cases hv
 obtain⟨et,ex,hev⟩:=fZ e;have HEV:=hd hev;simp only[hev];clear hev;have HO1:=hd (dC (nK w1 (.string ⟨n.toArray⟩) (.iface et ex) 223) hs1);have kM:=hd (HX1.out.below ((Below.refl _ _).alloc (nlr _) (.cells #[.string ⟨n.toArray⟩,.iface et ex] 223)));have lJ:=hd (qE HG1.out (.cells #[.string ⟨n.toArray⟩,.iface et ex] 223));clear HX1 HG1;go_wp2_with fail;go_loopw [5] (fun v wr=>∃(l:List (Lx.Bs×Px.E)) (q1:List Lx.Tok),Hid (wr.ownsRow w.heap.size 223 2 v l.length (l.flatMap F5))/\Hid (Cx wr B lv ts sz q1 (l.any xI||dp))/\Hid (w.grownBy wr (some B))/\Hid (Px.Reach (fun _=>Px.zg sz) q l q1)) (fun _ wr=>ts.length-rJ wr B)
 case atStart=>exact⟨[(n,e)],q1,(by have:=HO1.out;simp only[List.flatMap_cons,List.flatMap_nil,List.append_nil,List.length_singleton,F5];rw[HEV.out];exact this),(by show Cx _ _ _ _ _ _ _;have:=kM.out;simpa using this),lJ,HR1⟩
 case round=>
  clear HR1 kM lJ HO1;obtain⟨l,q1,HO,HX1,HG1,HRe⟩:=hrel;have hll:q1.length+l.length<=q.length+1:=HRe.out.len (fun _=>Px.qK sz)
  cases hs:Px.sees Px.iK q1 with
  |false=>
   go_wp2_with fail;refine(cB ⟨#[44]⟩ wr B lv ts sz q1 _ HX1.out hs (by simp)).mono ?_;rintro x w2 ⟨rfl,hb⟩;have HO2:=hd (dA HO.out hb);have HB:=hd hb;clear hb;go_wp2_with fail;go_ret;exact ah.ok (a:=l) (av HG1.out (Below.grownBy HB.out)) (Px.Sep.stop HRe.out hs) (dC HO2.out (by omega)) (HX1.out.below HB.out)
  |true=>
   have hcl:=Px.aW hs;go_wp2_with fail;refine(mg ⟨#[44]⟩ wr B lv ts sz q1 _ HX1.out hs (by simp)).mono ?_;rintro x w2 ⟨rfl,hx2,hg2⟩;have HX2:=hd hx2;have HG2:=hd (av HG1.out hg2)
   have HO2:=hd (HO.out.kept hg2 (by
    cases hv:u5.ownBlock with
    |none=>exact .inl rfl
    |some g=>right;have:=(HO.out.lt g hv).1;simp;omega))
   have hl1:=HX1.out.rJ;clear hx2 hg2 HG1 HO;go_wp2_with fail;refine(xJ B lv ts sz _ w2 q1.tail HX2.out).mono ?_;rintro x w3 ho;obtain⟨hg,⟨p,c,hr,rfl⟩|⟨a,q2,v,hr,rfl,hv,hx⟩⟩:=ho.cases
   · exact⟨rfl,ah.err (av HG2.out hg) (Px.Sep.err HRe.out hs hr)⟩
   have HR3:=hd (HRe.out.step hs hr);have hsh:=Px.qK sz _ _ _ hr;have HX3:=hd hx;have HG3:=hd (av HG2.out hg)
   have HO3:=hd (HO2.out.kept hg (by
    cases hv:u5.ownBlock with
    |none=>exact .inl rfl
    |some g=>right;have:=(HO2.out.lt g hv).1;simp;omega))
   have hs3:=HG3.out.size;clear hr hx hg ho HG2 HO2 HX1 HX2;obtain⟨n,e⟩:=a
   cases hv
   obtain⟨et,ex,hev⟩:=fZ e;have HEV:=hd hev;simp only[hev];clear hev;have HX3':=hd (HX3.out.below ((Below.refl _ _).alloc (nlr _) (.cells #[.string ⟨n.toArray⟩,.iface et ex] 223)));have bN:=hd (qE HG3.out (.cells #[.string ⟨n.toArray⟩,.iface et ex] 223));clear HX3 HG3
   go_wp2_with(first
    |(at_builtin;refine wpList_append_own _ rfl _ _ 102 rfl w.heap.size 223 i0 (.agg #[.string ⟨#[]⟩,.nilIface]) 2 32 Tryz.underlying102 hi hz0 hz1 hz2 rfl (by decide) _ _ _ rfl (HO3.out.alloc _) ⟨w3.heap.size,0,none⟩ 1 1 [.string ⟨n.toArray⟩,.iface et ex] rfl rfl ?c1 ?c2 ?c3 ?c4 ?c5 ?_)
    |fail)
   case c1=>exact o8 w3 (.string ⟨n.toArray⟩) (.iface et ex) 223
   case c2=>intro u hu;simp at hu;rcases hu with rfl|rfl<;>rfl
   case c3=>unfold maxLen;omega
   case c4=>omega
   case c5=>simp;omega
   intro v' w4 hown' hgrow _
   have HO4:Hid (w4.ownsRow w.heap.size 223 2 v' (l++[(n,e)]).length ((l++[(n,e)]).flatMap F5)):=by
    rw[List.length_append,List.length_singleton,jA];show World.ownsRow _ _ _ _ _ _ _;simp only[F5];rw[HEV.out];exact hown'
   have HX4:=hd (HX3'.out.kept HX.out hgrow (fun o ho=>(HO3.out.lt o ho).1))
   have HG4:Hid (w.grownBy w4 (some B)):=by
    refine⟨hgrow.os.trans bN.out.os,hgrow.tape.trans bN.out.tape,hgrow.output.trans bN.out.output,Nat.le_trans bN.out.size hgrow.size,fun k hk hne=> ?_⟩
    rw[hgrow.block k (nlA hk bN.out.size) (by
     intro e;have:=(HO3.out.lt k e.symm).1
     omega)]
    exact bN.out.block k hk hne
   have hl4:=HX4.out.rJ;clear hown' hgrow HX3' bN HO3;go_wp2_with fail;go_roundw
   case rel=>exact⟨l++[(n,e)],q2,HO4,(by have:=HX4.out;rw[lI];exact this),HG4,HR3⟩
   case measure=>omega
theorem Tryz.info227:(Tryz.prog.info? 227).map (fun i=>(i.zero,i.size,i.bytes))=some (some (.agg #[.nilIface,.bool false]),2,24):=by kernel_rfl
theorem ko(B:Nat)(lv:Value)(ts:List Lx.Tok)(sz:Nat)(dp:Bool)(w:World)(q:List Lx.Tok)(h:Cx w B lv ts sz q dp):
   Calls Tryz.prog 128 #[.pointer (some ⟨B,0,none⟩),.func (.func 129) #[.pointer (some ⟨B,0,none⟩)] #[]] w (ah w B lv ts sz dp (Px.Sep fun _=>Px.jf sz) q (pE B 227 2 bq) fun l=>l.any wT):=by
 obtain⟨i0,hi,hz0,hz1,hz2⟩:=info_parts Tryz.info227;have HX:=hd h;have hlt:=h.lt
 have sH:q.length<=2000:=by
  obtain⟨k,rfl,h⟩:=h;have:=h.len;simp;omega
 clear h;go_enter Tryz.func128,Tryz.ntmps128;go_wp2_with fail;refine(qN B lv ts sz dp w q HX.out).mono ?_;rintro x w1 ho;obtain⟨hg,⟨p,c,hr,rfl⟩|⟨a,q1,v,hr,rfl,hv,hx⟩⟩:=ho.cases
 · exact⟨rfl,ah.err hg (Px.Sep.err0 hr)⟩
 have HR1:=hd (Px.Reach.first (x:=fun _=>Px.jf sz) hr);have HX1:=hd hx;have HG1:=hd hg;have hs1:=hg.size;clear hr hx hg ho;obtain⟨e,b⟩:=a
 cases hv
 obtain⟨et,ex,hev⟩:=fZ e;have HEV:=hd hev;simp only[hev];clear hev;have HO1:=hd (dC (nK w1 (.iface et ex) (.bool b) 227) hs1);have kM:=hd (HX1.out.below ((Below.refl _ _).alloc (nlr _) (.cells #[.iface et ex,.bool b] 227)));have lJ:=hd (qE HG1.out (.cells #[.iface et ex,.bool b] 227));clear HX1 HG1;go_wp2_with fail;go_loopw [5] (fun v wr=>∃(l:List (Px.E×Bool)) (q1:List Lx.Tok),Hid (wr.ownsRow w.heap.size 227 2 v l.length (l.flatMap bq))/\Hid (Cx wr B lv ts sz q1 (l.any wT||dp))/\Hid (w.grownBy wr (some B))/\Hid (Px.Reach (fun _=>Px.jf sz) q l q1)) (fun _ wr=>ts.length-rJ wr B)
 case atStart=>exact⟨[(e,b)],q1,(by have:=HO1.out;simp only[List.flatMap_cons,List.flatMap_nil,List.append_nil,List.length_singleton,bq];rw[HEV.out];exact this),(by show Cx _ _ _ _ _ _ _;have:=kM.out;simpa using this),lJ,HR1⟩
 case round=>
  clear HR1 kM lJ HO1;obtain⟨l,q1,HO,HX1,HG1,HRe⟩:=hrel;have hll:q1.length+l.length<=q.length+1:=HRe.out.len (fun _=>Px.mE sz)
  cases hs:Px.sees Px.iK q1 with
  |false=>
   go_wp2_with fail;refine(cB ⟨#[44]⟩ wr B lv ts sz q1 _ HX1.out hs (by simp)).mono ?_;rintro x w2 ⟨rfl,hb⟩;have HO2:=hd (dA HO.out hb);have HB:=hd hb;clear hb;go_wp2_with fail;go_ret;exact ah.ok (a:=l) (av HG1.out (Below.grownBy HB.out)) (Px.Sep.stop HRe.out hs) (dC HO2.out (by omega)) (HX1.out.below HB.out)
  |true=>
   have hcl:=Px.aW hs;go_wp2_with fail;refine(mg ⟨#[44]⟩ wr B lv ts sz q1 _ HX1.out hs (by simp)).mono ?_;rintro x w2 ⟨rfl,hx2,hg2⟩;have HX2:=hd hx2;have HG2:=hd (av HG1.out hg2)
   have HO2:=hd (HO.out.kept hg2 (by
    cases hv:u5.ownBlock with
    |none=>exact .inl rfl
    |some g=>right;have:=(HO.out.lt g hv).1;simp;omega))
   have hl1:=HX1.out.rJ;clear hx2 hg2 HG1 HO;go_wp2_with fail;refine(qN B lv ts sz _ w2 q1.tail HX2.out).mono ?_;rintro x w3 ho;obtain⟨hg,⟨p,c,hr,rfl⟩|⟨a,q2,v,hr,rfl,hv,hx⟩⟩:=ho.cases
   · exact⟨rfl,ah.err (av HG2.out hg) (Px.Sep.err HRe.out hs hr)⟩
   have HR3:=hd (HRe.out.step hs hr);have hsh:=Px.mE sz _ _ _ hr;have HX3:=hd hx;have HG3:=hd (av HG2.out hg)
   have HO3:=hd (HO2.out.kept hg (by
    cases hv:u5.ownBlock with
    |none=>exact .inl rfl
    |some g=>right;have:=(HO2.out.lt g hv).1;simp;omega))
   have hs3:=HG3.out.size;clear hr hx hg ho HG2 HO2 HX1 HX2;obtain⟨e,b⟩:=a
   cases hv
   obtain⟨et,ex,hev⟩:=fZ e;have HEV:=hd hev;simp only[hev];clear hev;have HX3':=hd (HX3.out.below ((Below.refl _ _).alloc (nlr _) (.cells #[.iface et ex,.bool b] 227)));have bN:=hd (qE HG3.out (.cells #[.iface et ex,.bool b] 227));clear HX3 HG3
   go_wp2_with(first
    |(at_builtin;refine wpList_append_own _ rfl _ _ 107 rfl w.heap.size 227 i0 (.agg #[.nilIface,.bool false]) 2 24 Tryz.underlying107 hi hz0 hz1 hz2 rfl (by decide) _ _ _ rfl (HO3.out.alloc _) ⟨w3.heap.size,0,none⟩ 1 1 [.iface et ex,.bool b] rfl rfl ?c1 ?c2 ?c3 ?c4 ?c5 ?_)
    |fail)
   case c1=>exact o8 w3 (.iface et ex) (.bool b) 227
   case c2=>intro u hu;simp at hu;rcases hu with rfl|rfl<;>rfl
   case c3=>unfold maxLen;omega
   case c4=>omega
   case c5=>simp;omega
   intro v' w4 hown' hgrow _
   have HO4:Hid (w4.ownsRow w.heap.size 227 2 v' (l++[(e,b)]).length ((l++[(e,b)]).flatMap bq)):=by
    rw[List.length_append,List.length_singleton,jA];show World.ownsRow _ _ _ _ _ _ _;simp only[bq];rw[HEV.out];exact hown'
   have HX4:=hd (HX3'.out.kept HX.out hgrow (fun o ho=>(HO3.out.lt o ho).1))
   have HG4:Hid (w.grownBy w4 (some B)):=by
    refine⟨hgrow.os.trans bN.out.os,hgrow.tape.trans bN.out.tape,hgrow.output.trans bN.out.output,Nat.le_trans bN.out.size hgrow.size,fun k hk hne=> ?_⟩
    rw[hgrow.block k (nlA hk bN.out.size) (by
     intro e;have:=(HO3.out.lt k e.symm).1
     omega)]
    exact bN.out.block k hk hne
   have hl4:=HX4.out.rJ;clear hown' hgrow HX3' bN HO3;go_wp2_with fail;go_roundw
   case rel=>exact⟨l++[(e,b)],q2,HO4,(by have:=HX4.out;rw[lI];exact this),HG4,HR3⟩
   case measure=>omega
theorem Tryz.info225:(Tryz.prog.info? 225).map (fun i=>(i.zero,i.size,i.bytes))=some (some (.agg #[.bool false,.nilIface]),2,24):=by kernel_rfl
theorem wN(x:Option Px.E):∃b ex,LU x=.agg #[.bool b,ex]/\itemC x=[.bool b,ex]/\ex.oneCell'=true:=by
 cases x with
 |none=>exact⟨true,.nilIface,rfl,rfl,rfl⟩
 |some e=>exact⟨false,ev e,rfl,rfl,by obtain⟨t,y,h⟩:=fZ e;rw[h];rfl⟩
theorem uI(B:Nat)(lv:Value)(ts:List Lx.Tok)(sz:Nat)(dp:Bool)(w:World)(q:List Lx.Tok)(h:Cx w B lv ts sz q dp):
   Calls Tryz.prog 126 #[.pointer (some ⟨B,0,none⟩),.func (.func 127) #[.pointer (some ⟨B,0,none⟩)] #[]] w (ah w B lv ts sz dp (Px.Sep fun _=>Px.fO sz) q (pE B 225 2 itemC) fun l=>l.any fF):=by
 obtain⟨i0,hi,hz0,hz1,hz2⟩:=info_parts Tryz.info225;have HX:=hd h;have hlt:=h.lt
 have sH:q.length<=2000:=by
  obtain⟨k,rfl,h⟩:=h;have:=h.len;simp;omega
 clear h;go_enter Tryz.func126,Tryz.ntmps126;go_wp2_with fail;refine(tV B lv ts sz dp w q HX.out).mono ?_;rintro x w1 ho;obtain⟨hg,⟨p,c,hr,rfl⟩|⟨a,q1,v,hr,rfl,hv,hx⟩⟩:=ho.cases
 · exact⟨rfl,ah.err hg (Px.Sep.err0 hr)⟩
 have HR1:=hd (Px.Reach.first (x:=fun _=>Px.fO sz) hr);have HX1:=hd hx;have HG1:=hd hg;have hs1:=hg.size;clear hr hx hg ho;obtain⟨b,ex,hit,hic,hoc⟩:=wN a;have HIC:=hd hic;have HOC:=hd hoc;have hv2:v=.agg #[.bool b,ex]:=hv.trans hit;subst hv2;clear hv hit hic hoc;have HO1:=hd (dC (nK w1 (.bool b) ex 225) hs1);have kM:=hd (HX1.out.below ((Below.refl _ _).alloc (nlr _) (.cells #[.bool b,ex] 225)));have lJ:=hd (qE HG1.out (.cells #[.bool b,ex] 225));clear HX1 HG1;go_wp2_with fail;go_loopw [5] (fun v wr=>∃(l:List (Option Px.E)) (q1:List Lx.Tok),Hid (wr.ownsRow w.heap.size 225 2 v l.length (l.flatMap itemC))/\Hid (Cx wr B lv ts sz q1 (l.any fF||dp))/\Hid (w.grownBy wr (some B))/\Hid (Px.Reach (fun _=>Px.fO sz) q l q1)) (fun _ wr=>ts.length-rJ wr B)
 case atStart=>exact⟨[a],q1,(by have:=HO1.out;simp only[List.flatMap_cons,List.flatMap_nil,List.append_nil,List.length_singleton];rw[HIC.out];exact this),(by show Cx _ _ _ _ _ _ _;have:=kM.out;simpa using this),lJ,HR1⟩
 case round=>
  clear HR1 kM lJ HO1;obtain⟨l,q1,HO,HX1,HG1,HRe⟩:=hrel;have hll:q1.length+l.length<=q.length+1:=HRe.out.len (fun _=>Px.oO sz)
  cases hs:Px.sees Px.iK q1 with
  |false=>
   go_wp2_with fail;refine(cB ⟨#[44]⟩ wr B lv ts sz q1 _ HX1.out hs (by simp)).mono ?_;rintro x w2 ⟨rfl,hb⟩;have HO2:=hd (dA HO.out hb);have HB:=hd hb;clear hb;go_wp2_with fail;go_ret;exact ah.ok (a:=l) (av HG1.out (Below.grownBy HB.out)) (Px.Sep.stop HRe.out hs) (dC HO2.out (by omega)) (HX1.out.below HB.out)
  |true=>
   have hcl:=Px.aW hs;go_wp2_with fail;refine(mg ⟨#[44]⟩ wr B lv ts sz q1 _ HX1.out hs (by simp)).mono ?_;rintro x w2 ⟨rfl,hx2,hg2⟩;have HX2:=hd hx2;have HG2:=hd (av HG1.out hg2)
   have HO2:=hd (HO.out.kept hg2 (by
    cases hv:u5.ownBlock with
    |none=>exact .inl rfl
    |some g=>right;have:=(HO.out.lt g hv).1;simp;omega))
   have hl1:=HX1.out.rJ;clear hx2 hg2 HG1 HO;go_wp2_with fail;refine(tV B lv ts sz _ w2 q1.tail HX2.out).mono ?_;rintro x w3 ho;obtain⟨hg,⟨p,c,hr,rfl⟩|⟨a,q2,v,hr,rfl,hv,hx⟩⟩:=ho.cases
   · exact⟨rfl,ah.err (av HG2.out hg) (Px.Sep.err HRe.out hs hr)⟩
   have HR3:=hd (HRe.out.step hs hr);have hsh:=Px.oO sz _ _ _ hr;have HX3:=hd hx;have HG3:=hd (av HG2.out hg)
   have HO3:=hd (HO2.out.kept hg (by
    cases hv:u5.ownBlock with
    |none=>exact .inl rfl
    |some g=>right;have:=(HO2.out.lt g hv).1;simp;omega))
   have hs3:=HG3.out.size;clear hr hx hg ho HG2 HO2 HX1 HX2;obtain⟨b,ex,hit,hic,hoc⟩:=wN a;have HIC:=hd hic;have HOC:=hd hoc;have hv2:v=.agg #[.bool b,ex]:=hv.trans hit;subst hv2;clear hv hit hic hoc;have HX3':=hd (HX3.out.below ((Below.refl _ _).alloc (nlr _) (.cells #[.bool b,ex] 225)));have bN:=hd (qE HG3.out (.cells #[.bool b,ex] 225));clear HX3 HG3
   go_wp2_with(first
    |(at_builtin;refine wpList_append_own _ rfl _ _ 106 rfl w.heap.size 225 i0 (.agg #[.bool false,.nilIface]) 2 24 Tryz.underlying106 hi hz0 hz1 hz2 rfl (by decide) _ _ _ rfl (HO3.out.alloc _) ⟨w3.heap.size,0,none⟩ 1 1 [.bool b,ex] rfl rfl ?c1 ?c2 ?c3 ?c4 ?c5 ?_)
    |fail)
   case c1=>exact o8 w3 (.bool b) ex 225
   case c2=>
    intro u hu;rcases List.mem_cons.1 hu with rfl|hu
    · rfl
    rw[List.mem_singleton]at hu;subst hu;exact HOC.out
   case c3=>unfold maxLen;omega
   case c4=>omega
   case c5=>simp;omega
   intro v' w4 hown' hgrow _
   have HO4:Hid (w4.ownsRow w.heap.size 225 2 v' (l++[a]).length ((l++[a]).flatMap itemC)):=by
    rw[List.length_append,List.length_singleton,jA];show World.ownsRow _ _ _ _ _ _ _;rw[HIC.out];exact hown'
   have HX4:=hd (HX3'.out.kept HX.out hgrow (fun o ho=>(HO3.out.lt o ho).1))
   have HG4:Hid (w.grownBy w4 (some B)):=by
    refine⟨hgrow.os.trans bN.out.os,hgrow.tape.trans bN.out.tape,hgrow.output.trans bN.out.output,Nat.le_trans bN.out.size hgrow.size,fun k hk hne=> ?_⟩
    rw[hgrow.block k (nlA hk bN.out.size) (by
     intro e;have:=(HO3.out.lt k e.symm).1
     omega)]
    exact bN.out.block k hk hne
   have hl4:=HX4.out.rJ;clear hown' hgrow HX3' bN HO3;go_wp2_with fail;go_roundw
   case rel=>exact⟨l++[a],q2,HO4,(by have:=HX4.out;rw[lI];exact this),HG4,HR3⟩
   case measure=>omega
def BL(l:List Px.E):Bool:=l.any dV
theorem wZ(B:Nat)(lv:Value)(ts:List Lx.Tok)(sz:Nat)(dp:Bool)(w:World)(q:List Lx.Tok)(h:Cx w B lv ts sz q dp):
   Calls Tryz.prog 122 #[.pointer (some ⟨B,0,none⟩)] w (ah w B lv ts sz dp (Px.yL sz) q (pE B 98 1 gI) BL):=by
 have hmf:∀(fn:Fn) (first cap:Array Value) (w:World),(Instr.makeFunc fn first cap).run Tryz.prog w=.ok (.func fn first cap) w:=fun _ _ _ _=>rfl
 have HX:=hd h;clear h;go_enter Tryz.func122,Tryz.ntmps122;go_wp2_with fail;refine(bz ⟨#[40]⟩ w B lv ts sz q dp HX.out (by simp)).mono ?_;rintro x w1 ho;obtain⟨hg,⟨p,c,hr,rfl⟩|⟨_,q1,v,hr,rfl,hv,hx⟩⟩:=ho.cases
 · exact⟨rfl,ah.err hg (Px.Rg.err hr)⟩
 cases hv
 have HR1:=hd hr;have HX1:Hid (Cx w1 B lv ts sz q1 dp):=hx;have HG1:=hd hg;clear hr hx hg ho;go_wp2_with fail;refine(uN B lv ts sz dp w1 q1 HX1.out).mono ?_;rintro x w2 ho;obtain⟨hg,⟨p,c,hr,rfl⟩|⟨l,q2,v,hr,rfl,hv,hx⟩⟩:=ho.cases
 · exact⟨rfl,ah.err (av HG1.out hg) (Px.Rg.go HR1.out (Px.Rg.err hr))⟩
 have HR2:=hd hr;have HX2:=hd hx;have HG2:=hd (av HG1.out hg);have HV2:=hd hv
 obtain⟨ao,n,cp,rfl⟩:∃ao n cp,v=.slice ao n cp:=by
  rcases hv.2 with⟨rfl,_⟩|⟨g,cap,cur,rfl,_⟩
  · exact⟨_,_,_,rfl⟩
  exact⟨_,_,_,rfl⟩
 clear hr hx hg ho HG1 hv;go_wp2_with fail;refine(bz ⟨#[41]⟩ w2 B lv ts sz q2 _ HX2.out (by simp)).mono ?_;rintro x w3 ho;obtain⟨hg,⟨p,c,hr,rfl⟩|⟨_,q3,v,hr,rfl,hv,hx⟩⟩:=ho.cases
 · exact⟨rfl,ah.err (av HG2.out hg) (Px.Rg.go HR1.out (Px.Rg.go HR2.out (Px.Rg.err hr)))⟩
 cases hv
 have HR3:=hd hr;have HX3:=hd hx
 have HV3:=hd (HV2.out.kept hg (by
  cases hv:Value.ownBlock (.slice ao n cp)with
  |none=>exact .inl rfl
  |some g=>right;have:=(HV2.out.lt g hv).1;simp;omega))
 have HG3:=hd (av HG2.out hg);clear hr hx hg ho HG2 HV2;go_wp2_with fail;go_ret;exact ah.ok (a:=l) HG3.out (Px.Rg.go HR1.out (Px.Rg.go HR2.out (Px.Rg.go HR3.out rfl))) HV3.out HX3.out
def fH(w:World)(base:Nat):List (List Px.E)->List Value->Prop
 |[],[]=>True
 |r::l,v::vs=>w.ownsRow base 98 1 v r.length (r.flatMap gI)/\fH w base l vs
 |_,_=>False
theorem fH.map{w':World}(f:∀(r:List Px.E) (v:Value),w.ownsRow base 98 1 v r.length (r.flatMap gI)->w'.ownsRow base 98 1 v r.length (r.flatMap gI)):∀{l:List (List Px.E)} {vs:List Value},fH w base l vs->fH w' base l vs
 |[],[],_=>trivial
 |r::l,v::vs,h=>⟨f r v h.1,fH.map f h.2⟩
 |[],_::_,h=>h.elim
 |_::_,[],h=>h.elim
theorem fH.snoc{r:List Px.E}(hr:w.ownsRow base 98 1 v r.length (r.flatMap gI)):∀{l:List (List Px.E)} {vs:List Value},fH w base l vs->fH w base (l++[r]) (vs++[v])
 |[],[],_=>⟨hr,trivial⟩
 |_::_,_::_,h=>⟨h.1,fH.snoc hr h.2⟩
 |[],_::_,h=>h.elim
 |_::_,[],h=>h.elim
def Be(B:Nat)(l:List (List Px.E))(v:Value)(w:World):Prop:=∃vs,w.ownsRow (B+1) 132 1 v l.length vs/\fH w (B+1) l vs
theorem Ev(h:w.ownsRow base e size v n xs):∃ao n cp,v=.slice ao n cp:=by
 rcases h.2 with⟨rfl,_⟩|⟨g,cap,cur,rfl,_⟩
 · exact⟨_,_,_,rfl⟩
 exact⟨_,_,_,rfl⟩
theorem Np(h:w.ownsRow base e size v n xs)(o:Obj):(w.alloc o).ownsRow base e size v n xs:=h.alloc o
theorem aA{w':World}{B:Nat}(h:w.ownsRow (B+1) e size v n xs)(hg:w.grownBy w' (some B)):w'.ownsRow (B+1) e size v n xs:=
 h.kept hg (by
  cases hv:v.ownBlock with
  |none=>exact .inl rfl
  |some g=>right;have:=(h.lt g hv).1;simp;omega)
theorem oP(h:w.ownsRow base e size v n xs):∀g,v.ownBlock=some g->∃cur,w.heap[g]? =some (.cells cur e (0,0)):=by
 intro g hg;rcases h.2 with⟨rfl,_⟩|⟨g',cap,cur,rfl,_,hh,_⟩
 · simp[Value.ownBlock]at hg
 simp[Value.ownBlock]at hg;subst hg;exact⟨cur,hh⟩
theorem lV{b1 b2:Nat}{e1 e2:TypeId}{s1 s2:Nat}{v1 v2:Value}{n1 n2:Nat}{x1 x2:List Value}(h1:w.ownsRow b1 e1 s1 v1 n1 x1)(h2:w.ownsRow b2 e2 s2 v2 n2 x2)(hne:e1≠e2):v1.ownBlock=none\/v1.ownBlock≠v2.ownBlock:=by
 cases hv:v1.ownBlock with
 |none=>exact .inl rfl
 |some g=>
  right
  intro e;obtain⟨c1,k1⟩:=oP h1 g hv;obtain⟨c2,k2⟩:=oP h2 g e.symm;rw[k1]at k2;simp only[Option.some.injEq,Obj.cells.injEq]at k2;exact hne k2.2.1
theorem Tryz.info132:(Tryz.prog.info? 132).map (fun i=>(i.zero,i.size,i.bytes))=some (some (.slice none 0 0),1,24):=by kernel_rfl
theorem vY(B:Nat)(lv:Value)(ts:List Lx.Tok)(sz:Nat)(dp:Bool)(w:World)(q:List Lx.Tok)(h:Cx w B lv ts sz q dp):
   Calls Tryz.prog 121 #[.pointer (some ⟨B,0,none⟩),.func (.func 122) #[.pointer (some ⟨B,0,none⟩)] #[]] w (ah w B lv ts sz dp (Px.Sep fun _=>Px.yL sz) q (Be B) fun l=>l.any BL):=by
 obtain⟨i0,hi,hz0,hz1,hz2⟩:=info_parts Tryz.info132;have HX:=hd h;have hlt:=h.lt
 have sH:q.length<=2000:=by
  obtain⟨k,rfl,h⟩:=h;have:=h.len;simp;omega
 clear h;go_enter Tryz.func121,Tryz.ntmps121;go_wp2_with fail;refine(wZ B lv ts sz dp w q HX.out).mono ?_;rintro x w1 ho;obtain⟨hg,⟨p,c,hr,rfl⟩|⟨a,q1,v,hr,rfl,hv,hx⟩⟩:=ho.cases
 · exact⟨rfl,ah.err hg (Px.Sep.err0 hr)⟩
 have HR1:=hd (Px.Reach.first (x:=fun _=>Px.yL sz) hr);have HX1:=hd hx;have HG1:=hd hg;have hs1:=hg.size;clear hr hx hg ho;have HV1:=hd hv;obtain⟨ao,n,cp,rfl⟩:=Ev hv;clear hv;have HO1:=hd (dC (Am w1 (.slice ao n cp) 132) hs1);have kM:=hd (HX1.out.below ((Below.refl _ _).alloc (nlr _) (.cells #[.slice ao n cp] 132)));have lJ:=hd (qE HG1.out (.cells #[.slice ao n cp] 132));clear HX1 HG1;go_wp2_with fail;go_loopw [5] (fun v wr=>∃(l:List (List Px.E)) (vs:List Value) (q1:List Lx.Tok),Hid (wr.ownsRow w.heap.size 132 1 v l.length vs)/\Hid (fH wr (B+1) l vs)/\Hid (Cx wr B lv ts sz q1 (l.any BL||dp))/\Hid (w.grownBy wr (some B))/\Hid (Px.Reach (fun _=>Px.yL sz) q l q1)) (fun _ wr=>ts.length-rJ wr B)
 case atStart=>exact⟨[a],[.slice ao n cp],q1,HO1,⟨(Np HV1.out _),trivial⟩,(by show Cx _ _ _ _ _ _ _;have:=kM.out;simpa using this),lJ,HR1⟩
 case round=>
  clear HR1 kM lJ HO1 HV1;obtain⟨l,vs,q1,HO,HRo,HX1,HG1,HRe⟩:=hrel;have hll:q1.length+l.length<=q.length+1:=HRe.out.len (fun _=>Px.qP sz)
  cases hs:Px.sees Px.iK q1 with
  |false=>
   go_wp2_with fail;refine(cB ⟨#[44]⟩ wr B lv ts sz q1 _ HX1.out hs (by simp)).mono ?_;rintro x w2 ⟨rfl,hb⟩;have HO2:=hd (dA HO.out hb);have HRo2:=hd (HRo.out.map fun r v hr=>dA hr hb);have HB:=hd hb;clear hb;go_wp2_with fail;go_ret;exact ah.ok (a:=l) (av HG1.out (Below.grownBy HB.out)) (Px.Sep.stop HRe.out hs) ⟨vs,dC HO2.out (by omega),HRo2.out⟩ (HX1.out.below HB.out)
  |true=>
   have hcl:=Px.aW hs;go_wp2_with fail;refine(mg ⟨#[44]⟩ wr B lv ts sz q1 _ HX1.out hs (by simp)).mono ?_;rintro x w2 ⟨rfl,hx2,hg2⟩;have HX2:=hd hx2;have HG2:=hd (av HG1.out hg2)
   have HO2:=hd (HO.out.kept hg2 (by
    cases hv:u5.ownBlock with
    |none=>exact .inl rfl
    |some g=>right;have:=(HO.out.lt g hv).1;simp;omega))
   have HRo2:=hd (HRo.out.map fun r v hr=>aA hr hg2);have hl1:=HX1.out.rJ;clear hx2 hg2 HG1 HO HRo;go_wp2_with fail;refine(wZ B lv ts sz _ w2 q1.tail HX2.out).mono ?_;rintro x w3 ho;obtain⟨hg,⟨p,c,hr,rfl⟩|⟨a,q2,v,hr,rfl,hv,hx⟩⟩:=ho.cases
   · exact⟨rfl,ah.err (av HG2.out hg) (Px.Sep.err HRe.out hs hr)⟩
   have HR3:=hd (HRe.out.step hs hr);have hsh:=Px.qP sz _ _ _ hr;have HX3:=hd hx;have HG3:=hd (av HG2.out hg)
   have HO3:=hd (HO2.out.kept hg (by
    cases hv:u5.ownBlock with
    |none=>exact .inl rfl
    |some g=>right;have:=(HO2.out.lt g hv).1;simp;omega))
   have HRo3:=hd (HRo2.out.map fun r v hr=>aA hr hg);have hs3:=HG3.out.size;clear hr hx hg ho HG2 HO2 HX1 HX2 HRo2;have HV3:=hd hv;obtain⟨ao,n,cp,rfl⟩:=Ev hv;clear hv;have HX3':=hd (HX3.out.below ((Below.refl _ _).alloc (nlr _) (.cells #[.slice ao n cp] 132)));have bN:=hd (qE HG3.out (.cells #[.slice ao n cp] 132));clear HX3 HG3
   go_wp2_with(first
    |(at_builtin;refine wpList_append_own _ rfl _ _ 91 rfl w.heap.size 132 i0 (.slice none 0 0) 1 24 Tryz.underlying91 hi hz0 hz1 hz2 rfl (by decide) _ _ _ rfl (HO3.out.alloc _) ⟨w3.heap.size,0,none⟩ 1 1 [.slice ao n cp] rfl rfl ?c1 ?c2 ?c3 ?c4 ?c5 ?_)
    |fail)
   case c1=>exact BB w3 (.slice ao n cp) 132
   case c2=>intro u hu;rw[List.mem_singleton]at hu;subst hu;rfl
   case c3=>unfold maxLen;omega
   case c4=>omega
   case c5=>simp;omega
   intro v' w4 hown' hgrow _
   have HO4:Hid (w4.ownsRow w.heap.size 132 1 v' (l++[a]).length (vs++[.slice ao n cp])):=by
    rw[List.length_append,List.length_singleton];exact hown'
   have PN:Hid (fH w4 (B+1) (l++[a]) (vs++[.slice ao n cp])):=by
    refine fH.snoc ?_ (HRo3.out.map fun r v hr=> ?_)
    · exact(Np HV3.out _).kept hgrow (lV (Np HV3.out (.cells #[.slice ao n cp] 132)) (HO3.out.alloc (.cells #[.slice ao n cp] 132)) (by decide))
    exact(Np hr _).kept hgrow (lV (Np hr (.cells #[.slice ao n cp] 132)) (HO3.out.alloc (.cells #[.slice ao n cp] 132)) (by decide))
   have HX4:=hd (HX3'.out.kept HX.out hgrow (fun o ho=>(HO3.out.lt o ho).1))
   have HG4:Hid (w.grownBy w4 (some B)):=by
    refine⟨hgrow.os.trans bN.out.os,hgrow.tape.trans bN.out.tape,hgrow.output.trans bN.out.output,Nat.le_trans bN.out.size hgrow.size,fun k hk hne=> ?_⟩
    rw[hgrow.block k (nlA hk bN.out.size) (by
     intro e;have:=(HO3.out.lt k e.symm).1
     omega)]
    exact bN.out.block k hk hne
   have hl4:=HX4.out.rJ;clear hown' hgrow HX3' bN HO3 HRo3 HV3;go_wp2_with fail;go_roundw
   case rel=>exact⟨l++[a],vs++[.slice ao n cp],q2,HO4,PN,(by have:=HX4.out;rw[lI];exact this),HG4,HR3⟩
   case measure=>omega
namespace Ts
theorem bK(s:ByteArray)(w:World):Calls Tryz.prog 240 #[.string s] w fun x w'=>x=.returned (.bool false)/\w'=w:=by
 go_enter Tryz.func240,Tryz.ntmps240;go_wp2_with fail;go_ret;exact⟨rfl,rfl⟩
theorem jF:∀l:List UInt8,Op.bytesLess l l=false
 |[]=>rfl
 |b::l=>by
  have:=jF l;simp[Op.bytesLess,this]
theorem jX(s:ByteArray)(w:World):Calls Tryz.prog 187 #[.string s,.string s] w fun x w'=>x=.returned (.int .i64 0)/\w'=w:=by
 have hl:=jF s.toList;go_enter Tryz.func187,Tryz.ntmps187;go_wp2_with fail;refine(bK _ _).mono ?_;rintro x w1 ⟨rfl,rfl⟩;go_wp2_with fail;refine(bK _ _).mono ?_;rintro x w1 ⟨rfl,rfl⟩;go_wp2_with fail;go_ret;exact⟨rfl,rfl⟩
theorem tK(s:ByteArray)(v:Value)(po:Option Addr)(w:World)(hv:v=.pointer po):Calls Tryz.prog 186 #[.agg #[.string s,v],.string s] w fun x w'=>x=.returned (.int .i64 0)/\Below w.heap.size w w':=by
 subst hv
 have HB:Hid (Below w.heap.size w (w.alloc (.cells #[.string s,.pointer po] 257))):=by show Below _ _ _;go_grown
 go_enter Tryz.func186,Tryz.ntmps186;go_wp2_with fail;refine(jX _ _).mono ?_;rintro x w1 ⟨rfl,rfl⟩;go_wp2_with fail;go_ret;exact⟨rfl,HB.out⟩
theorem Ai(s:ByteArray)(w:World):Calls Tryz.prog 185 #[.slice none 0 0,.string s,.func (.func 186) #[] #[]] w fun x w'=>x=.returned (.tuple #[.int .i64 0,.bool false])/\w'=w:=by
 go_enter Tryz.func185,Tryz.ntmps185;go_wp2_with fail;go_loopw [9,10] (fun i j wr=>i=.int .i64 0/\j=.int .i64 0/\wr=w) (fun _ _ _=>0)
 case atStart=>exact⟨rfl,rfl,rfl⟩
 case round=>
  obtain⟨rfl,rfl,rfl⟩:=hrel;go_wp2_with fail
  go_ret2
  exact⟨rfl,rfl⟩
theorem DR(s:ByteArray)(po:Option Addr)(g cap:Nat)(w:World)(hg:g<w.heap.size)(c0:w.cell? ⟨g,0,none⟩=some (.string s))(c1:w.cell? ⟨g,1,none⟩=some (.pointer po)):
   Calls Tryz.prog 185 #[.slice (some ⟨g,0,none⟩) 1 cap,.string s,.func (.func 186) #[] #[]] w fun x w'=>x=.returned (.tuple #[.int .i64 0,.bool true])/\Below w.heap.size w w':=by
 go_enter Tryz.func185,Tryz.ntmps185;go_wp2_with fail;go_loopw [9,10] (fun i j wr=>∃k:Nat,k<=1/\i=.int .i64 0/\j=.int .i64 k/\Hid (Below w.heap.size w wr)) (fun _ j _=>(intOf j).toNat)
 case atStart=>exact⟨1,by omega,rfl,rfl,Below.refl _ _⟩
 case round=>
  obtain⟨k,hk,rfl,rfl,HW⟩:=hrel;have d0:=(HW.out.cell (p:=⟨g,0,none⟩) hg).trans c0;have d1:=(HW.out.cell (p:=⟨g,1,none⟩) hg).trans c1;have hg2:=nlA hg HW.out.size;rcases(show k=0\/k=1 by omega)with rfl|rfl
  · go_wp2_with fail;refine(tK s _ po _ rfl).mono ?_;rintro x w1 ⟨rfl,hb⟩;have HW1:Hid (Below w.heap.size w w1):=HW.out.trans (hb.mono HW.out.size);clear hb;go_wp2_with fail
    go_ret2
    exact⟨rfl,HW1.out⟩
  go_wp2_with fail;refine(tK s _ po _ rfl).mono ?_;rintro x w1 ⟨rfl,hb⟩;have HW1:Hid (Below w.heap.size w w1):=HW.out.trans (hb.mono HW.out.size);clear hb;go_wp2_with fail;go_roundw
  case rel=>exact⟨0,by omega,rfl,rfl,HW1⟩
  case measure=>simp[intOf]
end Ts
namespace Ts
theorem wW(s:ByteArray)(b off:Nat)(w:World)(hb:b<w.heap.size)(c0:w.cell? ⟨b,off,none⟩=some (.slice none 0 0)):
   Calls Tryz.prog 138 #[.pointer (some ⟨b,off,none⟩),.string s] w fun x w'=>x=.returned (.tuple #[.int .i64 0,.bool false])/\w'=w:=by
 go_enter Tryz.func138,Tryz.ntmps138;go_wp2_with fail;refine(Ai s _).mono ?_;rintro x w1 ⟨rfl,rfl⟩;go_wp2_with fail
 go_ret2
 exact⟨rfl,rfl⟩
theorem Hq(s:ByteArray)(po:Option Addr)(g cap b off:Nat)(w:World)(hb:b<w.heap.size)(c0:w.cell? ⟨b,off,none⟩=some (.slice (some ⟨g,0,none⟩) 1 cap))(hg:g<w.heap.size)(e0:w.cell? ⟨g,0,none⟩=some (.string s))(e1:w.cell? ⟨g,1,none⟩=some (.pointer po)):
   Calls Tryz.prog 138 #[.pointer (some ⟨b,off,none⟩),.string s] w fun x w'=>x=.returned (.tuple #[.int .i64 0,.bool true])/\Below w.heap.size w w':=by
 have HS:=hd (DR s po g cap w hg e0 e1);go_enter Tryz.func138,Tryz.ntmps138;go_wp2_with fail;refine HS.out.mono ?_;rintro x w1 ⟨rfl,h1⟩;have HB:=hd h1;clear h1;go_wp2_with fail
 go_ret2
 exact⟨rfl,HB.out⟩
theorem vF(b off:Nat)(w:World)(hb:b<w.heap.size)(c1:w.cell? ⟨b,off+1,none⟩=some (.slice none 0 0)):
   Calls Tryz.prog 139 #[.pointer (some ⟨b,off,none⟩)] w fun x w'=>x=.returned (.bool true)/\w'=w:=by
 go_enter Tryz.func139,Tryz.ntmps139;go_wp2_with fail;go_ret;exact⟨rfl,rfl⟩
theorem get_none(s:ByteArray)(b off:Nat)(w:World)(hb:b<w.heap.size)(c0:w.cell? ⟨b,off,none⟩=some (.slice none 0 0))(c1:w.cell? ⟨b,off+1,none⟩=some (.slice none 0 0)):
   Calls Tryz.prog 72 #[.pointer (some ⟨b,off,none⟩),.string s] w fun x w'=>x=.returned (.tuple #[.pointer none,.bool false])/\w'=w:=by
 go_enter Tryz.func72,Tryz.ntmps72;go_wp2_with fail;go_loopw [6] (fun n wr=>n=.pointer (some ⟨b,off,none⟩)/\wr=w) (fun _ _=>0)
 case atStart=>exact⟨rfl,rfl⟩
 case round=>
  obtain⟨rfl,rfl⟩:=hrel;go_wp2_with fail;refine(wW s b off _ hb c0).mono ?_;rintro x w1 ⟨rfl,rfl⟩;go_wp2_with fail;refine(vF b off _ hb c1).mono ?_;rintro x w1 ⟨rfl,rfl⟩;go_wp2_with fail
  go_ret2
  exact⟨rfl,rfl⟩
theorem Kv(s:ByteArray)(po:Option Addr)(g cap b off:Nat)(w:World)(hb:b<w.heap.size)(c0:w.cell? ⟨b,off,none⟩=some (.slice (some ⟨g,0,none⟩) 1 cap))(hg:g<w.heap.size)(e0:w.cell? ⟨g,0,none⟩=some (.string s))(e1:w.cell? ⟨g,1,none⟩=some (.pointer po)):
   Calls Tryz.prog 72 #[.pointer (some ⟨b,off,none⟩),.string s] w fun x w'=>x=.returned (.tuple #[.pointer po,.bool true])/\Below w.heap.size w w':=by
 have HF:=hd (Hq s po g cap b off w hb c0 hg e0 e1);go_enter Tryz.func72,Tryz.ntmps72;go_wp2_with fail;go_loopw [6] (fun n wr=>n=.pointer (some ⟨b,off,none⟩)/\wr=w) (fun _ _=>0)
 case atStart=>exact⟨rfl,rfl⟩
 case round=>
  obtain⟨rfl,rfl⟩:=hrel;go_wp2_with fail;refine HF.out.mono ?_;rintro x w1 ⟨rfl,h1⟩;have d0:=(h1.cell (p:=⟨b,off,none⟩) hb).trans c0;have d1:=(h1.cell (p:=⟨g,1,none⟩) hg).trans e1;have hb1:=nlA hb h1.size;have hg1:=nlA hg h1.size;have HB:=hd h1;clear h1;go_wp2_with fail
  go_ret2
  exact⟨rfl,HB.out⟩
theorem yU(b off:Nat)(n:Int)(w:World)(hb:b<w.heap.size)(c2:w.cell? ⟨b,off+2,none⟩=some (.int .i64 n)):
   Calls Tryz.prog 75 #[.pointer (some ⟨b,off,none⟩)] w fun x w'=>x=.returned (.int .i64 n)/\w'=w:=by
 go_enter Tryz.func75,Tryz.ntmps75;go_wp2_with fail;go_ret;exact⟨rfl,rfl⟩
theorem ai{b b':Nat}{T:TypeId}{s:Nat}(h:w.ownsRow b T s v n xs)(hb:b'<=b):w.ownsRow b' T s v n xs:=by
 refine⟨h.1,?_⟩;rcases h.2 with h2|⟨g,cap,cur,h0,h1,h2⟩
 · exact .inl h2
 exact .inr ⟨g,cap,cur,h0,Nat.le_trans hb h1,h2⟩
theorem Tryz.info257:(Tryz.prog.info? 257).map (fun i=>(i.zero,i.size,i.bytes))=some (some (.agg #[.string ⟨#[]⟩,.pointer none]),2,24):=by kernel_rfl
theorem Af(s:ByteArray)(po:Option Addr)(g:Nat)(w:World)(hg:g<w.heap.size)(e0:w.cell? ⟨g,0,none⟩=some (.string s))(e1:w.cell? ⟨g,1,none⟩=some (.pointer po)):
   Calls Tryz.prog 188 #[.slice none 0 0,.int .i64 0,.slice (some ⟨g,0,none⟩) 1 1] w fun x w'=>Below w.heap.size w w'/\∃v,x=.returned v/\w'.ownsRow w.heap.size 257 2 v 1 [.string s,.pointer po]:=by
 obtain⟨i0,hi,hz0,hz1,hz2⟩:=info_parts Tryz.info257
 have HC:Hid (∀j u,([.string s,.pointer po]:List Value)[j]? =some u->w.cell? ((⟨g,0,none⟩:Addr).add j)=some u):=fun j u hu=>by
  rw[Addr.add_lit,Nat.zero_add]
  match j,hu with
  |0,hu=>simp at hu;rw[<-hu];exact e0
  |1,hu=>simp at hu;rw[<-hu];exact e1
 go_enter Tryz.func188,Tryz.ntmps188
 go_wp2_with(first
  |(at_builtin;refine wpList_append_own _ rfl _ _ 61 rfl w.heap.size 257 i0 (.agg #[.string ⟨#[]⟩,.pointer none]) 2 24 Tryz.underlying61 hi hz0 hz1 hz2 rfl (by decide) _ _ _ rfl (World.ownsRow_nil _ _ _ _) ⟨g,0,none⟩ 1 1 [.string s,.pointer po] rfl rfl ?c1 ?c2 ?c3 ?c4 ?c5 ?_)
  |fail)
 case c1=>exact HC.out
 case c2=>intro u hu;simp at hu;rcases hu with rfl|rfl<;>rfl
 case c3=>simp[maxLen]
 case c4=>omega
 case c5=>exact nlr _
 intro v' w3 hown hgrow _;have HB:Hid (Below w.heap.size w w3):=⟨hgrow.os,hgrow.tape,hgrow.output,hgrow.size,fun k hk=>hgrow.block k hk (by simp[Value.ownBlock])⟩;obtain⟨ao',n',cp',rfl⟩:=Ev hown;have HO:=hd hown;clear hown hgrow;go_wp2_with fail;go_ret;exact⟨HB.out,_,rfl,HO.out⟩
theorem IY(s:ByteArray)(po:Option Addr)(b off:Nat)(cs:Array Value)(T:TypeId)(w:World)(hB:af w b cs T)(h0:cs[off]? =some (.slice none 0 0))(h1:cs[off+1]? =some (.slice none 0 0)):
   Calls Tryz.prog 140 #[.pointer (some ⟨b,off,none⟩),.agg #[.string s,.pointer po]] w fun x w'=>x=.returned (.bool true)/\∃v w1,Below w.heap.size w w1/\w1.ownsRow w.heap.size 257 2 v 1 [.string s,.pointer po]/\w'=w1.setCell ⟨b,off,none⟩ v:=by
 have HBK:=hd hB;have HC0:=hd h0;have hb:=hB.lt;have c0:=(hB.cell off).trans h0;have c1:=(hB.cell (off+1)).trans h1
 have HB0:Hid (Below w.heap.size w (w.alloc (.cells #[.string s,.pointer po] 257))):=by show Below _ _ _;go_grown
 have HK0:=hd (af.new w #[.string s,.pointer po] 257);have hl0:=HK0.out.lt;have d0:=(HB0.out.cell (p:=⟨b,off,none⟩) hb).trans c0;have d1:=(HB0.out.cell (p:=⟨b,off+1,none⟩) hb).trans c1;have hb0:=nlA hb HB0.out.size;have HFN:=hd (wW s b off _ hb0 d0);have HLF:=hd (vF b off _ hb0 d1);have HE1:=hd (af.new (w.alloc (.cells #[.string s,.pointer po] 257)) #[.string s,.pointer po] 257)
 have HB1:Hid (Below w.heap.size w ((w.alloc (.cells #[.string s,.pointer po] 257)).alloc (.cells #[.string s,.pointer po] 257))):=by show Below _ _ _;go_grown
 have hl1:=HE1.out.lt
 have hsz:(w.alloc (.cells #[.string s,.pointer po] 257)).heap.size=w.heap.size+1:=by simp
 rw[hsz]at HE1 hl1;have HIN:=hd (Af s po (w.heap.size+1) (World.drew ((w.alloc (.cells #[.string s,.pointer po] 257)).alloc (.cells #[.string s,.pointer po] 257))) hl1 ((HE1.out.drew.cell 0).trans rfl) ((HE1.out.drew.cell 1).trans rfl));have hle:w.heap.size<=(World.drew ((w.alloc (.cells #[.string s,.pointer po] 257)).alloc (.cells #[.string s,.pointer po] 257))).heap.size:=HB1.out.size;clear hB h0 h1;go_enter Tryz.func140,Tryz.ntmps140;go_wp2_with fail;refine HFN.out.mono ?_;rintro x w1 ⟨rfl,rfl⟩;go_wp2_with fail;refine HLF.out.mono ?_;rintro x w1 ⟨rfl,rfl⟩;go_wp2_with fail
 go_region_with (
   go_at_call 188
   refine HIN.out.mono ?_;rintro x w2 ⟨hb2,v,rfl,hown⟩;have HB2:=hd (HB1.out.drew.trans (hb2.mono HB1.out.size));have K2:=HBK.out.below HB2.out hb;have g0:=(K2.cell off).trans HC0.out;have g1:=K2.free off;have hb3:=K2.lt;obtain⟨ao',n',cp',rfl⟩:=Ev hown;have HO:=hd (ai hown hle)
   clear hb2 hown K2)
 all_goals
  go_wp2_with fail;go_ret;exact⟨rfl,_,_,HB2.out,HO.out,rfl⟩
theorem xQ(s:ByteArray)(po:Option Addr)(b off:Nat)(cs:Array Value)(T:TypeId)(w:World)(hB:af w b cs T)(h0:cs[off]? =some (.slice none 0 0))(h1:cs[off+1]? =some (.slice none 0 0))(h2:cs[off+2]? =some (.int .i64 0)):
   Calls Tryz.prog 76 #[.pointer (some ⟨b,off,none⟩),.string s,.pointer po] w fun x w'=>x=.returned (.tuple #[])/\∃v w1,Below w.heap.size w w1/\w1.ownsRow w.heap.size 257 2 v 1 [.string s,.pointer po]/\w'=(w1.setCell ⟨b,off,none⟩ v).setCell ⟨b,off+2,none⟩ (.int .i64 1):=by
 have HBK:=hd hB;have HP:=hd (IY s po b off cs T w hB h0 h1);have H0:=hd h0;have H2:=hd h2;have hb:=hB.lt;clear hB h0 h1 h2;go_enter Tryz.func76,Tryz.ntmps76;go_wp2_with fail;refine HP.out.mono ?_;rintro x w2 ⟨rfl,v,w1,hb1,hown,rfl⟩;have HB1:=hd hb1;have HO:=hd hown;have K1:=(HBK.out.below hb1 hb).set off v;obtain⟨ao',n',cp',rfl⟩:=Ev hown
 have hn:n'=1:=by
  rcases hown.2 with⟨_,h⟩|⟨g,cap,cur,e,_⟩
  · simp at h
  cases e;rfl
 subst hn;have hoff:off<cs.size:=(geA.1 H0.out).1
 have c2:(w1.setCell ⟨b,off,none⟩ (.slice ao' 1 cp')).cell? ⟨b,off+2,none⟩=some (.int .i64 0):=by
  rw[K1.cell,Array.getElem?_setIfInBounds_ne (by omega)];exact H2.out
 have c0:(w1.setCell ⟨b,off,none⟩ (.slice ao' 1 cp')).cell? ⟨b,off,none⟩=some (.slice ao' 1 cp'):=by
  rw[K1.cell,Array.getElem?_setIfInBounds_self,if_pos hoff]
 have f2:=K1.free (off+2);have hl:=K1.lt
 have hne:¬(off=off+2):=by omega
 clear hown hb1 K1;generalize hW:w1.setCell ⟨b,off,none⟩ (.slice ao' 1 cp')=W at*;have HW:=hd hW;clear hW;go_wp2_with fail
 go_end0
 exact⟨rfl,_,w1,HB1.out,HO.out,by rw[HW.out]⟩
end Ts
namespace Ti
theorem bK(z:Int)(w:World):Calls Tryz.prog 274 #[.int .i64 z] w fun x w'=>x=.returned (.bool false)/\w'=w:=by
 go_enter Tryz.func274,Tryz.ntmps274;go_wp2_with fail;go_ret;exact⟨rfl,rfl⟩
theorem jX(z:Int)(w:World):Calls Tryz.prog 216 #[.int .i64 z,.int .i64 z] w fun x w'=>x=.returned (.int .i64 0)/\w'=w:=by
 go_enter Tryz.func216,Tryz.ntmps216;go_wp2_with fail;refine(bK _ _).mono ?_;rintro x w1 ⟨rfl,rfl⟩;go_wp2_with fail;refine(bK _ _).mono ?_;rintro x w1 ⟨rfl,rfl⟩;go_wp2_with fail;go_ret;exact⟨rfl,rfl⟩
theorem yU(b off:Nat)(n:Int)(w:World)(hb:b<w.heap.size)(c2:w.cell? ⟨b,off+2,none⟩=some (.int .i64 n)):
   Calls Tryz.prog 82 #[.pointer (some ⟨b,off,none⟩)] w fun x w'=>x=.returned (.int .i64 n)/\w'=w:=by
 go_enter Tryz.func82,Tryz.ntmps82;go_wp2_with fail;go_ret;exact⟨rfl,rfl⟩
theorem Tryz.info265:(Tryz.prog.info? 265).map (fun i=>(i.zero,i.size,i.bytes))=some (some (.agg #[.int .i64 0,.slice none 0 0]),2,32):=by kernel_rfl
end Ti
namespace Mn
def vV(v:Mg.V):Value:=.agg #[.int .i64 v.kind,.int .i64 v.int,.string ⟨v.text.toArray⟩]
theorem dP(b:Bool)(w:World):Calls Tryz.prog 197 #[.bool b] w fun x w'=>x=.returned (vV (Mg.aB b))/\Below w.heap.size w w':=by
 have HB0:Hid (Below w.heap.size w (w.alloc (.cells #[.int .i64 15,.int .i64 (if b=true then 1 else 0),.string ⟨#[]⟩] 39))):=by show Below _ _ _;go_grown
 cases b
 · go_enter Tryz.func197,Tryz.ntmps197;go_wp2;refine bodyPost_ret (v:=vV (Mg.aB false)) (by simp[results,Tryz.results197,go_sem,vV,Mg.aB]) rfl ?_;exact⟨rfl,HB0.out⟩
 go_enter Tryz.func197,Tryz.ntmps197;go_wp2;refine bodyPost_ret (v:=vV (Mg.aB true)) (by simp[results,Tryz.results197,go_sem,vV,Mg.aB]) rfl ?_;exact⟨rfl,HB0.out⟩
theorem kY(w:World):Calls Tryz.prog 202 #[] w fun x w'=>x=.returned (vV Mg.aJ)/\Below w.heap.size w w':=by
 have HB0:Hid (Below w.heap.size w (w.alloc (.cells #[.int .i64 14,.int .i64 0,.string ⟨#[]⟩] 39))):=by show Below _ _ _;go_grown
 go_enter Tryz.func202,Tryz.ntmps202;go_wp2;refine bodyPost_ret (v:=vV Mg.aJ) (by simp[results,Tryz.results202,go_sem,vV,Mg.aJ]) rfl ?_;exact⟨rfl,HB0.out⟩
theorem Gf(k:Nat)(o:Int)(w:World)(hk:25<=k/\k<=30):Calls Tryz.prog 257 #[.int .i64 (k:Int),.int .i64 o] w fun x w'=>x=.returned (.bool (Mg.holds k o))/\w'=w:=by
 rcases(show k=25\/k=26\/k=27\/k=28\/k=29\/k=30 by omega)with rfl|rfl|rfl|rfl|rfl|rfl
 all_goals
  go_enter Tryz.func257,Tryz.ntmps257;go_wp2;go_ret;refine⟨?_,rfl⟩;simp[Mg.holds]
end Mn
namespace Mn
theorem Il(s t:ByteArray)(w:World):Calls Tryz.prog 187 #[.string s,.string t] w fun x w'=>x=.returned (.int .i64 (Mg.oW s.toList t.toList))/\w'=w:=by
 unfold Mg.oW
 cases h1:Op.bytesLess s.toList t.toList
 · cases h2:(s.toList==t.toList)
   all_goals
    go_enter Tryz.func187,Tryz.ntmps187;go_wp2_with fail;refine(Ts.bK _ _).mono ?_;rintro x w1 ⟨rfl,rfl⟩;go_wp2_with fail;refine(Ts.bK _ _).mono ?_;rintro x w1 ⟨rfl,rfl⟩;go_wp2_with fail;go_ret;exact⟨rfl,rfl⟩
 go_enter Tryz.func187,Tryz.ntmps187;go_wp2_with fail;refine(Ts.bK _ _).mono ?_;rintro x w1 ⟨rfl,rfl⟩;go_wp2_with fail;refine(Ts.bK _ _).mono ?_;rintro x w1 ⟨rfl,rfl⟩;go_wp2_with fail;go_ret;exact⟨rfl,rfl⟩
theorem BV(a b:Int)(w:World):Calls Tryz.prog 216 #[.int .i64 a,.int .i64 b] w fun x w'=>x=.returned (.int .i64 (Mg.jb a b))/\w'=w:=by
 unfold Mg.jb;rcases(show a<b\/a=b\/b<a by omega)with h|rfl|h
 · have h1:decide (a<b)=true:=by simp;omega
   have h2:¬b<a:=by omega
   rw[if_pos h];go_enter Tryz.func216,Tryz.ntmps216;go_wp2_with fail;refine(Ti.bK _ _).mono ?_;rintro x w1 ⟨rfl,rfl⟩;go_wp2_with fail;refine(Ti.bK _ _).mono ?_;rintro x w1 ⟨rfl,rfl⟩;go_wp2_with fail;go_ret;exact⟨rfl,rfl⟩
 · rw[if_neg (by omega),if_neg (by omega)];exact Ti.jX a w
 have h1:¬a<b:=by omega
 rw[if_neg h1,if_pos h];go_enter Tryz.func216,Tryz.ntmps216;go_wp2_with fail;refine(Ti.bK _ _).mono ?_;rintro x w1 ⟨rfl,rfl⟩;go_wp2_with fail;refine(Ti.bK _ _).mono ?_;rintro x w1 ⟨rfl,rfl⟩;go_wp2_with fail;go_ret;exact⟨rfl,rfl⟩
def fQ(w:World)(r:Except Nat Mg.V)(x:Ending)(w':World):Prop:=Below w.heap.size w w'/\match r with
 |.ok v=>x=.returned (vV v)
 |.error c=>x=ku 0 c
theorem AB(s:ByteArray)(w:World):Calls Tryz.prog 199 #[.string s] w (fQ w (Mg.oM s.data.toList)):=by
 have hsz:s.data.toList.length=s.size:=by rw[Array.length_toList];rfl
 have hst:(⟨s.data.toList.toArray⟩:ByteArray)=s:=by cases s;simp
 unfold Mg.oM;have HK:=hd (af.new w #[.int .i64 0,.int .i64 0,.string ⟨#[]⟩] 39)
 have HB0:Hid (Below w.heap.size w (w.alloc (.cells #[.int .i64 0,.int .i64 0,.string ⟨#[]⟩] 39))):=by show Below _ _ _;go_grown
 by_cases h:s.size<=100
 · rw[if_pos (by omega)]
   have hd1:decide ((s.size:Int)<=100)=true:=by simp;omega
   have hlen:(s.size:Int)<=100:=by omega
   have a0:=HK.out.cell 0;have a1:=HK.out.cell 1;have a2:=HK.out.cell 2;simp at a0 a1 a2;have K5:=((HK.out.set 0 (.int .i64 17)).set 1 (.int .i64 0)).set 2 (.string s);have g0:=K5.cell 0;have g1:=K5.cell 1;have g2:=K5.cell 2;simp at g0 g1 g2;have fa0:=HK.out.free 0;have fa1:=HK.out.free 1;have fa2:=HK.out.free 2
   have HV:Hid (vV (Mg.qW s.data.toList)=.agg #[.int .i64 17,.int .i64 0,.string s]):=by show _=_;simp[vV,Mg.qW,hst]
   clear K5;go_enter Tryz.func199,Tryz.ntmps199;go_wp2_with fail;refine(aM _ _).mono ?_;rintro x w1 ⟨rfl,rfl⟩;go_wp2_with fail;refine bodyPost_ret (v:=.agg #[.int .i64 17,.int .i64 0,.string s]) (by simp[results,Tryz.results199,go_sem]) rfl ?_;exact⟨by go_grown,by show _=_;rw[HV.out]⟩
 rw[if_neg (by omega)]
 have hd1:decide ((s.size:Int)<=100)=false:=by simp;omega
 have hlen:¬(s.size:Int)<=100:=by omega
 go_enter Tryz.func199,Tryz.ntmps199;go_wp2_with fail;refine(jZ 14 _).mono ?_;rintro x w1 ⟨rfl,hb⟩;exact⟨rfl,HB0.out.trans (hb.mono HB0.out.size),rfl⟩
end Mn
namespace Mn
theorem JQ(v:Mg.V)(w:World):Calls Tryz.prog 148 #[vV v] w fun x w'=>x=.returned (.bool (Mg.isNull v))/\Below w.heap.size w w':=aj _ _ _ w
theorem toList_toArray(l:List UInt8):(⟨l.toArray⟩:ByteArray).toList=l:=by
 rw[ByteArray.toList_eq]
theorem qU(a b:Mg.V)(w:World):Calls Tryz.prog 160 #[vV a,vV b] w fun x w'=>x=.returned (.int .i64 (Mg.qX a b))/\Below w.heap.size w w':=by
 obtain⟨ka,za,ta⟩:=a;obtain⟨kb,zb,tb⟩:=b;have HKA:=hd ((af.new w #[.int .i64 ka,.int .i64 za,.string ⟨ta.toArray⟩] 39).alloc (.cells #[.int .i64 kb,.int .i64 zb,.string ⟨tb.toArray⟩] 39));have HKB:Hid (af ((w.alloc (.cells #[.int .i64 ka,.int .i64 za,.string ⟨ta.toArray⟩] 39)).alloc (.cells #[.int .i64 kb,.int .i64 zb,.string ⟨tb.toArray⟩] 39)) (w.heap.size+1) #[.int .i64 kb,.int .i64 zb,.string ⟨tb.toArray⟩] 39):=(by have h:=af.new (w.alloc (.cells #[.int .i64 ka,.int .i64 za,.string ⟨ta.toArray⟩] 39)) #[.int .i64 kb,.int .i64 zb,.string ⟨tb.toArray⟩] 39;rw[World.size_alloc]at h;exact h)
 have HB0:Hid (Below w.heap.size w ((w.alloc (.cells #[.int .i64 ka,.int .i64 za,.string ⟨ta.toArray⟩] 39)).alloc (.cells #[.int .i64 kb,.int .i64 zb,.string ⟨tb.toArray⟩] 39))):=by show Below _ _ _;go_grown
 have HSA:Hid ((⟨ta.toArray⟩:ByteArray).toList=ta):=toList_toArray ta;have HSB:Hid ((⟨tb.toArray⟩:ByteArray).toList=tb):=toList_toArray tb;unfold vV Mg.qX;simp only[Mg.isNull];generalize (⟨ta.toArray⟩:ByteArray)=sa at*;generalize (⟨tb.toArray⟩:ByteArray)=sb at*;have HKA0:=HKA;have HKB0:=HKB;clear HKA HKB
 cases h1:(ka==14)
 · cases h2:(kb==14)
   · by_cases h3:ka=17
     · have h3':(ka==17)=true:=by simp[h3]
       have H3:=hd h3;clear h3;go_enter Tryz.func160,Tryz.ntmps160;go_wp2_with fail;refine(aj _ _ _ _).mono ?_;rintro x w1 ⟨rfl,hb⟩;have HB1:Hid (Below w.heap.size w w1):=HB0.out.trans (hb.mono HB0.out.size);have HKA1:=hd (HKA0.out.below hb HKA0.out.lt);have HKB1:=hd (HKB0.out.below hb HKB0.out.lt);clear hb;have p10:=HKA1.out.cell 0;have p11:=HKA1.out.cell 1;have p12:=HKA1.out.cell 2;have q10:=HKB1.out.cell 0;have q11:=HKB1.out.cell 1;have q12:=HKB1.out.cell 2;simp at p10 p11 p12 q10 q11 q12;have lp1:=HKA1.out.lt;have lq1:=HKB1.out.lt;go_wp2_with fail;refine(aj _ _ _ _).mono ?_;rintro x w2 ⟨rfl,hb⟩;have HB2:Hid (Below w.heap.size w w2):=HB1.out.trans (hb.mono HB1.out.size);have HKA2:=hd (HKA1.out.below hb HKA1.out.lt);have HKB2:=hd (HKB1.out.below hb HKB1.out.lt);clear hb;have p20:=HKA2.out.cell 0;have p21:=HKA2.out.cell 1;have p22:=HKA2.out.cell 2;have q20:=HKB2.out.cell 0;have q21:=HKB2.out.cell 1;have q22:=HKB2.out.cell 2;simp at p20 p21 p22 q20 q21 q22;have lp2:=HKA2.out.lt;have lq2:=HKB2.out.lt;go_wp2_with fail;refine(aj _ _ _ _).mono ?_;rintro x w3 ⟨rfl,hb⟩;have HB3:Hid (Below w.heap.size w w3):=HB2.out.trans (hb.mono HB2.out.size);have jO:=hd (HKA2.out.below hb HKA2.out.lt);have jN:=hd (HKB2.out.below hb HKB2.out.lt);clear hb;have p30:=jO.out.cell 0;have p31:=jO.out.cell 1;have p32:=jO.out.cell 2;have q30:=jN.out.cell 0;have q31:=jN.out.cell 1;have q32:=jN.out.cell 2;simp at p30 p31 p32 q30 q31 q32;have lp3:=jO.out.lt;have lq3:=jN.out.lt;go_wp2_with fail;refine(Il _ _ _).mono ?_;rintro x w4 ⟨rfl,rfl⟩;go_wp2_with fail;go_ret;refine⟨?_,HB3.out⟩;rw[HSA.out,HSB.out];simp[H3.out]
     have h3':(ka==17)=false:=by simp[h3]
     go_enter Tryz.func160,Tryz.ntmps160;go_wp2_with fail;refine(aj _ _ _ _).mono ?_;rintro x w1 ⟨rfl,hb⟩;have HB1:Hid (Below w.heap.size w w1):=HB0.out.trans (hb.mono HB0.out.size);have HKA1:=hd (HKA0.out.below hb HKA0.out.lt);have HKB1:=hd (HKB0.out.below hb HKB0.out.lt);clear hb;have p10:=HKA1.out.cell 0;have p11:=HKA1.out.cell 1;have p12:=HKA1.out.cell 2;have q10:=HKB1.out.cell 0;have q11:=HKB1.out.cell 1;have q12:=HKB1.out.cell 2;simp at p10 p11 p12 q10 q11 q12;have lp1:=HKA1.out.lt;have lq1:=HKB1.out.lt;go_wp2_with fail;refine(aj _ _ _ _).mono ?_;rintro x w2 ⟨rfl,hb⟩;have HB2:Hid (Below w.heap.size w w2):=HB1.out.trans (hb.mono HB1.out.size);have HKA2:=hd (HKA1.out.below hb HKA1.out.lt);have HKB2:=hd (HKB1.out.below hb HKB1.out.lt);clear hb;have p20:=HKA2.out.cell 0;have p21:=HKA2.out.cell 1;have p22:=HKA2.out.cell 2;have q20:=HKB2.out.cell 0;have q21:=HKB2.out.cell 1;have q22:=HKB2.out.cell 2;simp at p20 p21 p22 q20 q21 q22;have lp2:=HKA2.out.lt;have lq2:=HKB2.out.lt;go_wp2_with fail;refine(aj _ _ _ _).mono ?_;rintro x w3 ⟨rfl,hb⟩;have HB3:Hid (Below w.heap.size w w3):=HB2.out.trans (hb.mono HB2.out.size);have jO:=hd (HKA2.out.below hb HKA2.out.lt);have jN:=hd (HKB2.out.below hb HKB2.out.lt);clear hb;have p30:=jO.out.cell 0;have p31:=jO.out.cell 1;have p32:=jO.out.cell 2;have q30:=jN.out.cell 0;have q31:=jN.out.cell 1;have q32:=jN.out.cell 2;simp at p30 p31 p32 q30 q31 q32;have lp3:=jO.out.lt;have lq3:=jN.out.lt;go_wp2_with fail;refine(BV _ _ _).mono ?_;rintro x w4 ⟨rfl,rfl⟩;go_wp2_with fail;go_ret;refine⟨?_,HB3.out⟩
     first|rfl|(simp[h3];done)
   go_enter Tryz.func160,Tryz.ntmps160;go_wp2_with fail;refine(aj _ _ _ _).mono ?_;rintro x w1 ⟨rfl,hb⟩;have HB1:Hid (Below w.heap.size w w1):=HB0.out.trans (hb.mono HB0.out.size);have HKA1:=hd (HKA0.out.below hb HKA0.out.lt);have HKB1:=hd (HKB0.out.below hb HKB0.out.lt);clear hb;have p10:=HKA1.out.cell 0;have p11:=HKA1.out.cell 1;have p12:=HKA1.out.cell 2;have q10:=HKB1.out.cell 0;have q11:=HKB1.out.cell 1;have q12:=HKB1.out.cell 2;simp at p10 p11 p12 q10 q11 q12;have lp1:=HKA1.out.lt;have lq1:=HKB1.out.lt;go_wp2_with fail;refine(aj _ _ _ _).mono ?_;rintro x w2 ⟨rfl,hb⟩;have HB2:Hid (Below w.heap.size w w2):=HB1.out.trans (hb.mono HB1.out.size);have HKA2:=hd (HKA1.out.below hb HKA1.out.lt);have HKB2:=hd (HKB1.out.below hb HKB1.out.lt);clear hb;have p20:=HKA2.out.cell 0;have p21:=HKA2.out.cell 1;have p22:=HKA2.out.cell 2;have q20:=HKB2.out.cell 0;have q21:=HKB2.out.cell 1;have q22:=HKB2.out.cell 2;simp at p20 p21 p22 q20 q21 q22;have lp2:=HKA2.out.lt;have lq2:=HKB2.out.lt;go_wp2_with fail;refine(aj _ _ _ _).mono ?_;rintro x w3 ⟨rfl,hb⟩;have HB3:Hid (Below w.heap.size w w3):=HB2.out.trans (hb.mono HB2.out.size);have jO:=hd (HKA2.out.below hb HKA2.out.lt);have jN:=hd (HKB2.out.below hb HKB2.out.lt);clear hb;have p30:=jO.out.cell 0;have p31:=jO.out.cell 1;have p32:=jO.out.cell 2;have q30:=jN.out.cell 0;have q31:=jN.out.cell 1;have q32:=jN.out.cell 2;simp at p30 p31 p32 q30 q31 q32;have lp3:=jO.out.lt;have lq3:=jN.out.lt;go_wp2_with fail;go_ret;exact⟨rfl,HB3.out⟩
 cases h2:(kb==14)
 · go_enter Tryz.func160,Tryz.ntmps160;go_wp2_with fail;refine(aj _ _ _ _).mono ?_;rintro x w1 ⟨rfl,hb⟩;have HB1:Hid (Below w.heap.size w w1):=HB0.out.trans (hb.mono HB0.out.size);have HKA1:=hd (HKA0.out.below hb HKA0.out.lt);have HKB1:=hd (HKB0.out.below hb HKB0.out.lt);clear hb;have p10:=HKA1.out.cell 0;have p11:=HKA1.out.cell 1;have p12:=HKA1.out.cell 2;have q10:=HKB1.out.cell 0;have q11:=HKB1.out.cell 1;have q12:=HKB1.out.cell 2;simp at p10 p11 p12 q10 q11 q12;have lp1:=HKA1.out.lt;have lq1:=HKB1.out.lt;go_wp2_with fail;refine(aj _ _ _ _).mono ?_;rintro x w2 ⟨rfl,hb⟩;have HB2:Hid (Below w.heap.size w w2):=HB1.out.trans (hb.mono HB1.out.size);have HKA2:=hd (HKA1.out.below hb HKA1.out.lt);have HKB2:=hd (HKB1.out.below hb HKB1.out.lt);clear hb;have p20:=HKA2.out.cell 0;have p21:=HKA2.out.cell 1;have p22:=HKA2.out.cell 2;have q20:=HKB2.out.cell 0;have q21:=HKB2.out.cell 1;have q22:=HKB2.out.cell 2;simp at p20 p21 p22 q20 q21 q22;have lp2:=HKA2.out.lt;have lq2:=HKB2.out.lt;go_wp2_with fail;refine(aj _ _ _ _).mono ?_;rintro x w3 ⟨rfl,hb⟩;have HB3:Hid (Below w.heap.size w w3):=HB2.out.trans (hb.mono HB2.out.size);have jO:=hd (HKA2.out.below hb HKA2.out.lt);have jN:=hd (HKB2.out.below hb HKB2.out.lt);clear hb;have p30:=jO.out.cell 0;have p31:=jO.out.cell 1;have p32:=jO.out.cell 2;have q30:=jN.out.cell 0;have q31:=jN.out.cell 1;have q32:=jN.out.cell 2;simp at p30 p31 p32 q30 q31 q32;have lp3:=jO.out.lt;have lq3:=jN.out.lt;go_wp2_with fail;go_ret;exact⟨rfl,HB3.out⟩
 go_enter Tryz.func160,Tryz.ntmps160;go_wp2_with fail;refine(aj _ _ _ _).mono ?_;rintro x w1 ⟨rfl,hb⟩;have HB1:Hid (Below w.heap.size w w1):=HB0.out.trans (hb.mono HB0.out.size);have HKA1:=hd (HKA0.out.below hb HKA0.out.lt);have HKB1:=hd (HKB0.out.below hb HKB0.out.lt);clear hb;have p10:=HKA1.out.cell 0;have p11:=HKA1.out.cell 1;have p12:=HKA1.out.cell 2;have q10:=HKB1.out.cell 0;have q11:=HKB1.out.cell 1;have q12:=HKB1.out.cell 2;simp at p10 p11 p12 q10 q11 q12;have lp1:=HKA1.out.lt;have lq1:=HKB1.out.lt;go_wp2_with fail;refine(aj _ _ _ _).mono ?_;rintro x w2 ⟨rfl,hb⟩;have HB2:Hid (Below w.heap.size w w2):=HB1.out.trans (hb.mono HB1.out.size);have HKA2:=hd (HKA1.out.below hb HKA1.out.lt);have HKB2:=hd (HKB1.out.below hb HKB1.out.lt);clear hb;have p20:=HKA2.out.cell 0;have p21:=HKA2.out.cell 1;have p22:=HKA2.out.cell 2;have q20:=HKB2.out.cell 0;have q21:=HKB2.out.cell 1;have q22:=HKB2.out.cell 2;simp at p20 p21 p22 q20 q21 q22;have lp2:=HKA2.out.lt;have lq2:=HKB2.out.lt;go_wp2_with fail;go_ret;exact⟨rfl,HB2.out⟩
end Mn
end Go.Proofs.YthhhfcdakfbpkaaGreatDoor
