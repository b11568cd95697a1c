/- Parts of the proof -/
import Derived.Test.YthhhfcdakfbpkaaGreatDoorP18
import Derived.Deep.CutRange
namespace Go.Proofs.YthhhfcdakfbpkaaGreatDoor
set_option linter.unusedSimpArgs false
set_option linter.unusedVariables false
set_option maxRecDepth 100000
set_option maxHeartbeats 16000000
open Go.RowKit
variable {B b5 b6 b7 bs df hi k lo p pm:Nat}{W w:World}{sc:Array Value}{fv iv xv:Value}
section
namespace Tw
open Bt
theorem AQ(os:List (Px.E×Bool))(hn:os.length<=1000000)(xa xb:List Mg.V)(ha:xa.length=os.length)(hb:xb.length=os.length)(hal:Tb.Alike xa xb)(v va vb ca cb:Value)(b:Nat)(x0 x1 x2 x4 x5:Value)(w:World)(hK:af w b #[x0,x1,x2,v,x4,x5] 109)(hE:w.ownsRow 0 227 2 v os.length (os.flatMap bq))(hA:Mn.dM w va xa)(hB:Mn.dM w vb xb):
   Calls Tryz.prog 95 #[.agg #[ca,va],.agg #[cb,vb],.pointer (some ⟨b,0,none⟩)] w fun x w'=>x=.returned (.int .i64 (Mg.cmpO (os.map Prod.snd) xa xb))/\Below w.heap.size w w':=by
 have c3:=hK.cell 3;simp at c3;have hlt:=hK.lt;have HC:=hd (fun(W:World) (hW:Below w.heap.size w W)=>Tb.ze os hn xa xb ha hb hal v va vb W (dA hE hW) (hA.below hW) (hB.below hW));clear hE hA hB hK;go_enter Tryz.func95,Tryz.ntmps95;go_wp2_with fail;refine(HC.out _ (by go_grown)).mono ?_;rintro x W1 ⟨rfl,hW⟩;have HW:=hd hW;clear hW;go_wp2_with fail;go_ret;have hW:=HW.out
 have h0:Below w.heap.size w ((w.alloc (.cells #[ca,va] 195)).alloc (.cells #[cb,vb] 195)):=by go_grown
 exact⟨rfl,h0.trans (hW.mono h0.size)⟩
structure NZ(ts:Nat->Nat)(n:Nat)(g:Nat)(w:World)(a:(Value×Value)×(List Mg.V×List Mg.V)):Prop where
 two:So.Two a.1
 len:a.2.2.length=n
 row:Mn.dM w a.1.2 a.2.2
 off:∀x∈own a.1.2,x<w.heap.size/\x≠g
 has:∀(j:Nat) (h:j<a.2.2.length),Mg.Has a.2.2[j] (ts j)
theorem Nj(os:List (Px.E×Bool))(hn:os.length<=1000000)(ts:Nat->Nat)(g b:Nat)(v:Value)(x0 x1 x2 x4 x5:Value)(w:World)(hK:af w b #[x0,x1,x2,v,x4,x5] 109)(hbg:b≠g)(hE:w.ownsRow 0 227 2 v os.length (os.flatMap bq))(hg:g∉own v):
   So.wP Prod.fst (fun a b=>Mg.vS (os.map Prod.snd) a.2 b.2) (NZ ts os.length g w) (.pointer (some ⟨b,0,none⟩)) g w:=by
 intro W hW x y hx hy
 have h1:af W b #[x0,x1,x2,v,x4,x5] 109:=by
  have:=hW.block b hK.lt (by simpa using hbg);unfold af at*;rw[this];exact hK
 have h2:W.ownsRow 0 227 2 v os.length (os.flatMap bq):=bM hE fun k hk=>hW.block k (aZ hE k hk) (by simp;rintro rfl;exact hg hk)
 have hr:∀z,NZ ts os.length g w z->Mn.dM W z.1.2 z.2.2:=fun z hz=>hz.row.keep hW.size fun k hk=>hW.block k (hz.off k hk).1 (by simpa using(hz.off k hk).2)
 have h:=AQ os hn x.2.2 y.2.2 hx.len hy.len (fun j j1 j2=>⟨ts j,hx.has j j1,hy.has j j2⟩) v x.1.2 y.1.2 x.1.1 y.1.1 b x0 x1 x2 x4 x5 W h1 h2 (hr x hx) (hr y hy);rw[Mg.Ho _ _ _ (by simpa using hx.len) (by simpa using hy.len)]at h;exact h
end Tw
end
section
namespace So
open Bt
variable {α:Type}
def Merged(enc:α->Value×Value)(c:α->α->Int)(g:Nat)(w:World)(p u v s:List α)(e:Ending)(w':World):Prop:=
 e=.returned (.tuple #[])/\aC [g] w w'/\∃x,cK (dx c) x/\dF (dx c) (u++v) x/\bR 195 w' g ((p++x++s).map enc)
theorem AZ(enc:α->Value×Value)(c:α->α->Int)(K:α->Prop)(o:nQ (dx c))(p v s:List α)(e:α)(an mn bn:Nat)(hP:p.length=an)(hm:mn=an+1)(hb:bn=mn+v.length)(hv0:0<v.length)(hv:cK (dx c) v)(g N cap:Nat)(ca:Addr)(w:World)(hD:Data enc c K (.pointer (some ca)) g N w (p++([e]++v)++s)):
   Calls Tryz.prog 215 #[.slice (some ⟨g,0,none⟩) N cap,.int .i64 an,.int .i64 mn,.int .i64 bn,.func (.func 95) #[] #[.pointer (some ca)]] w (Merged enc c g w p [e] v s):=by
 have HP:=hd hP;have HM:=hd hm;have HB:=hd hb;have HV:=hd hv;have HO:=hd o;have HD:=hd hD;have hN:=hD.len;have hNs:=hD.small
 have hbN:bn<=N:=by rw[hN];simp;omega
 have hma:(mn:Int)-(an:Int)=1:=by omega
 have ha0:an<N:=by omega
 have hmb:mn<bn:=by omega
 have hle:an<mn:=by omega
 clear hP hm hb hv o hD hN hv0;go_enter Tryz.func215,Tryz.ntmps215;go_wp2_with fail;go_loopw [10,11] (fun i j wr=>∃a b:Nat,i=.int .i64 a/\j=.int .i64 b/\mn<=a/\a<=b/\b<=bn/\Hid ((mn<a->∀y,v[a-1-mn]? =some y->dx c y e=true)/\(∀y,v[b-mn]? =some y->dx c y e=false))/\Hid (aC [g] w wr/\Data enc c K (.pointer (some ca)) g N wr (p++([e]++v)++s))) (fun i j _=>(intOf j).toNat-(intOf i).toNat)
 case atStart=>exact⟨mn,bn,rfl,rfl,nlr _,by omega,nlr _,⟨fun h=>absurd h (by omega),fun y hy=>by rw[List.getElem?_eq_none (by have:=HB.out;omega)]at hy;cases hy⟩,aC.refl _ _,HD.out⟩
 case round=>
  obtain⟨a,b,rfl,rfl,ha,hab,hbb,HA,HW⟩:=hrel;by_cases hlt:a<b
  · have hhm:mn<=(a+b)/2:=by omega
    have hhb:(a+b)/2<bn:=by omega
    have hhv:(a+b)/2-mn<v.length:=by have:=HB.out;omega
    generalize hh:(a+b)/2=h at*;have HH:=hd hh
    have hhN:h<N:=by omega
    have i1:(h:Int)<(N:Int):=by omega
    have i2:(an:Int)<(N:Int):=by omega
    have i3:(0:Int)<=(h:Int):=by omega
    have i4:(0:Int)<=(an:Int):=by omega
    have hii:((a:Int)+(b:Int))/2=(h:Int):=by omega
    obtain⟨q1,q2,q3,q4,q5,q6,r1,r2,r3,r4,r5,r6,a0,a1,b0,b1,hc⟩:=HW.out.2.pair h an (by rw[<-HW.out.2.len];exact hhN) (by rw[<-HW.out.2.len];exact ha0)
    have g1:(p++([e]++v)++s)[h]'(by rw[<-HW.out.2.len];exact hhN)=v[h-mn]:=by
     have hp:=HP.out;have hm:=HM.out;rw[List.getElem_append_left (by simp;omega),List.getElem_append_right (by omega),List.getElem_append_right (by simp;omega)];simp only[List.length_singleton]
     congr 1
     omega
    have g2:(p++([e]++v)++s)[an]'(by rw[<-HW.out.2.len];exact ha0)=e:=by
     have hp:=HP.out;rw[List.getElem_append_left (by simp;omega),List.getElem_append_right (by omega),List.getElem_append_left (by simp;omega)];simp
    rw[g1,g2]at hc;have HC:=hd hc;have hgl:=HW.out.2.lies.lt;have HYE:Hid (v[h-mn]? =some v[h-mn]):=List.getElem?_eq_getElem hhv;generalize v[h-mn]=y at*;clear hc g1 g2 hhv hh
    have hcd:c y e<0\/¬c y e<0:=by omega
    generalize hco:c y e=co at*;have HCO:=hd hco;clear hco;rcases hcd with hcd|hcd
    · have hcx:decide (co<0)=true:=by simpa using hcd
      go_wp2_with fail
      go_region_held3 (fun w'=>w'.cell? ⟨g,h*2,none⟩=some (.slice q1 q2 q3)/\w'.cell? ⟨g,h*2+1,none⟩=some (.slice q4 q5 q6)/\w'.cell? ⟨g,an*2,none⟩=some (.slice r1 r2 r3)/\w'.cell? ⟨g,an*2+1,none⟩=some (.slice r4 r5 r6)) (go_keep)
        (first
         |(go_at_call 95
           refine(HC.out _ ((aC.refl _ _).drew)).mono ?_;rintro x W1 ⟨rfl,hb1⟩;have c1:=(hb1.cell (p:=⟨g,h*2,none⟩) hgl).trans a0;have c2:=(hb1.cell (p:=⟨g,h*2+1,none⟩) hgl).trans a1;have c3:=(hb1.cell (p:=⟨g,an*2,none⟩) hgl).trans b0
           have c4:=(hb1.cell (p:=⟨g,an*2+1,none⟩) hgl).trans b1))
      have HW1:Hid (aC [g] w W1/\Data enc c K (.pointer (some ca)) g N W1 (p++([e]++v)++s)):=
       ⟨HW.out.1.trans (aC.of (F:=[g]) hb1).eF (fun _ h=> .inl h),HW.out.2.next (aC.of (F:=[g]) hb1).eF (HW.out.2.lies.drew.below hb1) (List.Perm.refl _)⟩
      clear a0 a1 b0 b1 c1 c2 c3 c4 hb1;go_wp2_with fail;go_roundw
      case rel=>
       refine⟨h+1,b,by go_num,rfl,by omega,by have:=HH.out;omega,hbb,⟨fun _ z hz=> ?_,HA.out.2⟩,HW1⟩;rw[show h+1-1-mn=h-mn by omega,HYE.out]at hz;injection hz with hz;subst hz;unfold dx;rw[HCO.out];exact hcx
      case measure=>have:=HH.out;simp[intOf];omega
    have hcx:decide (co<0)=false:=by simpa using hcd
    go_wp2_with fail
    go_region_held3 (fun w'=>w'.cell? ⟨g,h*2,none⟩=some (.slice q1 q2 q3)/\w'.cell? ⟨g,h*2+1,none⟩=some (.slice q4 q5 q6)/\w'.cell? ⟨g,an*2,none⟩=some (.slice r1 r2 r3)/\w'.cell? ⟨g,an*2+1,none⟩=some (.slice r4 r5 r6)) (go_keep)
      (first
       |(go_at_call 95
         refine(HC.out _ ((aC.refl _ _).drew)).mono ?_;rintro x W1 ⟨rfl,hb1⟩;have c1:=(hb1.cell (p:=⟨g,h*2,none⟩) hgl).trans a0;have c2:=(hb1.cell (p:=⟨g,h*2+1,none⟩) hgl).trans a1;have c3:=(hb1.cell (p:=⟨g,an*2,none⟩) hgl).trans b0
         have c4:=(hb1.cell (p:=⟨g,an*2+1,none⟩) hgl).trans b1))
    have HW1:Hid (aC [g] w W1/\Data enc c K (.pointer (some ca)) g N W1 (p++([e]++v)++s)):=
     ⟨HW.out.1.trans (aC.of (F:=[g]) hb1).eF (fun _ h=> .inl h),HW.out.2.next (aC.of (F:=[g]) hb1).eF (HW.out.2.lies.drew.below hb1) (List.Perm.refl _)⟩
    clear a0 a1 b0 b1 c1 c2 c3 c4 hb1;go_wp2_with fail;go_roundw
    case rel=>
     refine⟨a,h,rfl,rfl,ha,by have:=HH.out;omega,by omega,⟨HA.out.1,fun z hz=> ?_⟩,HW1⟩;rw[HYE.out]at hz;injection hz with hz;subst hz;unfold dx;rw[HCO.out];exact hcx
    case measure=>have:=HH.out;simp[intOf];omega
  obtain rfl:b=a:=by omega
  obtain⟨t,ht⟩:∃t,b=mn+t:=⟨b-mn,by omega⟩
  have htv:t<=v.length:=by have:=HB.out;omega
  obtain⟨z,hz⟩:∃z,z=an+t:=⟨_,rfl⟩
  have hbz:(b:Int)-1=(z:Int):=by have:=HM.out;omega
  have HT:=hd ht;have HZ:=hd hz;have HTV:=hd htv;have HX:=hd (EJ HO.out HV.out (e:=e) (t:=t) htv (fun h=>HA.out.2 _ (by rw[show b-mn=t by omega];exact List.getElem?_eq_getElem h)) (fun h=>HA.out.1 (by omega) _ (by rw[show b-1-mn=t-1 by omega];exact List.getElem?_eq_getElem (by omega))))
  have hzN:z<N:=by have:=HM.out;have:=HB.out;omega
  have hza:an<=z:=by omega
  have HW0:Hid (aC [g] w wr/\Data enc c K (.pointer (some ca)) g N wr (p++(v.take 0++e::v.drop 0)++s)):=by simpa using HW
  clear ht hz htv HA HW hlt;go_wp2_with fail;go_loopw [13] (fun k wr=>∃kn:Nat,k=.int .i64 kn/\an<=kn/\kn<=z/\Hid (aC [g] w wr/\Data enc c K (.pointer (some ca)) g N wr (p++(v.take (kn-an)++e::v.drop (kn-an))++s))) (fun k _=>z-(intOf k).toNat)
  case atStart=>exact⟨an,rfl,nlr _,hza,by rw[Nat.sub_self];exact HW0⟩
  case round=>
   obtain⟨kn,rfl,hk1,hk2,HW⟩:=hrel;by_cases hkz:kn<z
   · have htl:kn-an<v.length:=by have:=HZ.out;have:=HTV.out;omega
     have he:p++(v.take (kn-an)++e::v.drop (kn-an))++s=(p++v.take (kn-an))++e::v[kn-an]::(v.drop (kn-an+1)++s):=by
      rw[List.drop_eq_getElem_cons htl];simp only[laa,List.cons_append]
     have he2:(p++v.take (kn-an))++v[kn-an]::e::(v.drop (kn-an+1)++s)=p++(v.take (kn+1-an)++e::v.drop (kn+1-an))++s:=by
      rw[show kn+1-an=kn-an+1 by omega,List.take_succ_eq_append_getElem htl];simp only[laa,List.cons_append,List.nil_append]
     have hA:(p++v.take (kn-an)).length=kn:=by have:=HP.out;rw[List.length_append,List.length_take];omega
     have hD1:=HW.out.2;rw[he]at hD1;obtain⟨k1,CG⟩:∃k1,k1=kn+1:=⟨_,rfl⟩;obtain⟨q1,q2,q3,q4,q5,q6,r1,r2,r3,r4,r5,r6,⟨a0,a1,b0,b1⟩,D1,D2⟩:=hD1.QW hA CG;rw[he2]at D1 D2;have HD1:=hd D1;have HD2:=hd D2;have HK1:=hd CG
     have w1:IntKind.i64.wrap ((kn:Int)+1)=(k1:Int):=by rw[Ej _ (by omega) (by omega)];omega
     have i1:(kn:Int)<(N:Int):=by omega
     have i2:(k1:Int)<(N:Int):=by omega
     have i3:(0:Int)<=(k1:Int):=by omega
     have hkk:kn<k1:=by omega
     have hgl:=hD1.lies.lt;have f0:=hD1.lies.free (kn*2);have f1:=hD1.lies.free (kn*2+1);have f2:=hD1.lies.free (k1*2);have f3:=hD1.lies.free (k1*2+1);clear D1 D2 hD1 hA he he2 htl CG;go_wp2_with fail
     go_region
     all_goals
      go_wp2_with fail;go_roundw
      case rel=>exact⟨kn+1,by first|(rw[HK1.out];done)|go_num,by omega,by omega,(FX HW.out.1 _ _ _ _ _ _ _ _).drew,HD1.out.next ((aC.refl _ _).drew) HD1.out.lies.drew (List.Perm.refl _)⟩
      case measure=>simp[intOf];omega
   have hke:kn-an=t:=by have:=HZ.out;omega
   rw[hke]at HW;go_wp2_with fail
   go_end0
   exact⟨rfl,HW.out.1,_,HX.out.1,HX.out.2,HW.out.2.lies⟩
end So
end
section
namespace So
open Bt
variable {α:Type}
theorem Cz(enc:α->Value×Value)(c:α->α->Int)(K:α->Prop)(o:nQ (dx c))(p u s:List α)(e:α)(an mn bn:Nat)(hP:p.length=an)(hm:mn=an+u.length)(hb:bn=mn+1)(hu2:2<=u.length)(hu:cK (dx c) u)(g N cap:Nat)(ca:Addr)(w:World)(hD:Data enc c K (.pointer (some ca)) g N w (p++(u++[e])++s)):
   Calls Tryz.prog 215 #[.slice (some ⟨g,0,none⟩) N cap,.int .i64 an,.int .i64 mn,.int .i64 bn,.func (.func 95) #[] #[.pointer (some ca)]] w (Merged enc c g w p u [e] s):=by
 have HP:=hd hP;have HM:=hd hm;have HB:=hd hb;have HV:=hd hu;have HO:=hd o;have HD:=hd hD;have hN:=hD.len;have hNs:=hD.small
 have hbN:bn<=N:=by rw[hN];simp;omega
 obtain⟨ul,hul⟩:∃ul,ul=u.length:=⟨_,rfl⟩
 have hma:(mn:Int)-(an:Int)=(ul:Int):=by omega
 have hu1:((ul:Int)==1)=false:=by simp;omega
 have hbm:(bn:Int)-(mn:Int)=1:=by omega
 have ha0:mn<N:=by omega
 have hmb:mn<bn:=by omega
 have hle:an<mn:=by omega
 clear hP hm hb hu o hD hN hu2 hul;go_enter Tryz.func215,Tryz.ntmps215;go_wp2_with fail;go_loopw [14,15] (fun i j wr=>∃a b:Nat,i=.int .i64 a/\j=.int .i64 b/\an<=a/\a<=b/\b<=mn/\Hid ((an<a->∀y,u[a-1-an]? =some y->dx c e y=false)/\(∀y,u[b-an]? =some y->dx c e y=true))/\Hid (aC [g] w wr/\Data enc c K (.pointer (some ca)) g N wr (p++(u++[e])++s))) (fun i j _=>(intOf j).toNat-(intOf i).toNat)
 case atStart=>exact⟨an,mn,rfl,rfl,nlr _,by omega,nlr _,⟨fun h=>absurd h (by omega),fun y hy=>by rw[List.getElem?_eq_none (by have:=HM.out;omega)]at hy;cases hy⟩,aC.refl _ _,HD.out⟩
 case round=>
  obtain⟨a,b,rfl,rfl,ha,hab,hbb,HA,HW⟩:=hrel;by_cases hlt:a<b
  · have hhm:an<=(a+b)/2:=by omega
    have hhb:(a+b)/2<mn:=by omega
    have hhv:(a+b)/2-an<u.length:=by have:=HM.out;omega
    generalize hh:(a+b)/2=h at*;have HH:=hd hh
    have hhN:h<N:=by omega
    have i1:(h:Int)<(N:Int):=by omega
    have i2:(mn:Int)<(N:Int):=by omega
    have i3:(0:Int)<=(h:Int):=by omega
    have i4:(0:Int)<=(mn:Int):=by omega
    have hii:((a:Int)+(b:Int))/2=(h:Int):=by omega
    obtain⟨q1,q2,q3,q4,q5,q6,r1,r2,r3,r4,r5,r6,a0,a1,b0,b1,hc⟩:=HW.out.2.pair mn h (by rw[<-HW.out.2.len];exact ha0) (by rw[<-HW.out.2.len];exact hhN)
    have g1:(p++(u++[e])++s)[h]'(by rw[<-HW.out.2.len];exact hhN)=u[h-an]:=by
     have hp:=HP.out;have hm:=HM.out;rw[List.getElem_append_left (by simp;omega),List.getElem_append_right (by omega),List.getElem_append_left (by omega)]
     congr 1
     omega
    have g2:(p++(u++[e])++s)[mn]'(by rw[<-HW.out.2.len];exact ha0)=e:=by
     have hp:=HP.out;have hm:=HM.out;rw[List.getElem_append_left (by simp;omega),List.getElem_append_right (by omega),List.getElem_append_right (by omega)];simp
    rw[g1,g2]at hc;have HC:=hd hc;have hgl:=HW.out.2.lies.lt;have HYE:Hid (u[h-an]? =some u[h-an]):=List.getElem?_eq_getElem hhv;generalize u[h-an]=y at*;clear hc g1 g2 hhv hh
    have hcd:c e y<0\/¬c e y<0:=by omega
    generalize hco:c e y=co at*;have HCO:=hd hco;clear hco;rcases hcd with hcd|hcd
    · have hcx:decide (co<0)=true:=by simpa using hcd
      go_wp2_with fail
      go_region_held3 (fun w'=>w'.cell? ⟨g,mn*2,none⟩=some (.slice q1 q2 q3)/\w'.cell? ⟨g,mn*2+1,none⟩=some (.slice q4 q5 q6)/\w'.cell? ⟨g,h*2,none⟩=some (.slice r1 r2 r3)/\w'.cell? ⟨g,h*2+1,none⟩=some (.slice r4 r5 r6)) (go_keep)
        (first
         |(go_at_call 95
           refine(HC.out _ ((aC.refl _ _).drew)).mono ?_;rintro x W1 ⟨rfl,hb1⟩;have c1:=(hb1.cell (p:=⟨g,mn*2,none⟩) hgl).trans a0;have c2:=(hb1.cell (p:=⟨g,mn*2+1,none⟩) hgl).trans a1;have c3:=(hb1.cell (p:=⟨g,h*2,none⟩) hgl).trans b0
           have c4:=(hb1.cell (p:=⟨g,h*2+1,none⟩) hgl).trans b1))
      have HW1:Hid (aC [g] w W1/\Data enc c K (.pointer (some ca)) g N W1 (p++(u++[e])++s)):=
       ⟨HW.out.1.trans (aC.of (F:=[g]) hb1).eF (fun _ h=> .inl h),HW.out.2.next (aC.of (F:=[g]) hb1).eF (HW.out.2.lies.drew.below hb1) (List.Perm.refl _)⟩
      clear a0 a1 b0 b1 c1 c2 c3 c4 hb1;go_wp2_with fail;go_roundw
      case rel=>
       refine⟨a,h,rfl,rfl,ha,by have:=HH.out;omega,by omega,⟨HA.out.1,fun z hz=> ?_⟩,HW1⟩;rw[HYE.out]at hz;injection hz with hz;subst hz;unfold dx;rw[HCO.out];exact hcx
      case measure=>have:=HH.out;simp[intOf];omega
    have hcx:decide (co<0)=false:=by simpa using hcd
    go_wp2_with fail
    go_region_held3 (fun w'=>w'.cell? ⟨g,mn*2,none⟩=some (.slice q1 q2 q3)/\w'.cell? ⟨g,mn*2+1,none⟩=some (.slice q4 q5 q6)/\w'.cell? ⟨g,h*2,none⟩=some (.slice r1 r2 r3)/\w'.cell? ⟨g,h*2+1,none⟩=some (.slice r4 r5 r6)) (go_keep)
      (first
       |(go_at_call 95
         refine(HC.out _ ((aC.refl _ _).drew)).mono ?_;rintro x W1 ⟨rfl,hb1⟩;have c1:=(hb1.cell (p:=⟨g,mn*2,none⟩) hgl).trans a0;have c2:=(hb1.cell (p:=⟨g,mn*2+1,none⟩) hgl).trans a1;have c3:=(hb1.cell (p:=⟨g,h*2,none⟩) hgl).trans b0
         have c4:=(hb1.cell (p:=⟨g,h*2+1,none⟩) hgl).trans b1))
    have HW1:Hid (aC [g] w W1/\Data enc c K (.pointer (some ca)) g N W1 (p++(u++[e])++s)):=
     ⟨HW.out.1.trans (aC.of (F:=[g]) hb1).eF (fun _ h=> .inl h),HW.out.2.next (aC.of (F:=[g]) hb1).eF (HW.out.2.lies.drew.below hb1) (List.Perm.refl _)⟩
    clear a0 a1 b0 b1 c1 c2 c3 c4 hb1;go_wp2_with fail;go_roundw
    case rel=>
     refine⟨h+1,b,by go_num,rfl,by omega,by have:=HH.out;omega,hbb,⟨fun _ z hz=> ?_,HA.out.2⟩,HW1⟩;rw[show h+1-1-an=h-an by omega,HYE.out]at hz;injection hz with hz;subst hz;unfold dx;rw[HCO.out];exact hcx
    case measure=>have:=HH.out;simp[intOf];omega
  obtain rfl:b=a:=by omega
  obtain⟨t,ht⟩:∃t,b=an+t:=⟨b-an,by omega⟩
  have htv:t<=u.length:=by have:=HM.out;omega
  have HT:=hd ht;have HTV:=hd htv;have HX:=hd (JS HO.out HV.out (e:=e) (t:=t) htv (fun h=>HA.out.1 (by omega) _ (by rw[show b-1-an=t-1 by omega];exact List.getElem?_eq_getElem (by omega))) (fun h=>HA.out.2 _ (by rw[show b-an=t by omega];exact List.getElem?_eq_getElem h)))
  have HW0:Hid (aC [g] w wr/\Data enc c K (.pointer (some ca)) g N wr (p++(u.take (mn-an)++e::u.drop (mn-an))++s)):=by
   rw[show mn-an=u.length by have:=HM.out;omega];simpa using HW
  clear ht htv HA HW hlt;go_wp2_with fail;go_loopw [17] (fun k wr=>∃kn:Nat,k=.int .i64 kn/\b<=kn/\kn<=mn/\Hid (aC [g] w wr/\Data enc c K (.pointer (some ca)) g N wr (p++(u.take (kn-an)++e::u.drop (kn-an))++s))) (fun k _=>(intOf k).toNat)
  case atStart=>exact⟨mn,rfl,by omega,nlr _,HW0⟩
  case round=>
   obtain⟨kn,rfl,hk1,hk2,HW⟩:=hrel;by_cases hkz:b<kn
   · obtain⟨k1,CG⟩:∃k1,kn=k1+1:=⟨kn-1,by omega⟩
     have htl:k1-an<u.length:=by have:=HM.out;omega
     have hkA:an<=k1:=by omega
     have he:p++(u.take (kn-an)++e::u.drop (kn-an))++s=(p++u.take (k1-an))++u[k1-an]::e::(u.drop (kn-an)++s):=by
      rw[show kn-an=k1-an+1 by omega,List.take_succ_eq_append_getElem htl];simp only[laa,List.cons_append,List.nil_append]
     have he2:(p++u.take (k1-an))++e::u[k1-an]::(u.drop (kn-an)++s)=p++(u.take (k1-an)++e::u.drop (k1-an))++s:=by
      rw[show kn-an=k1-an+1 by omega,List.drop_eq_getElem_cons htl];simp only[laa,List.cons_append,List.nil_append]
     have hA:(p++u.take (k1-an)).length=k1:=by have:=HP.out;rw[List.length_append,List.length_take];omega
     have hD1:=HW.out.2;rw[he]at hD1;obtain⟨q1,q2,q3,q4,q5,q6,r1,r2,r3,r4,r5,r6,⟨a0,a1,b0,b1⟩,D1,D2⟩:=hD1.QW hA CG;rw[he2]at D1 D2;have HD1:=hd D1;have HD2:=hd D2;have HK1:=hd CG
     have w1:IntKind.i64.wrap ((kn:Int)-1)=(k1:Int):=by rw[Ej _ (by omega) (by omega)];omega
     have i1:(kn:Int)<(N:Int):=by omega
     have i2:(k1:Int)<(N:Int):=by omega
     have i3:(0:Int)<=(k1:Int):=by omega
     have hkk:k1<kn:=by omega
     have hgl:=hD1.lies.lt;have f0:=hD1.lies.free (kn*2);have f1:=hD1.lies.free (kn*2+1);have f2:=hD1.lies.free (k1*2);have f3:=hD1.lies.free (k1*2+1);clear D1 D2 hD1 hA he he2 htl CG hkA;go_wp2_with fail
     go_region
     all_goals
      go_wp2_with fail;go_roundw
      case rel=>exact⟨k1,by first|rfl|(have:=HK1.out;go_num),by have:=HK1.out;omega,by omega,(FX HW.out.1 _ _ _ _ _ _ _ _).drew,HD2.out.next ((aC.refl _ _).drew) HD2.out.lies.drew (List.Perm.refl _)⟩
      case measure=>have:=HK1.out;simp[intOf];omega
   have hke:kn-an=t:=by have:=HT.out;omega
   rw[hke]at HW;go_wp2_with fail
   go_end0
   exact⟨rfl,HW.out.1,_,HX.out.1,HX.out.2,HW.out.2.lies⟩
end So
end
section
namespace So
open Bt
variable {α:Type}
def kg(c:α->α->Int)(l:List α)(lo hi p a b:Nat):Prop:=
 lo<=a/\a<=b/\b<=hi/\(lo<a->∀x y,l[p-(a-1)]? =some x->l[a-1]? =some y->dx c x y=false)/\(b<hi->∀x y,l[p-b]? =some x->l[b]? =some y->dx c x y=true)
theorem kg.start{c:α->α->Int}{l:List α}(h:lo<=hi):kg c l lo hi p lo hi:=⟨nlr _,h,nlr _,fun h=>absurd h (by omega),fun h=>absurd h (by omega)⟩
theorem kg.less{c:α->α->Int}{l:List α}{a b h ph:Nat}{x y:α}(k:kg c l lo hi pm a b)(h1:a<=h)(h2:h<b)(hp:ph+h=pm)(e1:l[ph]? =some x)(e2:l[h]? =some y)(hc:dx c x y=true):kg c l lo hi pm a h:=by
 obtain⟨k1,k2,k3,k4,k5⟩:=k;refine⟨k1,h1,by omega,k4,fun _ x' y' e1' e2'=> ?_⟩;rw[show pm-h=ph by omega,e1]at e1';rw[e2]at e2';injection e1' with e1';injection e2' with e2';subst e1' e2';exact hc
theorem kg.more{c:α->α->Int}{l:List α}{a b h ph:Nat}{x y:α}(k:kg c l lo hi pm a b)(h1:a<=h)(h2:h<b)(hp:ph+h=pm)(e1:l[ph]? =some x)(e2:l[h]? =some y)(hc:dx c x y=false):kg c l lo hi pm (h+1) b:=by
 obtain⟨k1,k2,k3,k4,k5⟩:=k;refine⟨by omega,by omega,k3,fun _ x' y' e1' e2'=> ?_,k5⟩;rw[show pm-(h+1-1)=ph by omega,e1]at e1';rw[show h+1-1=h by omega,e2]at e2';injection e1' with e1';injection e2' with e2';subst e1' e2';exact hc
theorem Ob{p u v s:List α}{an:Nat}(hP:p.length=an)(hk:k<u.length):(p++(u++v)++s)[an+k]? =some u[k]:=by
 subst hP;rw[laa,List.getElem?_append_right (by omega),laa,List.getElem?_append_left (by omega),Nat.add_sub_cancel_left];exact List.getElem?_eq_getElem hk
theorem Oi{p u v s:List α}{mn:Nat}(hP:mn=p.length+u.length)(hk:k<v.length):(p++(u++v)++s)[mn+k]? =some v[k]:=by
 subst hP;rw[laa,List.getElem?_append_right (by omega),laa,List.getElem?_append_right (by omega),List.getElem?_append_left (by omega),show p.length+u.length+k-p.length-u.length=k by omega];exact List.getElem?_eq_getElem hk
theorem kg.ab{c:α->α->Int}{p u v s:List α}{st an mn nn i j:Nat}(k:kg c (p++(u++v)++s) lo hi pm st st)(hP:p.length=an)(hm:mn=an+u.length)(hn:pm+1=nn)(hi':an+i=st)(hj':mn+j+st=nn)
   (hlo:lo=an\/lo+(mn+v.length)=nn) (hhi:hi=mn\/hi+mn=nn) (h8:i<=u.length) (h9:j<=v.length):
   i<=u.length/\j<=v.length/\(∀(h1:0<i) (h2:j<v.length),dx c v[j] (u[i-1]'(by omega))=false)/\(∀(h1:i<u.length) (h2:0<j),dx c (v[j-1]'(by omega)) u[i]=true):=by
 obtain⟨k1,k2,k3,k4,k5⟩:=k;refine⟨h8,h9,fun h1 h2=> ?_,fun h1 h2=> ?_⟩
 · refine k4 (by omega) _ _ ?_ ?_
   · rw[show pm-(st-1)=mn+j by omega];exact Oi (by omega) h2
   rw[show st-1=an+(i-1) by omega];exact Ob hP (by omega)
 refine k5 (by omega) _ _ ?_ ?_
 · rw[show pm-st=mn+(j-1) by omega];exact Oi (by omega) (by omega)
 rw[<-hi'];exact Ob hP h1
end So
end
section
namespace So
open Bt
variable {α:Type}
def BK(enc:α->Value×Value)(c:α->α->Int)(K:α->Prop)(g N cap:Nat)(ca:Addr)(n:Nat):Prop:=
 ∀(p u v s:List α) (an mn bn:Nat),p.length=an->mn=an+u.length->bn=mn+v.length->0<u.length->0<v.length->u.length+v.length<n->cK (dx c) u->cK (dx c) v->∀w,Data enc c K (.pointer (some ca)) g N w (p++(u++v)++s)->
   Calls Tryz.prog 215 #[.slice (some ⟨g,0,none⟩) N cap,.int .i64 an,.int .i64 mn,.int .i64 bn,.func (.func 95) #[] #[.pointer (some ca)]] w (Merged enc c g w p u v s)
structure PM(c:α->α->Int)(u v:List α)(an mn bn md st en i j:Nat):Prop where
 iu:i<=u.length
 jv:j<=v.length
 A:∀(h1:0<i) (h2:j<v.length),dx c v[j] (u[i-1]'(by omega))=false
 B:∀(h1:i<u.length) (h2:0<j),dx c (v[j-1]'(by omega)) u[i]=true
 ar:an+i=st/\mn+j=en/\st+en=md+mn/\an+u.length=mn/\mn+v.length=bn/\2*md<=an+bn/\an+bn<2*md+2/\2<=u.length/\2<=v.length
theorem Dl(enc:α->Value×Value)(c:α->α->Int)(K:α->Prop)(o:nQ (dx c))(p u v s:List α)(an mn bn:Nat)(hP:p.length=an)(hm:mn=an+u.length)(hb:bn=mn+v.length)(hu2:2<=u.length)(hv2:2<=v.length)(hu:cK (dx c) u)(hv:cK (dx c) v)(g N cap:Nat)(ca:Addr)(w:World)(hD:Data enc c K (.pointer (some ca)) g N w (p++(u++v)++s))(ih:BK enc c K g N cap ca (u.length+v.length)):
   Calls Tryz.prog 215 #[.slice (some ⟨g,0,none⟩) N cap,.int .i64 an,.int .i64 mn,.int .i64 bn,.func (.func 95) #[] #[.pointer (some ca)]] w (Merged enc c g w p u v s):=by
 have HP:=hd hP;have HU:=hd hu;have HV:=hd hv;have HO:=hd o;have HD:=hd hD;have IH:=hd ih;have hN:=hD.len;have hNs:=hD.small
 have hbN:bn<=N:=by rw[hN];simp;omega
 obtain⟨ul,hul⟩:∃ul,ul=u.length:=⟨_,rfl⟩;obtain⟨vl,hvl⟩:∃vl,vl=v.length:=⟨_,rfl⟩;obtain⟨md,hmd⟩:∃md,md=(an+bn)/2:=⟨_,rfl⟩;obtain⟨nn,hnn⟩:∃nn,nn=md+mn:=⟨_,rfl⟩;obtain⟨pm,hpm⟩:∃pm,pm+1=nn:=⟨nn-1,by omega⟩
 have hma:(mn:Int)-(an:Int)=(ul:Int):=by omega
 have hu1:((ul:Int)==1)=false:=by simp;omega
 have hbm:(bn:Int)-(mn:Int)=(vl:Int):=by omega
 have hv1:((vl:Int)==1)=false:=by simp;omega
 have hmid:((an:Int)+(bn:Int))/2=(md:Int):=by omega
 have hnI:(md:Int)+(mn:Int)=(nn:Int):=by omega
 have hpI:(nn:Int)-1=(pm:Int):=by omega
 have HF0:Hid (mn=an+u.length/\bn=mn+v.length/\2*md<=an+bn/\an+bn<2*md+2/\nn=md+mn/\pm+1=nn/\bn<=N/\2<=u.length/\2<=v.length):=by refine⟨hm,hb,?_,?_,hnn,hpm,hbN,hu2,hv2⟩<;>omega
 have hanN:an<=N:=by omega
 have hmnN:mn<=N:=by omega
 have hmdN:md<=N:=by omega
 clear hP hm hb hu hv o hD hN hu2 hv2 hul hvl hmd hnn hpm ih;go_enter Tryz.func215,Tryz.ntmps215
 go_upto_if 140 with fail
 go_cut[20,21]from 138 (fun s20 s21 wc=>∃lo hi:Nat,s20=.int .i64 lo/\s21=.int .i64 hi/\Hid (lo<=hi/\((lo=an/\hi=mn/\mn<=md)\/(lo+bn=nn/\hi=md/\md<mn)))/\w=wc)
 case first=>
  by_cases hgt:md<mn
  · obtain⟨lo,hlo⟩:∃lo,lo+bn=nn:=⟨nn-bn,by have:=HF0.out;omega⟩
    have hloI:(nn:Int)-(bn:Int)=(lo:Int):=by omega
    have HLO:=hd hlo;clear hlo;go_wp2_with fail;go_meet;exact⟨lo,md,rfl,rfl,⟨by have:=HF0.out;have:=HLO.out;omega,.inr ⟨HLO.out,rfl,hgt⟩⟩,rfl⟩
  go_wp2_with fail;go_meet;exact⟨an,mn,rfl,rfl,⟨by have:=HF0.out;omega,.inl ⟨rfl,rfl,by omega⟩⟩,rfl⟩
 case rest=>
  obtain⟨lo,hi,rfl,rfl,HLH,rfl⟩:=hcut;have Ma:=HLH.out.1;go_wp2_with fail;go_loopw [20,21] (fun i j wr=>∃a b:Nat,i=.int .i64 a/\j=.int .i64 b/\lo<=a/\a<=b/\b<=hi/\Hid (kg c (p++(u++v)++s) lo hi pm a b)/\Hid (aC [g] w wr/\Data enc c K (.pointer (some ca)) g N wr (p++(u++v)++s))) (fun i j _=>(intOf j).toNat-(intOf i).toNat)
  case atStart=>exact⟨lo,hi,rfl,rfl,nlr _,Ma,nlr _,kg.start Ma,aC.refl _ _,HD.out⟩
  case round=>
   obtain⟨a,b,rfl,rfl,ha,hab,hbb,HA,HW⟩:=hrel;by_cases hlt:a<b
   · obtain⟨h,hh⟩:∃h,h=(a+b)/2:=⟨_,rfl⟩
     have hh1:lo<=h:=by omega
     have hh2:h<hi:=by omega
     obtain⟨ph,hph⟩:∃ph,ph+h=pm:=⟨pm-h,by have:=HF0.out;have:=HLH.out;omega⟩
     have MB:ph<N:=by have:=HF0.out;have:=HLH.out;omega
     have hhN:h<N:=by have:=HF0.out;have:=HLH.out;omega
     have i1:(h:Int)<(N:Int):=by omega
     have i2:(ph:Int)<(N:Int):=by omega
     have i3:(0:Int)<=(h:Int):=by omega
     have i4:(0:Int)<=(ph:Int):=by omega
     have hii:((a:Int)+(b:Int))/2=(h:Int):=by omega
     have w1:IntKind.i64.wrap ((pm:Int)-(h:Int))=(ph:Int):=by rw[show(pm:Int)-(h:Int)=(ph:Int) by omega];exact Ej _ (by omega) (by omega)
     obtain⟨q1,q2,q3,q4,q5,q6,r1,r2,r3,r4,r5,r6,a0,a1,b0,b1,hc⟩:=HW.out.2.pair ph h (by rw[<-HW.out.2.len];exact MB) (by rw[<-HW.out.2.len];exact hhN);have HY1:Hid ((p++(u++v)++s)[ph]? =some ((p++(u++v)++s)[ph]'(by rw[<-HW.out.2.len];exact MB))):=List.getElem?_eq_getElem _;have HY2:Hid ((p++(u++v)++s)[h]? =some ((p++(u++v)++s)[h]'(by rw[<-HW.out.2.len];exact hhN))):=List.getElem?_eq_getElem _;generalize (p++(u++v)++s)[ph]'(by rw[<-HW.out.2.len];exact MB)=yp at*;generalize (p++(u++v)++s)[h]'(by rw[<-HW.out.2.len];exact hhN)=yh at*;have HC:=hd hc;have hgl:=HW.out.2.lies.lt;have HH:=hd hh;have HPH:=hd hph;clear hc hh hph
     have hcd:c yp yh<0\/¬c yp yh<0:=by omega
     generalize hco:c yp yh=co at*;have HCO:=hd hco;clear hco;rcases hcd with hcd|hcd
     · have hcx:decide (co<0)=true:=by simpa using hcd
       go_wp2_with fail
       go_region_held3 (fun w'=>w'.cell? ⟨g,ph*2,none⟩=some (.slice q1 q2 q3)/\w'.cell? ⟨g,ph*2+1,none⟩=some (.slice q4 q5 q6)/\w'.cell? ⟨g,h*2,none⟩=some (.slice r1 r2 r3)/\w'.cell? ⟨g,h*2+1,none⟩=some (.slice r4 r5 r6)) (go_keep)
         (first
          |(go_at_call 95
            refine(HC.out _ ((aC.refl _ _).drew)).mono ?_;rintro x W1 ⟨rfl,hb1⟩;have c1:=(hb1.cell (p:=⟨g,ph*2,none⟩) hgl).trans a0;have c2:=(hb1.cell (p:=⟨g,ph*2+1,none⟩) hgl).trans a1;have c3:=(hb1.cell (p:=⟨g,h*2,none⟩) hgl).trans b0
            have c4:=(hb1.cell (p:=⟨g,h*2+1,none⟩) hgl).trans b1))
       have HW1:Hid (aC [g] w W1/\Data enc c K (.pointer (some ca)) g N W1 (p++(u++v)++s)):=
        ⟨HW.out.1.trans (aC.of (F:=[g]) hb1).eF (fun _ h=> .inl h),HW.out.2.next (aC.of (F:=[g]) hb1).eF (HW.out.2.lies.drew.below hb1) (List.Perm.refl _)⟩
       clear a0 a1 b0 b1 c1 c2 c3 c4 hb1;go_wp2_with fail;go_roundw
       case rel=>exact⟨a,h,rfl,rfl,ha,by have:=HH.out;omega,by omega,HA.out.less (by have:=HH.out;omega) (by have:=HH.out;omega) HPH.out HY1.out HY2.out (by unfold dx;rw[HCO.out];exact hcx),HW1⟩
       case measure=>have:=HH.out;simp[intOf];omega
     have hcx:decide (co<0)=false:=by simpa using hcd
     go_wp2_with fail
     go_region_held3 (fun w'=>w'.cell? ⟨g,ph*2,none⟩=some (.slice q1 q2 q3)/\w'.cell? ⟨g,ph*2+1,none⟩=some (.slice q4 q5 q6)/\w'.cell? ⟨g,h*2,none⟩=some (.slice r1 r2 r3)/\w'.cell? ⟨g,h*2+1,none⟩=some (.slice r4 r5 r6)) (go_keep)
       (first
        |(go_at_call 95
          refine(HC.out _ ((aC.refl _ _).drew)).mono ?_;rintro x W1 ⟨rfl,hb1⟩;have c1:=(hb1.cell (p:=⟨g,ph*2,none⟩) hgl).trans a0;have c2:=(hb1.cell (p:=⟨g,ph*2+1,none⟩) hgl).trans a1;have c3:=(hb1.cell (p:=⟨g,h*2,none⟩) hgl).trans b0
          have c4:=(hb1.cell (p:=⟨g,h*2+1,none⟩) hgl).trans b1))
     have HW1:Hid (aC [g] w W1/\Data enc c K (.pointer (some ca)) g N W1 (p++(u++v)++s)):=
      ⟨HW.out.1.trans (aC.of (F:=[g]) hb1).eF (fun _ h=> .inl h),HW.out.2.next (aC.of (F:=[g]) hb1).eF (HW.out.2.lies.drew.below hb1) (List.Perm.refl _)⟩
     clear a0 a1 b0 b1 c1 c2 c3 c4 hb1;go_wp2_with fail;go_roundw
     case rel=>exact⟨h+1,b,by go_num,rfl,by omega,by have:=HH.out;omega,hbb,HA.out.more (by have:=HH.out;omega) (by have:=HH.out;omega) HPH.out HY1.out HY2.out (by unfold dx;rw[HCO.out];exact hcx),HW1⟩
     case measure=>have:=HH.out;simp[intOf];omega
   obtain rfl:b=a:=by omega
   obtain⟨en,hen⟩:∃en,en+b=nn:=⟨nn-b,by have:=HF0.out;have:=HLH.out;omega⟩;obtain⟨i,hi'⟩:∃i,an+i=b:=⟨b-an,by have:=HF0.out;have:=HLH.out;omega⟩;obtain⟨j,hj⟩:∃j,mn+j=en:=⟨en-mn,by have:=HF0.out;have:=HLH.out;omega⟩
   have e1:(nn:Int)-(b:Int)=(en:Int):=by omega
   have HF:Hid (PM c u v an mn bn md b en i j):=by
    have h0:=HF0.out;have h1:=HLH.out;have hq:=HA.out.ab (p:=p) (u:=u) (v:=v) (s:=s) (an:=an) (mn:=mn) (nn:=nn) (i:=i) (j:=j) HP.out h0.1 (by omega) hi' (by omega) (by omega) (by omega) (by omega) (by omega);exact⟨hq.1,hq.2.1,hq.2.2.1,hq.2.2.2,hi',hj,by omega,by omega,by omega,by omega,by omega,by omega,by omega⟩
   have hbN2:b<=N:=by have:=HF0.out;have:=HLH.out;omega
   have henN:en<=N:=by have:=HF0.out;have:=HLH.out;omega
   clear hi' hj hen HA hlt HF0 HLH
   go_upto_region 39 with fail
   go_cut[185]from 178 (fun QI wc=>QI=.bool (decide (b<mn)&&decide (mn<en))/\wr=wc)
   case first=>
    by_cases hr:b<mn
    · have t1:decide (b<mn)=true:=decide_eq_true hr;go_wp2_with fail;go_meet;exact⟨by simp[t1],rfl⟩
    have t1:decide (b<mn)=false:=decide_eq_false hr;go_wp2_with fail;go_meet;exact⟨by simp[t1],rfl⟩
   case rest=>
    obtain⟨rfl,rfl⟩:=hcut
    go_upto_if 185 with fail
    go_cut[]from 178 (fun wc=>Hid (aC [g] w wc/\Data enc c K (.pointer (some ca)) g N wc (p++(u.take i++v.take j)++(u.drop i++v.drop j++s))))
    case first=>
     have hF:=HF.out.ar;have hFi:=HF.out.iu;have hFj:=HF.out.jv;have HFA:=hd hF;by_cases hr:b<mn/\mn<en
     · have t1:(decide (b<mn)&&decide (mn<en))=true:=by simp[hr.1,hr.2]
       clear hF;go_wp2_with fail;have hF:=HFA.out;have hD:=HW.out.2
       have he:(p++(u++v)++s)=(p++u.take i)++u.drop i++v.take j++(v.drop j++s):=by
        conv=>lhs;rw[<-List.take_append_drop i u,<-List.take_append_drop j v]
        simp only[laa]
       rw[he]at hD
       refine(Dq ((p++u.take i).map enc) ((u.drop i).map enc) ((v.take j).map enc) ((v.drop j++s).map enc) b mn en (by have:=HP.out;simp;omega) (by simp;omega) (by simp;omega) (by intro h;have:=congrArg List.length h;simp only[List.length_map,List.length_drop,List.length_nil]at this;omega) (by intro h;have:=congrArg List.length h;simp only[List.length_map,List.length_take,List.length_nil]at this;omega) g N cap _ _ (by have:=hD.lies;simpa only[List.map_append,laa]using this) (by rw[hD.len];simp only[List.length_append,List.length_map]) hD.small (by
        intro z hz;simp only[<-List.map_append]at hz;obtain⟨a,ha,rfl⟩:=List.mem_map.1 hz
        exact hD.two a (hD.ok a ha))).mono ?_
       rintro z w3 ⟨rfl,ht3,hl3⟩
       have HR1:Hid (aC [g] w w3/\Data enc c K (.pointer (some ca)) g N w3 (p++(u.take i++v.take j)++(u.drop i++v.drop j++s))):=⟨HW.out.1.trans ht3 (fun _ h=> .inl h),by
        refine hD.next ht3 (by simpa only[List.map_append,laa]using hl3) ?_;simp only[laa];refine List.Perm.append_left _ (List.Perm.append_left _ ?_);simp only[<-laa]
        exact(List.perm_append_comm.append_right _).append_right _⟩
       clear hF hD he ht3 hl3 HW;go_wp2_with fail;go_meet;exact HR1
     have t1:(decide (b<mn)&&decide (mn<en))=false:=by rw[<-Bool.not_eq_true];simpa using hr
     have HR1:Hid (aC [g] w wr/\Data enc c K (.pointer (some ca)) g N wr (p++(u.take i++v.take j)++(u.drop i++v.drop j++s))):=⟨HW.out.1,by
      have hD:=HW.out.2
      have he:u++v=u.take i++v.take j++(u.drop i++v.drop j):=by
       rcases(show u.length<=i\/j=0 by omega)with h|h
       · rw[List.take_of_length_le h,List.drop_of_length_le h,List.nil_append,laa,List.take_append_drop]
       subst h;simp only[List.take_zero,List.drop_zero,List.append_nil];rw[<-laa,List.take_append_drop]
      rw[he]at hD
      simpa only[laa]using hD⟩
     clear HW hF;go_wp2_with fail;go_meet;exact HR1
    case rest=>
     have HR1:=hcut;clear hcut
     go_upto_region 41 with fail
     go_cut[199]from 192 (fun QC wd=>QC=.bool (decide (an<b)&&decide (b<md))/\wc=wd)
     case first=>
      by_cases hr:an<b
      · have t1:decide (an<b)=true:=decide_eq_true hr;go_wp2_with fail;go_meet;exact⟨by simp[t1],rfl⟩
      have t1:decide (an<b)=false:=decide_eq_false hr;go_wp2_with fail;go_meet;exact⟨by simp[t1],rfl⟩
     case rest=>
      obtain⟨rfl,rfl⟩:=hcut
      go_upto_if 199 with fail
      go_cut[]from 192 (fun we=>∃x,Hid (cK (dx c) x/\dF (dx c) (u.take i++v.take j) x/\aC [g] w we/\Data enc c K (.pointer (some ca)) g N we (p++x++(u.drop i++v.drop j)++s)))
      case first=>
       have HFA:=hd HF.out.ar;have hFi:=HF.out.iu;have hFj:=HF.out.jv;by_cases hr:an<b/\b<md
       · have t1:(decide (an<b)&&decide (b<md))=true:=by simp[hr.1,hr.2]
         go_wp2_with fail;have hF:=HFA.out;refine(IH.out p (u.take i) (v.take j) (u.drop i++v.drop j++s) an b md HP.out (by simp;omega) (by simp;omega) (by simp;omega) (by simp;omega) (by simp;omega) (HU.out.take _) (HV.out.take _) _ HR1.out.2).mono ?_;rintro z w4 ⟨rfl,ht4,x,hx1,hx2,hx3⟩
         have HX3:Hid (cK (dx c) x/\dF (dx c) (u.take i++v.take j) x/\aC [g] w w4/\Data enc c K (.pointer (some ca)) g N w4 (p++x++(u.drop i++v.drop j)++s)):=⟨hx1,hx2,HR1.out.1.trans ht4 (fun _ h=> .inl h),by
          refine HR1.out.2.next ht4 (by simpa only[laa]using hx3) ?_;simp only[laa];refine List.Perm.append_left _ ?_;have:=hx2.perm.append_right (u.drop i++(v.drop j++s))
          simpa only[laa]using this⟩
         clear hx1 hx2 hx3 ht4 hF;go_wp2_with fail;go_meet;exact⟨x,HX3⟩
       have t1:(decide (an<b)&&decide (b<md))=false:=by rw[<-Bool.not_eq_true];simpa using hr
       have HX3:Hid (cK (dx c) (u.take i++v.take j)/\dF (dx c) (u.take i++v.take j) (u.take i++v.take j)/\aC [g] w wc/\Data enc c K (.pointer (some ca)) g N wc (p++(u.take i++v.take j)++(u.drop i++v.drop j)++s)):=by
        have hF:=HFA.out;refine⟨?_,dF.refl _ _,HR1.out.1,?_⟩
        · rcases(show i=0\/j=0 by omega)with h|h
          · subst h;simpa using HV.out.take j
          subst h;simpa using HU.out.take i
        have:=HR1.out.2;simpa only[laa]using this
       go_wp2_with fail;go_meet;exact⟨_,HX3⟩
      case rest=>
       obtain⟨x,HX3⟩:=hcut
       go_upto_region 43 with fail
       go_cut[213]from 206 (fun QM wf=>QM=.bool (decide (md<en)&&decide (en<bn))/\wc=wf)
       case first=>
        by_cases hr:md<en
        · have t1:decide (md<en)=true:=decide_eq_true hr;go_wp2_with fail;go_meet;exact⟨by simp[t1],rfl⟩
        have t1:decide (md<en)=false:=decide_eq_false hr;go_wp2_with fail;go_meet;exact⟨by simp[t1],rfl⟩
       case rest=>
        obtain⟨rfl,rfl⟩:=hcut;have HFA:=hd HF.out.ar;have hFi:=HF.out.iu;have hFj:=HF.out.jv;by_cases hr:md<en/\en<bn
        · have t1:(decide (md<en)&&decide (en<bn))=true:=by simp[hr.1,hr.2]
          go_wp2_with fail;have hF:=HFA.out;obtain⟨hx1,hx2,hx3,hx4⟩:=HX3.out;refine(IH.out (p++x) (u.drop i) (v.drop j) s md en bn (by have h1:=hx2.len;have h2:=HP.out;simp at h1⊢;omega) (by simp;omega) (by simp;omega) (by simp;omega) (by simp;omega) (by simp;omega) (HU.out.drop _) (HV.out.drop _) _ hx4).mono ?_;rintro z w5 ⟨rfl,ht5,y,hy1,hy2,hy3⟩;have HM5:=hd (merged HO.out HU.out HV.out HF.out.iu HF.out.jv HF.out.A HF.out.B hx1 hx2 hy1 hy2);have HL5:Hid (aC [g] w w5/\bR 195 w5 g ((p++(x++y)++s).map enc)):=⟨hx3.trans ht5 (fun _ h=> .inl h),by simpa only[laa]using hy3⟩;clear hx1 hx2 hx3 hx4 hy1 hy2 hy3 ht5 hF;go_wp2_with fail
          go_end0
          exact⟨rfl,HL5.out.1,_,HM5.out.1,HM5.out.2,HL5.out.2⟩
        have t1:(decide (md<en)&&decide (en<bn))=false:=by rw[<-Bool.not_eq_true];simpa using hr
        have HM5:Hid (cK (dx c) (x++(u.drop i++v.drop j))/\dF (dx c) (u++v) (x++(u.drop i++v.drop j))):=by
         obtain⟨hx1,hx2,hx3,hx4⟩:=HX3.out;have hF:=HFA.out;refine merged HO.out HU.out HV.out HF.out.iu HF.out.jv HF.out.A HF.out.B hx1 hx2 ?_ (dF.refl _ _);rcases(show u.length<=i\/v.length<=j by omega)with h|h
         · rw[List.drop_of_length_le h];exact HV.out.drop _
         rw[List.drop_of_length_le h,List.append_nil];exact HU.out.drop _
        go_wp2_with fail
        go_end0
        exact⟨rfl,HX3.out.2.2.1,_,HM5.out.1,HM5.out.2,by have:=HX3.out.2.2.2.lies;simpa only[laa]using this⟩
end So
end
section
namespace So
open Bt
variable {α:Type}
theorem D7{l:List α}(h:l.length=1):∃e,l=[e]:=by
 match l,h with
 |[e],_=>exact⟨e,rfl⟩
theorem Fe(enc:α->Value×Value)(c:α->α->Int)(K:α->Prop)(o:nQ (dx c))(g N cap:Nat)(ca:Addr):∀n,BK enc c K g N cap ca n:=by
 intro n
 induction n with
 |zero=>intro p u v s an mn bn _ _ _ _ _ h;omega
 |succ n ih=>
  intro p u v s an mn bn hP hm hb hu0 hv0 hn hu hv w hD;by_cases h1:u.length=1
  · obtain⟨e,rfl⟩:=D7 h1;exact AZ enc c K o p v s e an mn bn hP (by simpa using hm) hb hv0 hv g N cap ca w hD
  by_cases h2:v.length=1
  · obtain⟨e,rfl⟩:=D7 h2;exact Cz enc c K o p u s e an mn bn hP hm (by simpa using hb) (by omega) hu g N cap ca w hD
  exact Dl enc c K o p u v s an mn bn hP hm hb (by omega) (by omega) hu hv g N cap ca w hD (fun p' u' v' s' an' mn' bn' a1 a2 a3 a4 a5 a6=>ih p' u' v' s' an' mn' bn' a1 a2 a3 a4 a5 (by omega))
theorem parts(l:List α)(a n m:Nat):l=l.take a++((l.drop a).take n++(l.drop (a+n)).take m)++l.drop (a+n+m):=by
 have h1:(l.drop (a+n)).take m++l.drop (a+n+m)=l.drop (a+n):=by
  rw[show l.drop (a+n+m)=(l.drop (a+n)).drop m by rw[List.drop_drop]];exact List.take_append_drop _ _
 have h2:(l.drop a).take n++l.drop (a+n)=l.drop a:=by
  rw[<-List.drop_drop];exact List.take_append_drop _ _
 rw[laa,laa,h1,h2,List.take_append_drop]
theorem yJ(l:List α)(a n:Nat):l=l.take a++(l.drop a).take n++l.drop (a+n):=by
 have h2:(l.drop a).take n++l.drop (a+n)=l.drop a:=by
  rw[<-List.drop_drop];exact List.take_append_drop _ _
 rw[laa,h2,List.take_append_drop]
theorem take_at(P X S:List α)(n:Nat)(h:n=P.length+X.length):(P++X++S).take n=P++X:=by
 rw[h,<-List.length_append,List.take_left']
 rfl
theorem Jz(P X S:List α)(n:Nat)(h:n=P.length+X.length):(P++X++S).drop n=S:=by
 rw[h,<-List.length_append,List.drop_left']
 rfl
theorem Im{lt:α->α->Bool}{l0 l X:List α}(hb:0<bs)(hs:dF lt l0 l)(hB:BS lt bs (l.take (bs*k)))(hl:bs*k+bs<=l.length)(hX:cK lt X)(sX:dF lt ((l.drop (bs*k)).take bs) X):
   dF lt l0 (l.take (bs*k)++X++l.drop (bs*k+bs))/\BS lt bs ((l.take (bs*k)++X++l.drop (bs*k+bs)).take (bs*(k+1))):=by
 have hlen:X.length=bs:=by rw[sX.len,List.length_take,List.length_drop];omega
 constructor
 · refine hs.trans ?_
   conv=>lhs;rw[yJ l (bs*k) bs]
   exact((dF.refl _ _).app sX).app (dF.refl _ _)
 rw[take_at _ _ _ _ (by rw[List.length_take,hlen,Nat.mul_succ];omega)];exact hB.app (k:=k) hb (by rw[List.length_take];omega) hX (by omega)
theorem Hf{lt:α->α->Bool}{l0 l X:List α}(hb:0<bs)(hs:dF lt l0 l)(hB:BS lt bs (l.take (bs*k)))(h1:bs*k<=l.length)(hl:l.length<bs*k+bs)(hX:cK lt X)(sX:dF lt (l.drop (bs*k)) X):
   dF lt l0 (l.take (bs*k)++X)/\BS lt bs (l.take (bs*k)++X):=by
 have hlen:X.length=l.length-bs*k:=by rw[sX.len,List.length_drop]
 constructor
 · refine hs.trans ?_
   conv=>lhs;rw[<-List.take_append_drop (bs*k) l]
   exact(dF.refl _ _).app sX
 exact hB.app (k:=k) hb (by rw[List.length_take];omega) hX (by omega)
theorem G8{lt:α->α->Bool}{l0 l X:List α}(hb:0<bs)(hs:dF lt l0 l)(hB:BS lt (2*bs) (l.take (2*bs*k)))(hR:BS lt bs (l.drop (2*bs*k)))(hl:2*bs*k+bs+bs<=l.length)(hX:cK lt X)(sX:dF lt ((l.drop (2*bs*k)).take bs++(l.drop (2*bs*k+bs)).take bs) X):
   dF lt l0 (l.take (2*bs*k)++X++l.drop (2*bs*k+bs+bs))/\BS lt (2*bs) ((l.take (2*bs*k)++X++l.drop (2*bs*k+bs+bs)).take (2*bs*(k+1)))/\BS lt bs ((l.take (2*bs*k)++X++l.drop (2*bs*k+bs+bs)).drop (2*bs*(k+1))):=by
 have hlen:X.length=bs+bs:=by rw[sX.len];simp only[List.length_append,List.length_take,List.length_drop];omega
 have hk:2*bs*(k+1)=2*bs*k+2*bs:=Nat.mul_succ _ _;refine⟨?_,?_,?_⟩
 · refine hs.trans ?_
   conv=>lhs;rw[parts l (2*bs*k) bs bs]
   exact((dF.refl _ _).app sX).app (dF.refl _ _)
 · rw[take_at _ _ _ _ (by rw[List.length_take,hlen];omega)];exact hB.app (k:=k) (by omega) (by rw[List.length_take];omega) hX (by omega)
 rw[Jz _ _ _ _ (by rw[List.length_take,hlen];omega)];have:=(hR.drop hb).drop hb
 rwa [List.drop_drop,List.drop_drop,<-Nat.add_assoc]at this
theorem Jr{lt:α->α->Bool}{l0 l X:List α}(hb:0<bs)(hs:dF lt l0 l)(hB:BS lt (2*bs) (l.take (2*bs*k)))(h1:2*bs*k+bs<l.length)(hl:l.length<2*bs*k+2*bs)(hX:cK lt X)(sX:dF lt ((l.drop (2*bs*k)).take bs++l.drop (2*bs*k+bs)) X):
   dF lt l0 (l.take (2*bs*k)++X)/\BS lt (2*bs) (l.take (2*bs*k)++X):=by
 have hlen:X.length=l.length-2*bs*k:=by rw[sX.len];simp only[List.length_append,List.length_take,List.length_drop];omega
 constructor
 · refine hs.trans ?_
   conv=>lhs;rw[yJ l (2*bs*k) bs,laa]
   exact(dF.refl _ _).app sX
 exact hB.app (k:=k) (by omega) (by rw[List.length_take];omega) hX (by omega)
theorem Hr{lt:α->α->Bool}{l:List α}(hb:0<bs)(hB:BS lt (2*bs) (l.take (2*bs*k)))(hR:BS lt bs (l.drop (2*bs*k)))(h1:2*bs*k<=l.length)(hl:l.length<=2*bs*k+bs):BS lt (2*bs) l:=by
 have:=hB.app (by omega) (k:=k) (by rw[List.length_take];omega) (hR.Qa (by rw[List.length_drop];omega)) (by rw[List.length_drop];omega)
 rwa [List.take_append_drop]at this
end So
end
section
namespace So
open Bt
variable {α:Type}
def Now(enc:α->Value×Value)(c:α->α->Int)(K:α->Prop)(cb:Value)(g N:Nat)(w:World)(l0:List α)(Q:List α->Prop)(wr:World):Prop:=
 ∃l,aC [g] w wr/\Data enc c K cb g N wr l/\dF (dx c) l0 l/\Q l
theorem Di(enc:α->Value×Value)(c:α->α->Int)(K:α->Prop)(o:nQ (dx c))(g N cap:Nat)(ca:Addr)(w:World)(l0:List α)(hD:Data enc c K (.pointer (some ca)) g N w l0):
   Calls Tryz.prog 159 #[.slice (some ⟨g,0,none⟩) N cap,.int .i64 N,.func (.func 95) #[] #[.pointer (some ca)]] w fun e w'=>e=.returned (.tuple #[])/\aC [g] w w'/\∃x,cK (dx c) x/\dF (dx c) l0 x/\Data enc c K (.pointer (some ca)) g N w' x:=by
 have HO:=hd o;have hNs:=hD.small;have HST:Hid (Now enc c K (.pointer (some ca)) g N w l0 (fun l=>BS (dx c) 20 (l.take (20*0))) w):=⟨l0,aC.refl _ _,hD,dF.refl _ _,by simpa using BS.nil _ _⟩;have HM:=hd (Fe enc c K o g N cap ca);clear hD o;go_enter Tryz.func159,Tryz.ntmps159;go_wp2_with fail;go_loopw [7,8] (fun a b wr=>∃k an bn:Nat,a=.int .i64 an/\b=.int .i64 bn/\Hid (an=20*k/\bn=an+20)/\an<=N/\bn<=N+20/\Hid (Now enc c K (.pointer (some ca)) g N w l0 (fun l=>BS (dx c) 20 (l.take (20*k))) wr)) (fun a _ _=>N+1-(intOf a).toNat)
 case atStart=>exact⟨0,0,20,rfl,rfl,⟨rfl,rfl⟩,by omega,by omega,HST⟩
 case round=>
  obtain⟨k,an,bn,rfl,rfl,HA,haN,hbN,HW⟩:=hrel;by_cases hlt:bn<=N
  · have hli:(bn:Int)<=(N:Int):=by omega
    go_wp2_with fail;obtain⟨l,ht,hD,hs,hq⟩:=HW.out;have hA:=HA.out;have hlen:=hD.len;have he:=yJ l an 20;have hD':=hD;rw[he]at hD';refine(ma enc c K HO.out (l.take an) ((l.drop an).take 20) (l.drop (an+20)) an bn (by rw[List.length_take];omega) (by rw[List.length_take,List.length_drop];omega) g N cap (.pointer (some ca)) _ ⟨_,rfl⟩ hD'.lies hD'.len hD'.small hD'.ok hD'.two hD'.cmp).mono ?_;rintro x w1 ⟨rfl,ht1,y,hy1,hy2,hy3⟩
    have HW1:Hid (Now enc c K (.pointer (some ca)) g N w l0 (fun l=>BS (dx c) 20 (l.take (20*(k+1)))) w1):=by
     rw[hA.1]at hy2 hy3 he hD';have hst:=Im (bs:=20) (by omega) hs hq (by omega) hy1 hy2;exact⟨_,ht.trans ht1 (fun _ h=> .inl h),hD'.next ht1 hy3 (((hy2.perm.append_left _)).append_right _),hst.1,hst.2⟩
    have HA1:Hid (bn=20*(k+1)):=by show _=_;omega
    have hgt:an<bn:=by omega
    clear ht hD hs hq hlen he hD' ht1 hy1 hy2 hy3 HW hA HA;go_wp2_with fail;go_roundw
    case rel=>exact⟨k+1,bn,bn+20,rfl,by go_num,⟨HA1.out,rfl⟩,hlt,by omega,HW1⟩
    case measure=>simp[intOf];omega
  have hli:¬(bn:Int)<=(N:Int):=by omega
  go_wp2_with fail;obtain⟨l,ht,hD,hs,hq⟩:=HW.out;have hA:=HA.out;have hlen:=hD.len;have hD':=hD;rw[<-List.take_append_drop an l]at hD';refine(ma enc c K HO.out (l.take an) (l.drop an) [] an N (by rw[List.length_take];omega) (by rw[List.length_drop];omega) g N cap (.pointer (some ca)) _ ⟨_,rfl⟩ (by simpa using hD'.lies) (by simpa using hD'.len) hD'.small (by simpa using hD'.ok) hD'.two hD'.cmp).mono ?_;rintro x w1 ⟨rfl,ht1,y,hy1,hy2,hy3⟩
  have HW1:Hid (Now enc c K (.pointer (some ca)) g N w l0 (fun l=>BS (dx c) 20 l) w1):=by
   rw[hA.1]at hy2 hy3 hD';have hst:=Hf (bs:=20) (by omega) hs hq (by omega) (by omega) hy1 hy2;exact⟨_,ht.trans ht1 (fun _ h=> .inl h),hD'.next ht1 (by simpa using hy3) (hy2.perm.append_left _),hst.1,hst.2⟩
  clear ht hD hs hq hlen hD' ht1 hy1 hy2 hy3 HW hA HA HST hlt hli haN hbN;go_wp2_with fail;go_loopw [6] (fun b wr=>∃bs:Nat,b=.int .i64 bs/\20<=bs/\bs<=2*N+20/\Hid (Now enc c K (.pointer (some ca)) g N w l0 (fun l=>BS (dx c) bs l) wr)) (fun b _=>2*N+21-(intOf b).toNat)
  case atStart=>exact⟨20,rfl,by omega,by omega,HW1⟩
  case round=>
   obtain⟨bs,rfl,hb1,hb2,HW⟩:=hrel;by_cases hlt:bs<N
   · obtain⟨bs2,Oy⟩:∃bs2,bs2=2*bs:=⟨_,rfl⟩
     have e2:(2:Int)*(bs:Int)=(bs2:Int):=by omega
     have e3:(bs:Int)*2=(bs2:Int):=by omega
     have HB2:=hd Oy
     have hb2N:bs2<2*N:=by omega
     have hb2b:bs<bs2:=by omega
     clear Oy
     have QJ:Hid (Now enc c K (.pointer (some ca)) g N w l0 (fun l=>BS (dx c) (2*bs) (l.take (2*bs*0))/\BS (dx c) bs (l.drop (2*bs*0))) wr):=by
      obtain⟨l,h1,h2,h3,h4⟩:=HW.out;exact⟨l,h1,h2,h3,by simpa using BS.nil _ _,by simpa using h4⟩
     clear HW;go_wp2_with fail;go_loopw [7,8] (fun a b wr=>∃k an bn:Nat,a=.int .i64 an/\b=.int .i64 bn/\Hid (an=2*bs*k/\bn=an+bs2)/\an<=N/\bn<=3*N/\Hid (Now enc c K (.pointer (some ca)) g N w l0 (fun l=>BS (dx c) (2*bs) (l.take (2*bs*k))/\BS (dx c) bs (l.drop (2*bs*k))) wr)) (fun a _ _=>N+1-(intOf a).toNat)
     case atStart=>exact⟨0,0,bs2,rfl,rfl,⟨rfl,by omega⟩,by omega,by omega,QJ⟩
     case round=>
      obtain⟨k,an,bn,rfl,rfl,HA,haN,hbN,HW⟩:=hrel;obtain⟨mn,hmn⟩:∃mn,mn=an+bs:=⟨_,rfl⟩
      have e1:(an:Int)+(bs:Int)=(mn:Int):=by omega
      have HMN:=hd hmn
      have hmN:mn<=2*N:=by omega
      clear hmn;by_cases hle:bn<=N
      · have hli:(bn:Int)<=(N:Int):=by omega
        go_wp2_with fail;obtain⟨l,ht,hD,hs,hq1,hq2⟩:=HW.out;have hA:=HA.out;have hmn:=HMN.out;have hbb:=HB2.out;have hlen:=hD.len;have he:=parts l an bs bs;have hD':=hD;rw[he]at hD'
        have hu:cK (dx c) ((l.drop an).take bs):=by rw[hA.1];exact hq2.take
        have hv:cK (dx c) ((l.drop (an+bs)).take bs):=by
         have:=(hq2.drop (by omega)).take
         rwa [List.drop_drop,<-hA.1]at this
        refine(HM.out (N+1) (l.take an) ((l.drop an).take bs) ((l.drop (an+bs)).take bs) (l.drop (an+bs+bs)) an mn bn (by rw[List.length_take];omega) (by rw[List.length_take,List.length_drop];omega) (by rw[List.length_take,List.length_drop];omega) (by rw[List.length_take,List.length_drop];omega) (by rw[List.length_take,List.length_drop];omega) (by rw[List.length_take,List.length_drop,List.length_take,List.length_drop];omega) hu hv _ hD').mono ?_;rintro x w1 ⟨rfl,ht1,y,hy1,hy2,hy3⟩
        have HW1:Hid (Now enc c K (.pointer (some ca)) g N w l0 (fun l=>BS (dx c) (2*bs) (l.take (2*bs*(k+1)))/\BS (dx c) bs (l.drop (2*bs*(k+1)))) w1):=by
         rw[hA.1]at hy2 hy3 he hD';have hst:=G8 (bs:=bs) (by omega) hs hq1 hq2 (by omega) hy1 hy2;exact⟨_,ht.trans ht1 (fun _ h=> .inl h),hD'.next ht1 hy3 (((hy2.perm.append_left _)).append_right _),hst.1,hst.2⟩
        have HA1:Hid (bn=2*bs*(k+1)):=by show _=_;rw[Nat.mul_succ];omega
        have hgt:an<bn:=by omega
        have P8:bn+bs2<=3*N:=by omega
        clear ht hD hs hq1 hq2 hlen he hD' ht1 hy1 hy2 hy3 HW hA HA hu hv hmn hbb;go_wp2_with fail;go_roundw
        case rel=>exact⟨k+1,bn,bn+bs2,rfl,by go_num,⟨HA1.out,rfl⟩,hle,P8,HW1⟩
        case measure=>simp[intOf];omega
      have hli:¬(bn:Int)<=(N:Int):=by omega
      by_cases hml:mn<N
      · have hmi:(mn:Int)<(N:Int):=by omega
        go_wp2_with fail;obtain⟨l,ht,hD,hs,hq1,hq2⟩:=HW.out;have hA:=HA.out;have hmn:=HMN.out;have hbb:=HB2.out;have hlen:=hD.len
        have he:l=l.take an++((l.drop an).take bs++l.drop (an+bs))++[]:=by
         rw[List.append_nil,<-laa];exact yJ l an bs
        have hD':=hD;rw[he]at hD'
        have hu:cK (dx c) ((l.drop an).take bs):=by rw[hA.1];exact hq2.take
        have hv:cK (dx c) (l.drop (an+bs)):=by
         have:=(hq2.drop (by omega)).Qa (by rw[List.drop_drop,List.length_drop];omega)
         rwa [List.drop_drop,<-hA.1]at this
        refine(HM.out (N+1) (l.take an) ((l.drop an).take bs) (l.drop (an+bs)) [] an mn N (by rw[List.length_take];omega) (by rw[List.length_take,List.length_drop];omega) (by rw[List.length_drop];omega) (by rw[List.length_take,List.length_drop];omega) (by rw[List.length_drop];omega) (by rw[List.length_take,List.length_drop,List.length_drop];omega) hu hv _ hD').mono ?_;rintro x w1 ⟨rfl,ht1,y,hy1,hy2,hy3⟩
        have HW1:Hid (Now enc c K (.pointer (some ca)) g N w l0 (fun l=>BS (dx c) bs2 l) w1):=by
         rw[hA.1]at hy2 hy3 hD';have hst:=Jr (bs:=bs) (by omega) hs hq1 (by omega) (by omega) hy1 hy2;rw[hbb];exact⟨_,ht.trans ht1 (fun _ h=> .inl h),hD'.next ht1 (by simpa using hy3) (by simpa using hy2.perm.append_left _),hst.1,hst.2⟩
        clear ht hD hs hq1 hq2 hlen he hD' ht1 hy1 hy2 hy3 HW hA HA hu hv hmn hbb;go_wp2_with fail;go_roundw
        case rel=>exact⟨bs2,rfl,by omega,by omega,HW1⟩
        case measure=>simp[intOf];omega
      have hmi:¬(mn:Int)<(N:Int):=by omega
      have HW1:Hid (Now enc c K (.pointer (some ca)) g N w l0 (fun l=>BS (dx c) bs2 l) wr):=by
       obtain⟨l,ht,hD,hs,hq1,hq2⟩:=HW.out;have hA:=HA.out;have hmn:=HMN.out;have hlen:=hD.len;rw[HB2.out];exact⟨l,ht,hD,hs,Hr (by omega) hq1 hq2 (by omega) (by omega)⟩
      go_wp2_with fail;go_roundw
      case rel=>exact⟨bs2,rfl,by omega,by omega,HW1⟩
      case measure=>simp[intOf];omega
   go_wp2_with fail
   go_end0
   obtain⟨l,h1,h2,h3,h4⟩:=HW.out;exact⟨rfl,h1,l,h4.Qa (by rw[<-h2.len];omega),h3,h2⟩
end So
end
section
namespace So
open Bt
variable {α:Type}
theorem Ia(enc:α->Value×Value)(c:α->α->Int)(K:α->Prop)(o:nQ (dx c))(g N cap:Nat)(ca:Addr)(w:World)(l0:List α)(hD:Data enc c K (.pointer (some ca)) g N w l0):
   Calls Tryz.prog 94 #[.slice (some ⟨g,0,none⟩) N cap,.func (.func 95) #[] #[.pointer (some ca)]] w fun e w'=>e=.returned (.tuple #[])/\aC [g] w w'/\∃x,cK (dx c) x/\dF (dx c) l0 x/\Data enc c K (.pointer (some ca)) g N w' x:=by
 have HS:=hd (Di enc c K o g N cap ca w l0 hD);have hNs:=hD.small;clear hD;go_enter Tryz.func94,Tryz.ntmps94;go_wp2_with fail;refine HS.out.mono ?_;rintro x w1 ⟨rfl,h⟩;have H:=hd h;clear h;go_wp2_with fail
 go_end0
 exact⟨rfl,H.out⟩
theorem vM(fv:Value)(w:World):Calls Tryz.prog 214 #[.slice none 0 0,.int .i64 0,.int .i64 0,fv] w fun e w'=>e=.returned (.tuple #[])/\w'=w:=by
 go_enter Tryz.func214,Tryz.ntmps214;go_wp2_with fail;go_loopw [8] (fun i wr=>i=.int .i64 1/\wr=w) (fun _ _=>0)
 case atStart=>exact⟨rfl,rfl⟩
 case round=>
  obtain⟨rfl,rfl⟩:=hrel;go_wp2_with fail
  go_end0
  exact⟨rfl,rfl⟩
theorem Dn(fv:Value)(w:World):Calls Tryz.prog 159 #[.slice none 0 0,.int .i64 0,fv] w fun e w'=>e=.returned (.tuple #[])/\w'=w:=by
 go_enter Tryz.func159,Tryz.ntmps159;go_wp2_with fail;go_loopw [7,8] (fun a b wr=>a=.int .i64 0/\b=.int .i64 20/\wr=w) (fun _ _ _=>0)
 case atStart=>exact⟨rfl,rfl,rfl⟩
 case round=>
  obtain⟨rfl,rfl,rfl⟩:=hrel;go_wp2_with fail;refine(vM _ _).mono ?_;rintro x w1 ⟨rfl,rfl⟩;go_wp2_with fail;go_loopw [6] (fun b w'=>b=.int .i64 20/\w'=w1) (fun _ _=>0)
  case atStart=>exact⟨rfl,rfl⟩
  case round=>
   obtain⟨rfl,rfl⟩:=hrel;go_wp2_with fail
   go_end0
   exact⟨rfl,rfl⟩
theorem Jd(fv:Value)(w:World):Calls Tryz.prog 94 #[.slice none 0 0,fv] w fun e w'=>e=.returned (.tuple #[])/\w'=w:=by
 go_enter Tryz.func94,Tryz.ntmps94;go_wp2_with fail;refine(Dn _ _).mono ?_;rintro x w1 ⟨rfl,rfl⟩;go_wp2_with fail
 go_end0
 exact⟨rfl,rfl⟩
end So
end
section
namespace Tw
open Bt
def wI(w:World)(v:Value)(zs:List (Value×Value)):Prop:=∃ao cap,v=.slice ao zs.length cap/\∀(j:Nat) (h:j<zs.length),∃g,ao=some ⟨g,0,none⟩/\g<w.heap.size/\w.cell? ⟨g,j*2,none⟩=some zs[j].1/\w.cell? ⟨g,j*2+1,none⟩=some zs[j].2
def fC(os:List (Px.E×Bool))(a b:(Value×Value)×(List Mg.V×List Mg.V)):Int:=Mg.vS (os.map Prod.snd) a.2 b.2
theorem Mo(os:List (Px.E×Bool)):So.nQ (So.dx (fC os)):=((Mg.Jl (os.map Prod.snd)).on Prod.snd).swo
theorem DU(os:List (Px.E×Bool))(hn:os.length<=1000000)(ts:Nat->Nat)(b B:Nat)(v:Value)(x0 x1 x2 x4 x5:Value)(W:World)(es:List (Value×Value))(fs:List (List Mg.V×List Mg.V))(fv:Value)(hlen:es.length=fs.length)(hm:es.length<=1000000)
   (ow:W.ownsRow B 195 2 fv es.length (flatE es)) (hK:af W b #[x0,x1,x2,v,x4,x5] 109) (hE:W.ownsRow 0 227 2 v os.length (os.flatMap bq)) (hb:b<B) (hv:∀g∈own v,g<B)
   (hF:∀g∈own fv,∀a∈es.zip fs,NZ ts os.length g W a):
   Calls Tryz.prog 94 #[fv,.func (.func 95) #[] #[.pointer (some ⟨b,0,none⟩)]] W fun e W'=>e=.returned (.tuple #[])/\aC (own fv) W W'/\∃zs,So.cK (So.dx (fC os)) zs/\So.dF (So.dx (fC os)) (es.zip fs) zs/\zs.length=es.length/\wI W' fv (zs.map Prod.fst):=by
 have PK:(es.zip fs).map Prod.fst=es:=List.map_fst_zip (by omega)
 have hzl:(es.zip fs).length=es.length:=by simp;omega
 rcases ow.2 with⟨hfv,h0⟩|⟨g,cap,cur,hfv,hB,hg,h1,h2,h3,h4⟩
 · subst hfv;have he:es=[]:=List.eq_nil_of_length_eq_zero h0;subst he;refine(So.Jd _ W).mono ?_;rintro x W1 ⟨rfl,rfl⟩;exact⟨rfl,aC.refl _ _,[],So.cK.nil _,So.dF.refl _ _,rfl,none,0,rfl,fun j h=>by simp at h⟩
 subst hfv;have hL:=So.bR.own ow;refine(So.Ia Prod.fst (fC os) (NZ ts os.length g W) (Mo os) g es.length cap ⟨b,0,none⟩ W (es.zip fs) ⟨by rw[PK];exact hL,hzl.symm,hm,hF g (by simp[own,Value.ownBlock]),fun a h=>h.two,Nj os hn ts g b v x0 x1 x2 x4 x5 W hK (by omega) hE (fun h=>by have:=hv g h;omega)⟩).mono ?_;rintro x W1 ⟨rfl,hT,zs,hs1,hs2,hD⟩;refine⟨rfl,by simpa[own,Value.ownBlock]using hT,zs,hs1,hs2,hD.len.symm,some ⟨g,0,none⟩,cap,by rw[hD.len];simp,fun j h=>⟨g,rfl,hD.lies.lt,hD.lies.at j h⟩⟩
end Tw
end
section
namespace Mg
open Px (E)
theorem nW{cs:ax}{row:List V}:∀{es:List E} {l:List V},vals cs row es=.ok l->l.length=es.length/\∀(j:Nat) (h1:j<es.length) (h2:j<l.length),value cs row es[j]=.ok l[j]
 |[],l,h=>by simp only[vals]at h;cases h;exact⟨rfl,fun j h1=>by simp at h1⟩
 |e::r,l,h=>by
  simp only[vals]at h
  cases hv:value cs row e with
  |error c=>rw[hv]at h;cases h
  |ok v=>
   rw[hv]at h;simp only at h
   cases hl:vals cs row r with
   |error c=>rw[hl]at h;cases h
   |ok s=>
    rw[hl]at h;simp only at h
    cases h
    have ih:=nW hl;refine⟨by simp[ih.1],fun j h1 h2=> ?_⟩
    cases j with
    |zero=>exact hv
    |succ j=>exact ih.2 j (by simpa using h1) (by simpa using h2)
theorem jl{cs:ax}{items orders:List E}{o:Option E}:∀{Q:List (List V)} {fs:List (List V×List V)},foundM cs items orders o Q=.ok fs->fs.length<=Q.length/\∀f∈fs,∃r∈Q,vals cs r items=.ok f.1/\vals cs r orders=.ok f.2
 |[],fs,h=>by simp only[foundM]at h;cases h;exact⟨nlr _,fun f hf=>by simp at hf⟩
 |r::l,fs,h=>by
  simp only[foundM]at h
  cases hc:chooses cs r o with
  |error c=>rw[hc]at h;cases h
  |ok b=>
   rw[hc]at h
   cases b with
   |false=>
    simp only at h;have ih:=jl h;exact⟨by simp;omega,fun f hf=>by obtain⟨q,h1,h2⟩:=ih.2 f hf;exact⟨q,by simp[h1],h2⟩⟩
   |true=>
    simp only at h
    cases ha:vals cs r items with
    |error c=>rw[ha]at h;cases h
    |ok a=>
     rw[ha]at h;simp only at h
     cases hb:vals cs r orders with
     |error c=>rw[hb]at h;cases h
     |ok b=>
      rw[hb]at h;simp only at h
      cases hl:foundM cs items orders o l with
      |error c=>rw[hl]at h;cases h
      |ok gs=>
       rw[hl]at h;simp only at h
       cases h
       have ih:=jl hl;refine⟨by simp;omega,fun f hf=> ?_⟩;rcases List.mem_cons.1 hf with rfl|hf
       · exact⟨r,by simp,ha,hb⟩
       obtain⟨q,h1,h2⟩:=ih.2 f hf;exact⟨q,by simp[h1],h2⟩
def KI(cs:ax)(orders:List E)(j:Nat):Nat:=match orders[j]? with
 |none=>0
 |some e=>match typ cs e with
  |.ok t=>t
  |.error _=>0
theorem Jp{cs:ax}{row:List V}(hr:iy cs row){orders:List E}{l:List V}(ho:∀e∈orders,e.ok 2000/\knows cs e=true/\∃t,typ cs e=.ok t)(h:vals cs row orders=.ok l)(j:Nat)(hj:j<l.length):Has l[j] (KI cs orders j):=by
 obtain⟨h1,h2⟩:=nW h
 have hj':j<orders.length:=by omega
 obtain⟨q1,_,t,q2⟩:=ho orders[j] (List.getElem_mem hj');have:=(sound hr _ _ _ q1 q2 (h2 j hj' hj)).2;simpa[KI,hj',q2]using this
end Mg
namespace Tw
open Bt
theorem Fg.Re{W1:World}{items orders:List Px.E}{cs:Mg.ax}{o:Option Px.E}{Q:List (List Mg.V)}{fs:List (List Mg.V×List Mg.V)}{es:List (Value×Value)}{y:Nat}(h:Fg w W1 W p sc b5 b6 b7 iv xv items orders cs o Q fs fv es y)
   (hr:∀r∈Q,Mg.iy cs r) (ho:∀e∈orders,e.ok 2000/\Mg.knows cs e=true/\∃t,Mg.typ cs e=.ok t):∀g∈own fv,∀a∈es.zip fs,NZ (Mg.KI cs orders) orders.length g W a:=by
 intro g hg a ha;obtain⟨j,hj,rfl⟩:=List.mem_iff_getElem.1 ha;simp only[List.length_zip]at hj
 have h1:j<es.length:=by omega
 have h2:j<fs.length:=by omega
 obtain⟨c1,c2⟩:=h.cells j h1 h2;obtain⟨r,hrQ,v1,v2⟩:=(Mg.jl h.found).2 fs[j] (List.getElem_mem h2);simp only[List.getElem_zip];obtain⟨a1,p1,e1⟩:=au c1;obtain⟨a2,p2,e2⟩:=au c2;refine⟨⟨a1,_,p1,a2,_,p2,Prod.ext e1 e2⟩,(Mg.nW v2).1,Tb.yH c2,fun x hx=>⟨aZ c2 x hx,?_⟩,fun k hk=>Mg.Jp (hr r hrQ) ho v2 k hk⟩;rintro rfl;exact Tb.own_ne h.ow c2 (by decide) _ hg hx
end Tw
end
section
namespace Tw
open Bt
structure Gz(w W:World)(p:Nat)(sc:Array Value)(b5 b6 b7:Nat)(iv xv:Value)(items orders:List Px.E)(B df:Nat)(fv:Value)(zs:List ((Value×Value)×(List Mg.V×List Mg.V))):Prop where
 sg:Sg w W p sc b5 b6 iv xv items orders
 k7:af W b7 #[fv] 193
 dfr:W.heap[df]? =some (.deferred (some []))
 rows:wI W fv (zs.map Prod.fst)
 cells:∀z∈zs,W.ownsRow B 39 3 z.1.1 z.2.1.length (z.2.1.flatMap Mg.vC)
 size:B<=W.heap.size+4
theorem Fg.sorted{W1 W':World}{items orders:List Px.E}{cs:Mg.ax}{o:Option Px.E}{Q:List (List Mg.V)}{fs:List (List Mg.V×List Mg.V)}{es:List (Value×Value)}{y:Nat}(h:Fg w W1 W p sc b5 b6 b7 iv xv items orders cs o Q fs fv es y)
   (hlt:w.heap.size+1+1<W1.heap.size/\b5<W1.heap.size/\b6<W1.heap.size/\(∀g∈own iv,g<W1.heap.size)/\∀g∈own xv,g<W1.heap.size) (h7:b7<W1.heap.size) (hdf:df<W1.heap.size) (hd:W.heap[df]? =some (.deferred (some [])))
   (hT:aC (own fv) W W') {zs:List ((Value×Value)×(List Mg.V×List Mg.V))} (hz:∀z∈zs,z∈es.zip fs) (hp:wI W' fv (zs.map Prod.fst)):Gz w W' p sc b5 b6 b7 iv xv items orders (W1.heap.size+4) df fv zs:=by
 have hs:=h.size
 have hge:∀k,k<W1.heap.size->k∉own fv:=fun k hk hm=>by have:=(h.ow.lt k (by simpa[own]using hm)).1;omega
 have hk:∀k,k<W1.heap.size->k<W.heap.size->W'.heap[k]? =W.heap[k]?:=fun k h1 h2=>hT.block k h2 (hge k h1)
 refine⟨h.sg.keep W1.heap.size hlt hT.os hT.tape hT.output hT.size hk,?_,(hk df hdf (by omega)).trans hd,hp,fun z hzm=> ?_,by have:=hT.size;omega⟩
 · have:=hk b7 h7 h.k7.lt;have hk7:=h.k7;unfold af at*;rw[this];exact hk7
 obtain⟨j,hj,rfl⟩:=List.mem_iff_getElem.1 (hz z hzm);simp only[List.length_zip]at hj
 have h1:j<es.length:=by omega
 have h2:j<fs.length:=by omega
 simp only[List.getElem_zip]
 exact bM (h.cells j h1 h2).1 fun g hg=>hT.block g (aZ (h.cells j h1 h2).1 g hg) fun hm=>Tb.own_ne h.ow (h.cells j h1 h2).1 (by decide) _ hm hg
end Tw
end
namespace So
theorem cK.map{α β:Type}{lt:β->β->Bool}{f:α->β}{l:List α}(h:cK (fun a b=>lt (f a) (f b)) l):cK lt (l.map f):=by
 unfold cK at*;exact List.pairwise_map.2 h
theorem IQ{β:Type}{lt:β->β->Bool}(o:nQ lt){x a:β}(h:eqv lt x a=true)(b:β):eqv lt x b=eqv lt a b:=by
 simp only[eqv,Bool.and_eq_true,Bool.not_eq_true']at h
 have h1:lt x b=lt a b:=by
  rw[Bool.eq_iff_iff];exact⟨fun q=>(o.nt x a b q).resolve_left (by simp[h.1]),fun q=>(o.nt a x b q).resolve_left (by simp[h.2])⟩
 have h2:lt b x=lt b a:=by
  rw[Bool.eq_iff_iff];exact⟨fun q=>(o.nt b a x q).resolve_right (by simp[h.2]),fun q=>(o.nt b x a q).resolve_right (by simp[h.1])⟩
 simp[eqv,h1,h2]
theorem dF.map{α β:Type}{lt:β->β->Bool}(o:nQ lt){f:α->β}{l l':List α}(h:dF (fun a b=>lt (f a) (f b)) l l'):dF lt (l.map f) (l'.map f):=by
 refine⟨h.perm.map f,fun x=> ?_⟩;rw[List.filter_map,List.filter_map]
 congr 1
 by_cases hx:∃y∈l,eqv lt x (f y)=true
 · obtain⟨y,hy,hxy⟩:=hx
   have hf:(eqv lt x∘f)=eqv (fun a b=>lt (f a) (f b)) y:=funext fun z=>IQ o hxy (f z)
   rw[hf];exact h.same y
 have h1:∀m:List α,(∀z∈m,z∈l)->m.filter (eqv lt x∘f)=[]:=fun m hm=>List.filter_eq_nil_iff.2 fun z hz hq=>hx ⟨z,hm z hz,hq⟩
 rw[h1 l' fun z hz=>h.perm.mem_iff.1 hz,h1 l fun z hz=>hz]
end So
namespace Tw
theorem wI.below{w':World}{v:Value}{zs:List (Value×Value)}(h:wI w v zs)(hb:Below w.heap.size w w'):wI w' v zs:=by
 obtain⟨ao,cap,h1,h2⟩:=h;refine⟨ao,cap,h1,fun j hj=> ?_⟩;obtain⟨g,a,b,c,d⟩:=h2 j hj;exact⟨g,a,nlA b hb.size,(hb.cell (p:=⟨g,j*2,none⟩) b).trans c,(hb.cell (p:=⟨g,j*2+1,none⟩) b).trans d⟩
theorem Gz.below{W':World}{items orders:List Px.E}{zs:List ((Value×Value)×(List Mg.V×List Mg.V))}(h:Gz w W p sc b5 b6 b7 iv xv items orders B df fv zs)(hb:Below W.heap.size W W')(hdf:df<W.heap.size):Gz w W' p sc b5 b6 b7 iv xv items orders B df fv zs:=
 ⟨h.sg.below hb,h.k7.below hb h.k7.lt,(hb.block df hdf).trans h.dfr,h.rows.below hb,fun z hz=>dA (h.cells z hz) hb,by have:=h.size;have:=hb.size;omega⟩
end Tw
section
namespace Tw
open Bt
theorem Ez{α β:Type}(f:α->List β)(n:Nat):∀l:List α,(∀x∈l,(f x).length<=n)->(l.flatMap f).length<=l.length*n
 |[],_=>by simp
 |a::l,h=>by
  have h1:=h a (by simp)
  have h2:=Ez f n l fun x hx=>h x (by simp[hx])
  simp only[List.flatMap_cons,List.length_append,List.length_cons,Nat.add_mul,Nat.one_mul];omega
theorem Kg{T:TypeId}{s:Nat}{ao:Option Addr}{n c m:Nat}{xs:List Value}(h:w.ownsRow B T s (.slice ao n c) m xs):m<=c:=by
 rcases h.2 with⟨h1,h2⟩|⟨g,cap',cur,h1,h2,h3,h4,h5,h6⟩
 · injection h1 with _ e1 e2;omega
 injection h1 with _ e1 e2;subst e2;omega
theorem Gu{l:List Mg.V}:∀u∈l.flatMap Mg.vC,u.oneCell'=true:=by
 intro u hu;obtain⟨v,_,h⟩:=List.mem_flatMap.1 hu;simp only[Mg.vC,List.mem_cons,List.not_mem_nil,or_false]at h;rcases h with rfl|rfl|rfl<;>rfl
theorem FI{α β:Type}(f:α->List β)(l:List α)(k:Nat)(h:k<l.length):(l.take (k+1)).flatMap f=(l.take k).flatMap f++f l[k]:=by
 rw[List.take_succ_eq_append_getElem h,List.flatMap_append];simp
theorem K7{cs:Mg.ax}{items orders:List Px.E}{o:Option Px.E}{Q:List (List Mg.V)}{fs:List (List Mg.V×List Mg.V)}{es:List (Value×Value)}{zs:List ((Value×Value)×(List Mg.V×List Mg.V))}(hf:Mg.foundM cs items orders o Q=.ok fs)(hz:∀z∈zs,z∈es.zip fs):∀z∈zs,z.2.1.length=items.length:=by
 intro z hzm;obtain⟨r,_,h1,_⟩:=(Mg.jl hf).2 z.2 (List.of_mem_zip (hz z hzm)).2;exact(Mg.nW h1).1
theorem Gz.cut{items orders:List Px.E}{ao:Option Addr}{n c:Nat}{zs:List ((Value×Value)×(List Mg.V×List Mg.V))}(h:Gz w W p sc b5 b6 b7 iv xv items orders B df (.slice ao n c) zs)(m:Nat)(hm:m<=zs.length)
   (h7:w.heap.size+1+1<b7/\b5<b7/\b6<b7/\(∀g∈own iv,g<b7)/\∀g∈own xv,g<b7) (hbB:b7<B) (hdf:df≠b7) (hfv:∀g∈own (.slice ao n c),g≠b7):Gz w (W.setCell ⟨b7,0,none⟩ (.slice ao m c)) p sc b5 b6 b7 iv xv items orders B df (.slice ao m c) (zs.take m):=by
 refine⟨h.sg.keep b7 h7 rfl rfl rfl (by simp) (fun k hk _=>Below.heap_setCell _ _ _ _ (by show k≠b7;omega)),by simpa using h.k7.set 0 (.slice ao m c),(Below.heap_setCell _ _ _ _ (by show df≠b7;exact hdf)).trans h.dfr,?_,fun z hz=>aA (h.cells z (List.mem_of_mem_take hz)) _ (by show b7<B;exact hbB),by have:=h.size;simpa using this⟩;obtain⟨ao',cap,e,f⟩:=h.rows;injection e with e1 e2 e3;subst e1 e3;refine⟨ao,c,by simp;omega,fun j hj=> ?_⟩;simp only[List.length_map,List.length_take]at hj;obtain⟨g,hg,hlt,c0,c1⟩:=f j (by simp;omega)
 have hne:b7≠g:=fun e=>hfv g (by simp[own,Value.ownBlock,hg]) e.symm
 refine⟨g,hg,by simpa using hlt,(World.cell?_setCell_far W _ _ _ (by show b7≠g;exact hne)).trans ?_,(World.cell?_setCell_far W _ _ _ (by show b7≠g;exact hne)).trans ?_⟩
 · simpa using c0
 simpa using c1
theorem Hw{α β:Type}(f:α->β)(zs:List α)(n:Nat):(zs.take (min n zs.length)).map f=(zs.map f).take n:=by
 rw[<-List.map_take]
 congr 1
 rcases Nat.le_total n zs.length with h|h
 · rw[Nat.min_eq_left h]
 rw[Nat.min_eq_right h,List.take_length,List.take_of_length_le h]
theorem AL{α β γ:Type}(g:β->List γ)(l:List (α×β)):l.flatMap (fun z=>g z.2)=(l.map Prod.snd).flatMap g:=by
 rw[List.flatMap_map]
end Tw
end
end Go.Proofs.YthhhfcdakfbpkaaGreatDoor
