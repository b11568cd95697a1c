/- Parts of the proof -/
import Derived.Test.YthhhfcdakfbpkaaGreatDoorU1
import Derived.Test.YthhhfcdakfbpkaaGreatDoorU2
import Derived.Deep.CutRange
import Derived.Deep.RegionHeld3
open Go.Value renaming int -> Yg, string -> Yi, agg -> Yj, pointer -> Ym, tuple -> Yn, iface -> Yo, slice -> Yp, nilIface -> Yq
open Go.IntKind renaming i64 -> Yh
open Go.Obj renaming cells -> Yk
open Go.Ending renaming returned -> Yl
open Int renaming natAbs_tmod -> aaZ, tmod_nonneg -> aba
open List renaming getElem?_eq_getElem -> YP
open Go.Proofs.Tryz renaming prog -> Zc, func254 -> abb, ntmps254 -> abd, func255 -> abe, ntmps255 -> abf, func313 -> abg, ntmps313 -> abh, func314 -> abj, ntmps314 -> abk, func315 -> abl, ntmps315 -> abm, func316 -> abn, ntmps316 -> abo, func317 -> abp, ntmps317 -> abq, func187 -> abr, ntmps187 -> abt, func185 -> abu, ntmps185 -> abv, func138 -> abw, ntmps138 -> abx, func72 -> aby, ntmps72 -> abz, func216 -> abB, ntmps216 -> abC, func197 -> abD, ntmps197 -> abE, results197 -> abF, func199 -> abG, ntmps199 -> abH, func160 -> abI, ntmps160 -> abJ, func256 -> abK, ntmps256 -> abL, results256 -> abM, func200 -> abO, ntmps200 -> abP, results200 -> abQ
open Go.RowKit.Below renaming refl -> Zh
open Go.Instr renaming typeAssert -> ZV
open Go.World renaming drew -> abA, size_alloc -> ZC
open Go.Proofs.YthhhfcdakfbpkaaGreatDoor.Lx renaming Bs -> Y6
open Bool renaming and_self -> abN
open Option renaming none -> Y1, some -> Y2
open Go renaming Value -> Y3, World -> Y4, TypeId -> Y5, Calls -> aaT, bodyPost_ret -> aaU, results -> aaW, Addr -> abR
open Go.RowKit renaming Below -> aaS
namespace Go.Proofs.YthhhfcdakfbpkaaGreatDoor
set_option linter.unusedSimpArgs false
set_option linter.unusedVariables false
set_option maxRecDepth 100000
set_option maxHeartbeats 16000000
open Go.RowKit
variable {a b z:Int}{t:Nat}
section
namespace Mg
open Lx (Bs)
structure V where
 kind:Int
 int:Int
 text:Bs
def aZ:V:=⟨14,0,[]⟩
def jH(z:Int):V:=⟨16,z,[]⟩
def aO(b:Bool):V:=⟨15,if b=true then 1 else 0,[]⟩
def vL(t:Bs):V:=⟨17,0,t⟩
def fit(z:Int):Bool:=decide (-9223372036854775808<=z/\z<=9223372036854775807)
def ck(z:Int):Except Nat Int:=if fit z=true then .ok z else .error 12
def arith(k:Nat)(a b:Int):Except Nat Int:=
 if k=32 then ck (a+b)
 else if k=33 then ck (a-b)
 else if k=34 then ck (a*b)
 else if b=0 then .error 13
 else if k=35 then ck (a.tdiv b)
 else .ok (a.tmod b)
theorem Dc(z:Int):fit z=true↔ -9223372036854775808<=z/\z<=9223372036854775807:=by simp[fit]
theorem vG(h1: -9223372036854775808<=z)(h2:z<=9223372036854775807):ck z=.ok z:=by
 unfold ck;rw[if_pos ((Dc z).2 ⟨h1,h2⟩)]
theorem xz(h:z< -9223372036854775808\/9223372036854775807<z):ck z=.error 12:=by
 unfold ck;rw[if_neg (by rw[Dc];omega)]
theorem OZ{w:Int}(ha:a≠0)(hb: -9223372036854775808<=a/\a<=9223372036854775807)(k:Int)(hw:w=a*b+k*18446744073709551616)(hk:k≠0):w.tdiv a≠b:=by
 intro h;have h1:=Int.mul_tdiv_add_tmod w a;rw[h,hw]at h1
 have h2:(a*b+k*18446744073709551616).tmod a=k*18446744073709551616:=by omega
 have h3:((a*b+k*18446744073709551616).tmod a).natAbs<a.natAbs:=by rw[aaZ];exact Nat.mod_lt _ (by omega)
 rw[h2]at h3;have h4:(k*18446744073709551616).natAbs=k.natAbs*18446744073709551616:=Int.natAbs_mul _ _;omega
theorem Om(ha:a≠0):(a*b).tdiv a=b:=Int.mul_tdiv_cancel_left b ha
theorem J4(ha: -9223372036854775808<=a/\a<=9223372036854775807)(hb:b≠0)(h:¬(a= -9223372036854775808/\b= -1)): -9223372036854775808<=a.tdiv b/\a.tdiv b<=9223372036854775807:=by
 have h1:(a.tdiv b).natAbs=a.natAbs/b.natAbs:=Int.natAbs_tdiv a b
 have h2:1<=b.natAbs:=by omega
 have h3:a.natAbs/b.natAbs<=a.natAbs:=Nat.div_le_self _ _;by_cases hm:a= -9223372036854775808
 · by_cases h1':b.natAbs=1
   · have hb1:b=1:=by omega
     subst hb1 hm
     decide
   have h4:a.natAbs/b.natAbs<=a.natAbs/2:=Nat.div_le_div_left (by omega) (by omega);omega
 omega
end Mg
end
section
namespace Mg
open Lx (Bs)
open Px (E)
abbrev ay:=List (Bs×Nat)
def place:ay->Bs->Option Nat
 |[],_=>Y1
 |c::r,n=>if c.1=n then Y2 0 else(place r n).map (· +1)
def knows(cs:ay):E->Bool
 |.nm n=>(place cs n).isSome
 |.un _ e=>knows cs e
 |.bin _ a b=>knows cs a&&knows cs b
 |_=>true
def fits(a b:Nat):Bool:=a==b||a==0||b==0
def gK(t:Nat)(o:List Nat):Except Nat Nat:=if o.all (fits t)=true then .ok t else .error 10
def zi(k t:Nat):Except Nat Nat:=if k=19 then gK 1 [t]else if k=20 then gK 3 [t]else .ok 3
def vI(k a b:Nat):Except Nat Nat:=
 if k=23\/k=24 then gK 3 [a,b]else if k=31 then gK 2 [a,b]else if 32<=k then gK 1 [a,b]
 else match gK a [b]with
  |.error c=> .error c
  |.ok _=> .ok 3
def typ(cs:ay):E->Except Nat Nat
 |.bool _=> .ok 3
 |.num _=> .ok 1
 |.str _=> .ok 2
 |.nm n=>match place cs n with
  |some i=> .ok ((cs[i]?).elim 0 (fun c=>c.2%4))
  |none=> .ok 0
 |.un k e=>match typ cs e with
  |.error c=> .error c
  |.ok t=>zi k t
 |.bin k a b=>match typ cs a with
  |.error c=> .error c
  |.ok t=>match typ cs b with
   |.error c=> .error c
   |.ok u=>vI k t u
 |.null=> .ok 0
def isNull(v:V):Bool:=v.kind==14
def pE(t:Bs):Except Nat V:=if t.length<=100 then .ok (vL t)else .error 14
def lX(a b:Int):Int:=if a<b then-1 else if b<a then 1 else 0
def r9(a b:Bs):Int:=if Op.bytesLess a b=true then-1 else if(a==b)=true then 0 else 1
def wI(a b:V):Int:=
 if isNull a=true/\isNull b=true then 0 else if isNull a=true then-1 else if isNull b=true then 1
 else if a.kind=17 then r9 a.text b.text else lX a.int b.int
def holds(k:Nat)(o:Int):Bool:=
 if k=25 then o==0 else if k=26 then o !=0 else if k=27 then decide (o<0)else if k=28 then decide (o<=0)else if k=29 then decide (0<o)else decide (0<=o)
def iJ(d v:V):Bool:=v.kind==d.kind&&v.int==d.int&&v.text==d.text
def isTrue(v:V):Bool:=iJ (aO true) v
def fD(d a b:V):V:=if iJ d a=true\/iJ d b=true then d else if isNull a=true then a else b
def sP(k:Nat)(v:V):Except Nat V:=
 if k=21 then .ok (aO (isNull v))else if k=22 then .ok (aO (!isNull v))else if isNull v=true then .ok aZ
 else if k=20 then .ok (aO (!isTrue v))else match ck (-v.int)with
  |.error c=> .error c
  |.ok z=> .ok (jH z)
def Gm(k:Nat)(a b:V):Except Nat V:=
 if k=24 then .ok (fD (aO false) a b)else if k=23 then .ok (fD (aO true) a b)
 else if isNull a=true\/isNull b=true then .ok aZ else if k=31 then pE (a.text++b.text)
 else if 25<=k/\k<=30 then .ok (aO (holds k (wI a b)))else match arith k a.int b.int with
  |.error c=> .error c
  |.ok z=> .ok (jH z)
def value(cs:ay)(row:List V):E->Except Nat V
 |.bool b=> .ok (aO b)
 |.num z=> .ok (jH z)
 |.str s=>pE s
 |.nm n=>match place cs n with
  |some i=> .ok (row.getD i aZ)
  |none=> .ok aZ
 |.un k e=>match value cs row e with
  |.error c=> .error c
  |.ok v=>sP k v
 |.bin k a b=>match value cs row a with
  |.error c=> .error c
  |.ok v=>match value cs row b with
   |.error c=> .error c
   |.ok u=>Gm k v u
 |.null=> .ok aZ
structure G5(v:V):Prop where
 kind:v.kind=14\/v.kind=15\/v.kind=16\/v.kind=17
 null:v.kind=14->v.int=0/\v.text=[]
 truth:v.kind=15->(v.int=0\/v.int=1)/\v.text=[]
 num:v.kind=16->(-9223372036854775808<=v.int/\v.int<=9223372036854775807)/\v.text=[]
 text:v.kind=17->v.int=0/\v.text.length<=100
def Has(v:V)(t:Nat):Prop:=v.kind=14\/(t=1/\v.kind=16)\/(t=2/\v.kind=17)\/(t=3/\v.kind=15)
structure jB(cs:ay)(row:List V):Prop where
 len:row.length=cs.length
 ok:∀v∈row,G5 v
 has:∀(i:Nat) (c:Bs×Nat) (v:V),cs[i]? =Y2 c->row[i]? =Y2 v->Has v (c.2%4)
theorem nE:G5 aZ:=⟨.inl rfl,fun _=>⟨rfl,rfl⟩,fun h=>absurd h (by decide),fun h=>absurd h (by decide),fun h=>absurd h (by decide)⟩
theorem jR(b:Bool):G5 (aO b):=by
 constructor<;>cases b<;>simp[aO]
theorem Di(h: -9223372036854775808<=z/\z<=9223372036854775807):G5 (jH z):=by
 constructor<;>simp[jH]
 exact h
theorem Cq{t:Bs}(h:t.length<=100):G5 (vL t):=by
 constructor<;>simp[vL]
 exact h
theorem kM(b:Bool):Has (aO b) 3:=.inr (.inr (.inr ⟨rfl,rfl⟩))
theorem yR{cs:ay}{n:Bs}{i:Nat}(h:place cs n=Y2 i):i<cs.length:=by
 induction cs generalizing i with
 |nil=>cases h
 |cons c r ih=>
  simp only[place]at h
  split at h
  · cases h;simp
  cases hp:place r n with
  |none=>rw[hp]at h;cases h
  |some j=>
   rw[hp]at h;simp at h;have:=ih hp;simp;omega
end Mg
end
section
namespace Mg
open Lx (Bs)
open Px (E)
theorem Rf(ha: -9223372036854775808<=a/\a<=9223372036854775807): -9223372036854775808<=a.tmod b/\a.tmod b<=9223372036854775807:=by
 have h1:(a.tmod b).natAbs=a.natAbs%b.natAbs:=aaZ a b;have h2:a.natAbs%b.natAbs<=a.natAbs:=Nat.mod_le _ _;rcases Int.lt_or_le a 0 with h|h
 · have:=aba (a:= -a) b (by omega);rw[Int.neg_tmod]at this;omega
 have:=aba b h;omega
theorem Fe{y:Int}(h:ck z=.ok y): -9223372036854775808<=y/\y<=9223372036854775807:=by
 unfold ck at h
 split at h
 · rename_i hf
   cases h
   exact(Dc z).1 hf
 cases h
theorem O9{k:Nat}{y:Int}(ha: -9223372036854775808<=a/\a<=9223372036854775807)(h:arith k a b=.ok y): -9223372036854775808<=y/\y<=9223372036854775807:=by
 unfold arith at h
 split at h
 · exact Fe h
 split at h
 · exact Fe h
 split at h
 · exact Fe h
 split at h
 · cases h
 split at h
 · exact Fe h
 cases h
 exact Rf ha
theorem yD{u:Nat}{o:List Nat}(h:gK t o=.ok u):u=t/\∀x∈o,fits t x=true:=by
 unfold gK at h
 split at h
 · rename_i ha
   cases h
   exact⟨rfl,by simpa using ha⟩
 cases h
theorem QJ{a b:Nat}(h:fits a b=true):a=b\/a=0\/b=0:=by
 simp[fits]at h;rcases h with(h|h)|h
 · exact .inl h
 · exact .inr (.inl h)
 exact .inr (.inr h)
theorem xE{v:V}{u:Nat}(h:Has v u)(hf:fits t u=true)(ht:t≠0)(hu:u=0->v.kind=14):Has v t:=by
 rcases QJ hf with rfl|rfl|rfl
 · exact h
 · exact absurd rfl ht
 exact .inl (hu rfl)
theorem P5{v:V}(h:Has v 0):v.kind=14:=by
 rcases h with h|⟨h,_⟩|⟨h,_⟩|⟨h,_⟩
 · exact h
 · omega
 · omega
 omega
theorem Rq{v:V}(h:Has v t)(k:v.kind≠14):t=1/\v.kind=16\/t=2/\v.kind=17\/t=3/\v.kind=15:=by
 rcases h with h|h
 · exact absurd h k
 exact h
theorem AB{d a b:V}(hd:G5 d)(ha:G5 a)(hb:G5 b):G5 (fD d a b):=by
 unfold fD
 split
 · exact hd
 split
 · exact ha
 exact hb
theorem xN{d a b:V}(hd:Has d t)(ha:Has a t)(hb:Has b t):Has (fD d a b) t:=by
 unfold fD
 split
 · exact hd
 split
 · exact ha
 exact hb
theorem sound{cs:ay}{row:List V}(hr:jB cs row):∀(e:E) (t:Nat) (v:V),e.ok 2000->typ cs e=.ok t->value cs row e=.ok v->G5 v/\Has v t
 |.null,t,v,_,ht,hv=>by cases ht;cases hv;exact⟨nE,.inl rfl⟩
 |.bool b,t,v,_,ht,hv=>by cases ht;cases hv;exact⟨jR b,kM b⟩
 |.num z,t,v,ho,ht,hv=>by cases ht;cases hv;exact⟨Di ho,.inr (.inl ⟨rfl,rfl⟩)⟩
 |.str s,t,v,_,ht,hv=>by
  cases ht
  simp only[value,pE]at hv
  split at hv
  · cases hv;exact⟨Cq (by assumption),.inr (.inr (.inl ⟨rfl,rfl⟩))⟩
  cases hv
 |.nm n,t,v,_,ht,hv=>by
  simp only[typ]at ht;simp only[value]at hv
  cases hp:place cs n with
  |none=>rw[hp]at ht hv;cases ht;cases hv;exact⟨nE,.inl rfl⟩
  |some i=>
   rw[hp]at ht hv
   cases ht;cases hv
   have hi:=yR hp
   have hi2:i<row.length:=by rw[hr.len];exact hi
   have e1:row.getD i aZ=row[i]:=by simp[List.getD,hi2]
   have e2:cs[i]? =Y2 cs[i]:=YP hi;rw[e1,e2];exact⟨hr.ok _ (List.getElem_mem hi2),hr.has i _ _ e2 (YP hi2)⟩
 |.un k e,t,v,ho,ht,hv=>by
  simp only[typ]at ht;simp only[value]at hv
  cases h1:typ cs e with
  |error c=>rw[h1]at ht;cases ht
  |ok u=>
   cases h2:value cs row e with
   |error c=>rw[h2]at hv;cases hv
   |ok x=>
    rw[h1]at ht;rw[h2]at hv;simp only at ht hv;obtain⟨hx,hh⟩:=sound hr e u x ho.2.2.2 h1 h2;have hk:=ho.1;have hk2:=ho.2.1;unfold sP at hv;unfold zi at ht
    split at hv
    · rename_i hk;subst hk
      cases hv
      simp at ht;subst ht;exact⟨jR _,kM _⟩
    split at hv
    · rename_i hk;subst hk
      cases hv
      simp at ht;subst ht;exact⟨jR _,kM _⟩
    split at hv
    · cases hv;exact⟨nE,.inl rfl⟩
    rename_i hn
    split at hv
    · rename_i hk;subst hk
      cases hv
      simp at ht;obtain⟨rfl,_⟩:=yD ht;exact⟨jR _,kM _⟩
    have hk3:k=19:=by omega
    subst hk3;simp at ht;obtain⟨rfl,_⟩:=yD ht
    cases hc:ck (-x.int)with
    |error c=>rw[hc]at hv;cases hv
    |ok z=>
     rw[hc]at hv;cases hv;exact⟨Di (Fe hc),.inr (.inl ⟨rfl,rfl⟩)⟩
 |.bin k a b,t,v,ho,ht,hv=>by
  simp only[typ]at ht;simp only[value]at hv
  cases h1:typ cs a with
  |error c=>rw[h1]at ht;cases ht
  |ok ta=>
  cases h2:typ cs b with
  |error c=>rw[h1,h2]at ht;cases ht
  |ok tb=>
  cases h3:value cs row a with
  |error c=>rw[h3]at hv;cases hv
  |ok x=>
  cases h4:value cs row b with
  |error c=>rw[h3,h4]at hv;cases hv
  |ok y=>
   rw[h1,h2]at ht;rw[h3,h4]at hv;simp only at ht hv;obtain⟨hx,hhx⟩:=sound hr a ta x ho.2.2.1 h1 h3;obtain⟨hy,hhy⟩:=sound hr b tb y ho.2.2.2 h2 h4;have hk1:=ho.1;have hk2:=ho.2.1
   have one:∀(s:Nat),s≠0->gK s [ta,tb]=.ok t->t=s/\Has x s/\Has y s:=by
    intro s hs ha;obtain⟨rfl,hf⟩:=yD ha;exact⟨rfl,xE hhx (hf ta (by simp)) hs (fun h=>P5 (h▸hhx)),xE hhy (hf tb (by simp)) hs (fun h=>P5 (h▸hhy))⟩
   unfold Gm at hv;unfold vI at ht
   split at hv
   · rename_i hk;subst hk;rw[if_pos (.inr rfl)]at ht;obtain⟨rfl,h5,h6⟩:=one 3 (by omega) ht
     cases hv
     exact⟨AB (jR _) hx hy,xN (kM _) h5 h6⟩
   split at hv
   · rename_i hk;subst hk;rw[if_pos (.inl rfl)]at ht;obtain⟨rfl,h5,h6⟩:=one 3 (by omega) ht
     cases hv
     exact⟨AB (jR _) hx hy,xN (kM _) h5 h6⟩
   rename_i hka hko;rw[if_neg (by omega)]at ht
   split at hv
   · cases hv;exact⟨nE,.inl rfl⟩
   rename_i hn
   split at hv
   · rename_i hk;subst hk;rw[if_pos rfl]at ht;obtain⟨rfl,h5,h6⟩:=one 2 (by omega) ht;unfold pE at hv
     split at hv
     · cases hv;exact⟨Cq (by assumption),.inr (.inr (.inl ⟨rfl,rfl⟩))⟩
     cases hv
   rename_i hk31;rw[if_neg hk31]at ht
   split at hv
   · rename_i hk;rw[if_neg (by omega)]at ht
     cases hv
     cases hal:gK ta [tb]with
     |error c=>rw[hal]at ht;cases ht
     |ok u=>rw[hal]at ht;cases ht;exact⟨jR _,kM _⟩
   rename_i hk;rw[if_pos (by omega)]at ht;obtain⟨rfl,h5,h6⟩:=one 1 (by omega) ht
   have hxn:x.kind≠14:=fun h=>hn (.inl (by simp[isNull,h]))
   have hx16:x.kind=16:=by
    rcases Rq h5 hxn with⟨_,h⟩|⟨h,_⟩|⟨h,_⟩
    · exact h
    · omega
    omega
   cases hc:arith k x.int y.int with
   |error c=>rw[hc]at hv;cases hv
   |ok z=>
    rw[hc]at hv;cases hv;exact⟨Di (O9 (hx.num hx16).1 hc),.inr (.inl ⟨rfl,rfl⟩)⟩
end Mg
end
namespace Mn
def NumOut(w:Y4)(r:Except Nat Int)(e:Ending)(w':Y4):Prop:=aaS w.heap.size w w'/\match r with
 |.ok z=>e=Yl (Yg Yh z)
 |.error c=>e=lL 0 c
theorem bD(c:Int)(w:Y4):aaT Zc 254 #[.bool true,Yg Yh c] w fun x w'=>x=Yl (Yn #[])/\w'=w:=by
 go_enter abb,abd;go_wp2
 go_end0
 exact⟨rfl,rfl⟩
theorem nD(c:Nat)(w:Y4):aaT Zc 254 #[.bool false,Yg Yh (c:Int)] w fun x w'=>x=lL 0 c/\aaS w.heap.size w w':=by
 go_enter abb,abd;go_wp2;exact⟨rfl,rfl,Zh _ _⟩
theorem mM(w:Y4):aaT Zc 254 #[.bool false,Yg Yh 12] w fun x w'=>x=lL 0 12/\aaS w.heap.size w w':=nD 12 w
theorem JD(w:Y4):aaT Zc 254 #[.bool false,Yg Yh 13] w fun x w'=>x=lL 0 13/\aaS w.heap.size w w':=nD 13 w
theorem tN(a:Int)(w:Y4)(ha: -9223372036854775808<=a/\a<=9223372036854775807):
   aaT Zc 255 #[Yg Yh a] w (NumOut w (Mg.ck (-a))):=by
 by_cases h:a= -9223372036854775808
 · have q1:(a != -9223372036854775808)=false:=by simpa using h
   have q2:(a== -9223372036854775808)=true:=by simpa using h
   have HR:=hd (Mg.xz (z:= -a) (by omega));clear h;go_enter abe,abf;go_wp2_with fail;refine(mM _).mono ?_;rintro x w1 ⟨rfl,hb1⟩;exact⟨rfl,hb1,by rw[HR.o];rfl⟩
 have q1:(a != -9223372036854775808)=true:=by simpa using h
 have q2:(a== -9223372036854775808)=false:=by simpa using h
 have HR:=hd (Mg.vG (z:= -a) (by omega) (by omega))
 have ha2: -9223372036854775807<=a:=by omega
 go_enter abe,abf;go_wp2_with fail;refine(bD _ _).mono ?_;rintro x w1 ⟨rfl,rfl⟩;go_wp2_with fail;go_ret;exact⟨Zh _ _,by rw[HR.o];rfl⟩
theorem QP(a b:Int)(w:Y4)(ha: -9223372036854775808<=a/\a<=9223372036854775807)(hb: -9223372036854775808<=b/\b<=9223372036854775807):
   aaT Zc 313 #[Yg Yh a,Yg Yh b] w (NumOut w (Mg.ck (a+b))):=by
 by_cases h0:0<b
 · have z0:decide (0<b)=true:=decide_eq_true h0;by_cases h:a<=9223372036854775807-b
   · have z1:decide (a<=9223372036854775807-b)=true:=decide_eq_true h;have HR:=hd (Mg.vG (z:=a+b) (by omega) (by omega));go_enter abg,abh;go_wp2_with fail;refine(bD _ _).mono ?_;rintro x w1 ⟨rfl,rfl⟩;go_wp2_with fail;go_ret;exact⟨Zh _ _,by rw[HR.o];rfl⟩
   have z1:decide (a<=9223372036854775807-b)=false:=decide_eq_false h;have HR:=hd (Mg.xz (z:=a+b) (by omega));go_enter abg,abh;go_wp2_with fail;refine(mM _).mono ?_;rintro x w1 ⟨rfl,hb1⟩;exact⟨rfl,hb1,by rw[HR.o];rfl⟩
 have z0:decide (0<b)=false:=decide_eq_false (by omega);by_cases h: -9223372036854775808-b<=a
 · have z1:decide (-9223372036854775808-b<=a)=true:=decide_eq_true h;have HR:=hd (Mg.vG (z:=a+b) (by omega) (by omega));go_enter abg,abh;go_wp2_with fail;refine(bD _ _).mono ?_;rintro x w1 ⟨rfl,rfl⟩;go_wp2_with fail;go_ret;exact⟨Zh _ _,by rw[HR.o];rfl⟩
 have z1:decide (-9223372036854775808-b<=a)=false:=decide_eq_false h;have HR:=hd (Mg.xz (z:=a+b) (by omega));go_enter abg,abh;go_wp2_with fail;refine(mM _).mono ?_;rintro x w1 ⟨rfl,hb1⟩;exact⟨rfl,hb1,by rw[HR.o];rfl⟩
theorem yx(a b:Int)(w:Y4)(ha: -9223372036854775808<=a/\a<=9223372036854775807)(hb: -9223372036854775808<=b/\b<=9223372036854775807):
   aaT Zc 314 #[Yg Yh a,Yg Yh b] w (NumOut w (Mg.ck (a-b))):=by
 by_cases h0:0<b
 · have z0:decide (0<b)=true:=decide_eq_true h0;by_cases h: -9223372036854775808+b<=a
   · have z1:decide (-9223372036854775808+b<=a)=true:=decide_eq_true h;have HR:=hd (Mg.vG (z:=a-b) (by omega) (by omega));go_enter abj,abk;go_wp2_with fail;refine(bD _ _).mono ?_;rintro x w1 ⟨rfl,rfl⟩;go_wp2_with fail;go_ret;exact⟨Zh _ _,by rw[HR.o];rfl⟩
   have z1:decide (-9223372036854775808+b<=a)=false:=decide_eq_false h;have HR:=hd (Mg.xz (z:=a-b) (by omega));go_enter abj,abk;go_wp2_with fail;refine(mM _).mono ?_;rintro x w1 ⟨rfl,hb1⟩;exact⟨rfl,hb1,by rw[HR.o];rfl⟩
 have z0:decide (0<b)=false:=decide_eq_false (by omega);by_cases h:a<=9223372036854775807+b
 · have z1:decide (a<=9223372036854775807+b)=true:=decide_eq_true h;have HR:=hd (Mg.vG (z:=a-b) (by omega) (by omega));go_enter abj,abk;go_wp2_with fail;refine(bD _ _).mono ?_;rintro x w1 ⟨rfl,rfl⟩;go_wp2_with fail;go_ret;exact⟨Zh _ _,by rw[HR.o];rfl⟩
 have z1:decide (a<=9223372036854775807+b)=false:=decide_eq_false h;have HR:=hd (Mg.xz (z:=a-b) (by omega));go_enter abj,abk;go_wp2_with fail;refine(mM _).mono ?_;rintro x w1 ⟨rfl,hb1⟩;exact⟨rfl,hb1,by rw[HR.o];rfl⟩
theorem gG(n:Int)(h: -9223372036854775808<=n/\n<=9223372036854775807):wrap64 n=n:=by unfold wrap64;omega
theorem SH(z:Int):∃k:Int,wrap64 z=z+k*18446744073709551616/\ -9223372036854775808<=wrap64 z/\wrap64 z<=9223372036854775807:=by
 have h:wrap64 z=(z+9223372036854775808)%18446744073709551616-9223372036854775808:=by unfold wrap64;rfl
 refine⟨-((z+9223372036854775808)/18446744073709551616),?_,?_,?_⟩<;>omega
theorem Fz(a b:Int)(w:Y4)(ha: -9223372036854775808<=a/\a<=9223372036854775807)(hb: -9223372036854775808<=b/\b<=9223372036854775807):
   aaT Zc 315 #[Yg Yh a,Yg Yh b] w (NumOut w (Mg.ck (a*b))):=by
 by_cases h0:a=0
 · subst h0
   have HR:Yf (Mg.ck (0*b)=.ok 0):=by show _=_;rw[Int.zero_mul];exact Mg.vG (by omega) (by omega)
   go_enter abl,abm;go_wp2_with fail;go_ret;exact⟨Zh _ _,by rw[HR.o];rfl⟩
 by_cases h1:a= -1
 · subst h1
   have HR:Yf (Mg.ck (-1*b)=Mg.ck (-b)):=by show _=_;congr 1;omega
   have HN:=hd (tN b w hb);go_enter abl,abm;go_wp2_with fail;refine HN.o.mono ?_;rintro x w1 ⟨hb1,hx⟩;have HB:=hd hb1;have HX:=hd hx
   cases hc:Mg.ck (-b)with
   |ok z=>
    rw[hc]at HR HX;obtain rfl:=HX.o;go_wp2_with fail;go_ret;exact⟨HB.o,by rw[HR.o];rfl⟩
   |error c=>
    rw[hc]at HR HX;clear hc;obtain rfl:=HX.o;clear HX;exact⟨rfl,HB.o,by first|rfl|(rw[HR.o];rfl)⟩
 obtain⟨k,hk,hw1,hw2⟩:=SH (a*b)
 have q0:(a==0)=false:=by simpa using h0
 have q1:(a== -1)=false:=by simpa using h1
 by_cases hf: -9223372036854775808<=a*b/\a*b<=9223372036854775807
 · have HR:=hd (Mg.vG (z:=a*b) hf.1 hf.2);have HE:=hd (gG (a*b) hf)
   have HQ:Yf ((wrap64 ((wrap64 (a*b)).tdiv a)==b)=true):=by show _=_;rw[HE.o,Mg.Om h0,gG b hb];simp
   clear hk hw1 hw2 hf;go_enter abl,abm;go_wp2_with fail;rw[HQ.o];refine(bD _ _).mono ?_;rintro x w1 ⟨rfl,rfl⟩;go_wp2_with fail;go_ret;exact⟨Zh _ _,by rw[HR.o];first|rfl|(rw[HE.o];rfl)|(simp[HE.o])⟩
 have HR:=hd (Mg.xz (z:=a*b) (by omega))
 have HQ:Yf ((wrap64 ((wrap64 (a*b)).tdiv a)==b)=false):=by
  have hne:(wrap64 (a*b)).tdiv a≠b:=Mg.OZ h0 ha k hk (by rintro rfl;omega);have hfit:=Mg.J4 ⟨hw1,hw2⟩ h0 (fun h=>h1 h.2);show _=_;rw[gG _ hfit];simpa using hne
 clear hk hw1 hw2 hf;go_enter abl,abm;go_wp2_with fail;rw[HQ.o];refine(mM _).mono ?_;rintro x w1 ⟨rfl,hb1⟩;exact⟨rfl,hb1,by rw[HR.o];rfl⟩
theorem Da(a b:Int)(w:Y4)(ha: -9223372036854775808<=a/\a<=9223372036854775807)(hb: -9223372036854775808<=b/\b<=9223372036854775807):
   aaT Zc 316 #[Yg Yh a,Yg Yh b] w (NumOut w (Mg.arith 35 a b)):=by
 by_cases h0:b=0
 · have q1:(b !=0)=false:=by simpa using h0
   have HR:Yf (Mg.arith 35 a b=.error 13):=by show _=_;simp[Mg.arith,h0]
   clear h0;go_enter abn,abo;go_wp2_with fail;refine(JD _).mono ?_;rintro x w1 ⟨rfl,hb1⟩;exact⟨rfl,hb1,by rw[HR.o];rfl⟩
 have q1:(b !=0)=true:=by simpa using h0
 have q0:(b==0)=false:=by simpa using h0
 have HR0:Yf (Mg.arith 35 a b=Mg.ck (a.tdiv b)):=by show _=_;simp[Mg.arith,h0]
 by_cases h1:a= -9223372036854775808/\b= -1
 · have HR:Yf (Mg.arith 35 a b=.error 12):=by
    show _=_;rw[HR0.o,h1.1,h1.2];exact Mg.xz (by decide)
   have q2:(a != -9223372036854775808)=false:=by simpa using h1.1
   have q3:(b != -1)=false:=by simpa using h1.2
   clear h1 h0;go_enter abn,abo;go_wp2_with fail;refine(bD _ _).mono ?_;rintro x w1 ⟨rfl,rfl⟩;go_wp2_with fail;refine(mM _).mono ?_;rintro x w1 ⟨rfl,hb1⟩;exact⟨rfl,hb1,by rw[HR.o];rfl⟩
 have hfit:=Mg.J4 ha h0 h1
 have HR:Yf (Mg.arith 35 a b=.ok (a.tdiv b)):=by show _=_;rw[HR0.o];exact Mg.vG hfit.1 hfit.2
 have q2:((a != -9223372036854775808)||(b != -1))=true:=by
  rcases Classical.em (a= -9223372036854775808)with h|h
  · have:b≠ -1:=fun e=>h1 ⟨h,e⟩
    simp[this]
  simp[h]
 have VD:=hd hfit;by_cases h2:a= -9223372036854775808
 · have q3:(a != -9223372036854775808)=false:=by simpa using h2
   have q4:(b != -1)=true:=by have:b≠ -1:=fun e=>h1 ⟨h2,e⟩;simpa using this
   clear h1 h2 q2;go_enter abn,abo;go_wp2_with fail;refine(bD _ _).mono ?_;rintro x w1 ⟨rfl,rfl⟩;go_wp2_with fail;refine(bD _ _).mono ?_;rintro x w1 ⟨rfl,rfl⟩;go_wp2_with fail;go_ret;exact⟨Zh _ _,by rw[HR.o];rfl⟩
 have q3:(a != -9223372036854775808)=true:=by simpa using h2
 clear h1 h2 q2;go_enter abn,abo;go_wp2_with fail;refine(bD _ _).mono ?_;rintro x w1 ⟨rfl,rfl⟩;go_wp2_with fail;refine(bD _ _).mono ?_;rintro x w1 ⟨rfl,rfl⟩;go_wp2_with fail;go_ret;exact⟨Zh _ _,by rw[HR.o];rfl⟩
theorem Ad(a b:Int)(w:Y4)(ha: -9223372036854775808<=a/\a<=9223372036854775807)(hb: -9223372036854775808<=b/\b<=9223372036854775807):
   aaT Zc 317 #[Yg Yh a,Yg Yh b] w (NumOut w (Mg.arith 36 a b)):=by
 by_cases h0:b=0
 · have q1:(b !=0)=false:=by simpa using h0
   have HR:Yf (Mg.arith 36 a b=.error 13):=by show _=_;simp[Mg.arith,h0]
   clear h0;go_enter abp,abq;go_wp2_with fail;refine(JD _).mono ?_;rintro x w1 ⟨rfl,hb1⟩;exact⟨rfl,hb1,by rw[HR.o];rfl⟩
 have q1:(b !=0)=true:=by simpa using h0
 have q0:(b==0)=false:=by simpa using h0
 have HR:Yf (Mg.arith 36 a b=.ok (a.tmod b)):=by show _=_;simp[Mg.arith,h0]
 go_enter abp,abq;go_wp2_with fail;refine(bD _ _).mono ?_;rintro x w1 ⟨rfl,rfl⟩;go_wp2_with fail;go_ret;exact⟨Zh _ _,by rw[HR.o];rfl⟩
end Mn
namespace Mn
theorem yF(w:Y4):(ZV (Yo 290 (Yj #[])) 98 285 true).run Zc w=.ok (Yn #[Yj #[.bool false],.bool false]) w:=by kernel_rfl
theorem sK(w:Y4):(ZV (Yo 290 (Yj #[])) 98 287 true).run Zc w=.ok (Yn #[Yj #[Yg Yh 0],.bool false]) w:=by kernel_rfl
theorem ui(w:Y4):(ZV (Yo 290 (Yj #[])) 98 289 true).run Zc w=.ok (Yn #[Yj #[Yi ⟨#[]⟩],.bool false]) w:=by kernel_rfl
theorem qN(w:Y4):(ZV (Yo 290 (Yj #[])) 98 271 true).run Zc w=.ok (Yn #[Yj #[Yi ⟨#[]⟩],.bool false]) w:=by kernel_rfl
theorem nN(w:Y4):(ZV (Yo 290 (Yj #[])) 98 292 true).run Zc w=.ok (Yn #[Yj #[Yg Yh 0,Yq],.bool false]) w:=by kernel_rfl
theorem nu(w:Y4):(ZV (Yo 290 (Yj #[])) 98 294 true).run Zc w=.ok (Yn #[Yj #[Yg Yh 0,Yq,Yq],.bool false]) w:=by kernel_rfl
theorem rF(a:Y3)(w:Y4):(ZV (Yo 285 (Yj #[a])) 98 285 true).run Zc w=.ok (Yn #[Yj #[a],.bool true]) w:=by kernel_rfl
theorem I9(a:Y3)(w:Y4):(ZV (Yo 285 (Yj #[a])) 98 271 true).run Zc w=.ok (Yn #[Yj #[Yi ⟨#[]⟩],.bool false]) w:=by kernel_rfl
theorem GH(a:Y3)(w:Y4):(ZV (Yo 285 (Yj #[a])) 98 292 true).run Zc w=.ok (Yn #[Yj #[Yg Yh 0,Yq],.bool false]) w:=by kernel_rfl
theorem DI(a:Y3)(w:Y4):(ZV (Yo 285 (Yj #[a])) 98 294 true).run Zc w=.ok (Yn #[Yj #[Yg Yh 0,Yq,Yq],.bool false]) w:=by kernel_rfl
theorem rT(a:Y3)(w:Y4):(ZV (Yo 287 (Yj #[a])) 98 285 true).run Zc w=.ok (Yn #[Yj #[.bool false],.bool false]) w:=by kernel_rfl
theorem oI(a:Y3)(w:Y4):(ZV (Yo 287 (Yj #[a])) 98 287 true).run Zc w=.ok (Yn #[Yj #[a],.bool true]) w:=by kernel_rfl
theorem CZ(a:Y3)(w:Y4):(ZV (Yo 287 (Yj #[a])) 98 271 true).run Zc w=.ok (Yn #[Yj #[Yi ⟨#[]⟩],.bool false]) w:=by kernel_rfl
theorem Az(a:Y3)(w:Y4):(ZV (Yo 287 (Yj #[a])) 98 292 true).run Zc w=.ok (Yn #[Yj #[Yg Yh 0,Yq],.bool false]) w:=by kernel_rfl
theorem yH(a:Y3)(w:Y4):(ZV (Yo 287 (Yj #[a])) 98 294 true).run Zc w=.ok (Yn #[Yj #[Yg Yh 0,Yq,Yq],.bool false]) w:=by kernel_rfl
theorem uw(a:Y3)(w:Y4):(ZV (Yo 289 (Yj #[a])) 98 285 true).run Zc w=.ok (Yn #[Yj #[.bool false],.bool false]) w:=by kernel_rfl
theorem oC(a:Y3)(w:Y4):(ZV (Yo 289 (Yj #[a])) 98 287 true).run Zc w=.ok (Yn #[Yj #[Yg Yh 0],.bool false]) w:=by kernel_rfl
theorem nO(a:Y3)(w:Y4):(ZV (Yo 289 (Yj #[a])) 98 289 true).run Zc w=.ok (Yn #[Yj #[a],.bool true]) w:=by kernel_rfl
theorem CG(a:Y3)(w:Y4):(ZV (Yo 289 (Yj #[a])) 98 271 true).run Zc w=.ok (Yn #[Yj #[Yi ⟨#[]⟩],.bool false]) w:=by kernel_rfl
theorem Au(a:Y3)(w:Y4):(ZV (Yo 289 (Yj #[a])) 98 292 true).run Zc w=.ok (Yn #[Yj #[Yg Yh 0,Yq],.bool false]) w:=by kernel_rfl
theorem zJ(a:Y3)(w:Y4):(ZV (Yo 289 (Yj #[a])) 98 294 true).run Zc w=.ok (Yn #[Yj #[Yg Yh 0,Yq,Yq],.bool false]) w:=by kernel_rfl
theorem xV(a:Y3)(w:Y4):(ZV (Yo 271 (Yj #[a])) 98 285 true).run Zc w=.ok (Yn #[Yj #[.bool false],.bool false]) w:=by kernel_rfl
theorem sH(a:Y3)(w:Y4):(ZV (Yo 271 (Yj #[a])) 98 287 true).run Zc w=.ok (Yn #[Yj #[Yg Yh 0],.bool false]) w:=by kernel_rfl
theorem tQ(a:Y3)(w:Y4):(ZV (Yo 271 (Yj #[a])) 98 289 true).run Zc w=.ok (Yn #[Yj #[Yi ⟨#[]⟩],.bool false]) w:=by kernel_rfl
theorem rC(a:Y3)(w:Y4):(ZV (Yo 271 (Yj #[a])) 98 271 true).run Zc w=.ok (Yn #[Yj #[a],.bool true]) w:=by kernel_rfl
theorem vT(a b:Y3)(w:Y4):(ZV (Yo 292 (Yj #[a,b])) 98 285 true).run Zc w=.ok (Yn #[Yj #[.bool false],.bool false]) w:=by kernel_rfl
theorem qA(a b:Y3)(w:Y4):(ZV (Yo 292 (Yj #[a,b])) 98 287 true).run Zc w=.ok (Yn #[Yj #[Yg Yh 0],.bool false]) w:=by kernel_rfl
theorem qg(a b:Y3)(w:Y4):(ZV (Yo 292 (Yj #[a,b])) 98 289 true).run Zc w=.ok (Yn #[Yj #[Yi ⟨#[]⟩],.bool false]) w:=by kernel_rfl
theorem pg(a b:Y3)(w:Y4):(ZV (Yo 292 (Yj #[a,b])) 98 271 true).run Zc w=.ok (Yn #[Yj #[Yi ⟨#[]⟩],.bool false]) w:=by kernel_rfl
theorem mU(a b:Y3)(w:Y4):(ZV (Yo 292 (Yj #[a,b])) 98 292 true).run Zc w=.ok (Yn #[Yj #[a,b],.bool true]) w:=by kernel_rfl
theorem sJ(a b c:Y3)(w:Y4):(ZV (Yo 294 (Yj #[a,b,c])) 98 285 true).run Zc w=.ok (Yn #[Yj #[.bool false],.bool false]) w:=by kernel_rfl
theorem pI(a b c:Y3)(w:Y4):(ZV (Yo 294 (Yj #[a,b,c])) 98 287 true).run Zc w=.ok (Yn #[Yj #[Yg Yh 0],.bool false]) w:=by kernel_rfl
theorem oL(a b c:Y3)(w:Y4):(ZV (Yo 294 (Yj #[a,b,c])) 98 289 true).run Zc w=.ok (Yn #[Yj #[Yi ⟨#[]⟩],.bool false]) w:=by kernel_rfl
theorem ng(a b c:Y3)(w:Y4):(ZV (Yo 294 (Yj #[a,b,c])) 98 271 true).run Zc w=.ok (Yn #[Yj #[Yi ⟨#[]⟩],.bool false]) w:=by kernel_rfl
theorem lS(a b c:Y3)(w:Y4):(ZV (Yo 294 (Yj #[a,b,c])) 98 292 true).run Zc w=.ok (Yn #[Yj #[Yg Yh 0,Yq],.bool false]) w:=by kernel_rfl
theorem kG(a b c:Y3)(w:Y4):(ZV (Yo 294 (Yj #[a,b,c])) 98 294 true).run Zc w=.ok (Yn #[Yj #[a,b,c],.bool true]) w:=by kernel_rfl
end Mn
namespace Mg
def val:Px.E->Except Nat Int
 |.num z=> .ok z
 |.bin k a b=>match val a with
  |.error c=> .error c
  |.ok x=>match val b with
   |.error c=> .error c
   |.ok y=>arith k x y
 |_=> .error 0
end Mg
namespace Mn
theorem zF(k:Nat)(a b:Int)(w:Y4)(hk:32<=k/\k<=36)(ha: -9223372036854775808<=a/\a<=9223372036854775807)(hb: -9223372036854775808<=b/\b<=9223372036854775807):
   aaT Zc 258 #[Yg Yh (k:Int),Yg Yh a,Yg Yh b] w (NumOut w (Mg.arith k a b)):=by
 have hk':k=32\/k=33\/k=34\/k=35\/k=36:=by omega
 clear hk
 have h32:Mg.arith 32 a b=Mg.ck (a+b):=by simp[Mg.arith]
 have h33:Mg.arith 33 a b=Mg.ck (a-b):=by simp[Mg.arith]
 have h34:Mg.arith 34 a b=Mg.ck (a*b):=by simp[Mg.arith]
 have s:=QP a b w ha hb;have d:=yx a b w ha hb;have p:=Fz a b w ha hb;rw[<-h32]at s;rw[<-h33]at d;rw[<-h34]at p;have HS:=hd s;have HD:=hd d;have HP:=hd p;have HQ:=hd (Da a b w ha hb);have HM:=hd (Ad a b w ha hb);clear s d p h32 h33 h34;rcases hk' with rfl|rfl|rfl|rfl|rfl
 all_goals
  go_enter Tryz.func258,Tryz.ntmps258;go_wp2_with fail
  first
   |refine HS.o.mono ?_
   |refine HD.o.mono ?_
   |refine HP.o.mono ?_
   |refine HQ.o.mono ?_
   |refine HM.o.mono ?_
  rintro x w1 ⟨hb1,hx⟩;have HB:=hd hb1;have HX:=hd hx;clear hb1 hx HS HD HP HQ HM;generalize Mg.arith _ a b=r at*
  cases r with
  |ok z=>
   obtain rfl:=HX.o;clear HX;go_wp2_with fail;go_ret;exact⟨HB.o,rfl⟩
  |error c=>
   obtain rfl:=HX.o;clear HX;exact⟨rfl,HB.o,rfl⟩
theorem kE(z:Int)(w:Y4):aaT Zc 198 #[Yg Yh z] w fun x w'=>x=Yl (Yj #[Yg Yh 16,Yg Yh z,Yi ⟨#[]⟩])/\aaS w.heap.size w w':=by
 go_enter Tryz.func198,Tryz.ntmps198;go_wp2_with fail;refine aaU (v:=Yj #[Yg Yh 16,Yg Yh z,Yi ⟨#[]⟩]) (by simp[aaW,Tryz.results198,go_sem]) rfl ?_;exact⟨rfl,by go_grown⟩
theorem aH(kd z:Int)(s:ByteArray)(w:Y4):aaT Zc 148 #[Yj #[Yg Yh kd,Yg Yh z,.string s]] w fun x w'=>x=Yl (.bool (kd==14))/\aaS w.heap.size w w':=by
 go_enter Tryz.func148,Tryz.ntmps148;go_wp2_with fail;go_ret;exact⟨rfl,by go_grown⟩
end Mn
namespace Ts
theorem dm(s:ByteArray)(w:Y4):aaT Zc 240 #[.string s] w fun x w'=>x=Yl (.bool false)/\w'=w:=by
 go_enter Tryz.func240,Tryz.ntmps240;go_wp2_with fail;go_ret;exact⟨rfl,rfl⟩
theorem lZ:∀l:List UInt8,Op.bytesLess l l=false
 |[]=>rfl
 |b::l=>by
  have:=lZ l;simp[Op.bytesLess,this]
theorem mW(s:ByteArray)(w:Y4):aaT Zc 187 #[.string s,.string s] w fun x w'=>x=Yl (Yg Yh 0)/\w'=w:=by
 have hl:=lZ s.toList;go_enter abr,abt;go_wp2_with fail;refine(dm _ _).mono ?_;rintro x w1 ⟨rfl,rfl⟩;go_wp2_with fail;refine(dm _ _).mono ?_;rintro x w1 ⟨rfl,rfl⟩;go_wp2_with fail;go_ret;exact⟨rfl,rfl⟩
theorem xC(s:ByteArray)(v:Y3)(po:Option abR)(w:Y4)(hv:v=.pointer po):aaT Zc 186 #[Yj #[.string s,v],.string s] w fun x w'=>x=Yl (Yg Yh 0)/\aaS w.heap.size w w':=by
 subst hv
 have HB:Yf (aaS w.heap.size w (w.alloc (Yk #[.string s,.pointer po] 257))):=by show aaS _ _ _;go_grown
 go_enter Tryz.func186,Tryz.ntmps186;go_wp2_with fail;refine(mW _ _).mono ?_;rintro x w1 ⟨rfl,rfl⟩;go_wp2_with fail;go_ret;exact⟨rfl,HB.o⟩
theorem Gc(s:ByteArray)(w:Y4):aaT Zc 185 #[Yp Y1 0 0,.string s,.func (.func 186) #[] #[]] w fun x w'=>x=Yl (Yn #[Yg Yh 0,.bool false])/\w'=w:=by
 go_enter abu,abv;go_wp2_with fail;go_loopw [9,10] (fun i j wr=>i=Yg Yh 0/\j=Yg Yh 0/\wr=w) (fun _ _ _=>0)
 case atStart=>exact⟨rfl,rfl,rfl⟩
 case round=>
  obtain⟨rfl,rfl,rfl⟩:=hrel;go_wp2_with fail
  go_ret2
  exact⟨rfl,rfl⟩
theorem Iw(s:ByteArray)(po:Option abR)(g cap:Nat)(w:Y4)(hg:g<w.heap.size)(c0:w.cell? ⟨g,0,Y1⟩=Y2 (.string s))(c1:w.cell? ⟨g,1,Y1⟩=Y2 (.pointer po)):
   aaT Zc 185 #[Yp (Y2 ⟨g,0,Y1⟩) 1 cap,.string s,.func (.func 186) #[] #[]] w fun x w'=>x=Yl (Yn #[Yg Yh 0,.bool true])/\aaS w.heap.size w w':=by
 go_enter abu,abv;go_wp2_with fail;go_loopw [9,10] (fun i j wr=>∃k:Nat,k<=1/\i=Yg Yh 0/\j=Yg Yh k/\Yf (aaS w.heap.size w wr)) (fun _ j _=>(intOf j).toNat)
 case atStart=>exact⟨1,by omega,rfl,rfl,Zh _ _⟩
 case round=>
  obtain⟨k,hk,rfl,rfl,HW⟩:=hrel;have d0:=(HW.o.cell (p:=⟨g,0,Y1⟩) hg).trans c0;have d1:=(HW.o.cell (p:=⟨g,1,Y1⟩) hg).trans c1;have hg2:=nlA hg HW.o.size;rcases(show k=0\/k=1 by omega)with rfl|rfl
  · go_wp2_with fail;refine(xC s _ po _ rfl).mono ?_;rintro x w1 ⟨rfl,hb⟩;have HW1:Yf (aaS w.heap.size w w1):=HW.o.trans (hb.mono HW.o.size);clear hb;go_wp2_with fail
    go_ret2
    exact⟨rfl,HW1.o⟩
  go_wp2_with fail;refine(xC s _ po _ rfl).mono ?_;rintro x w1 ⟨rfl,hb⟩;have HW1:Yf (aaS w.heap.size w w1):=HW.o.trans (hb.mono HW.o.size);clear hb;go_wp2_with fail;go_roundw
  case rel=>exact⟨0,by omega,rfl,rfl,HW1⟩
  case measure=>simp[intOf]
end Ts
namespace Ts
theorem BH(s:ByteArray)(b off:Nat)(w:Y4)(hb:b<w.heap.size)(c0:w.cell? ⟨b,off,Y1⟩=Y2 (Yp Y1 0 0)):
   aaT Zc 138 #[Ym (Y2 ⟨b,off,Y1⟩),.string s] w fun x w'=>x=Yl (Yn #[Yg Yh 0,.bool false])/\w'=w:=by
 go_enter abw,abx;go_wp2_with fail;refine(Gc s _).mono ?_;rintro x w1 ⟨rfl,rfl⟩;go_wp2_with fail
 go_ret2
 exact⟨rfl,rfl⟩
theorem Pk(s:ByteArray)(po:Option abR)(g cap b off:Nat)(w:Y4)(hb:b<w.heap.size)(c0:w.cell? ⟨b,off,Y1⟩=Y2 (Yp (Y2 ⟨g,0,Y1⟩) 1 cap))(hg:g<w.heap.size)(e0:w.cell? ⟨g,0,Y1⟩=Y2 (.string s))(e1:w.cell? ⟨g,1,Y1⟩=Y2 (.pointer po)):
   aaT Zc 138 #[Ym (Y2 ⟨b,off,Y1⟩),.string s] w fun x w'=>x=Yl (Yn #[Yg Yh 0,.bool true])/\aaS w.heap.size w w':=by
 have HS:=hd (Iw s po g cap w hg e0 e1);go_enter abw,abx;go_wp2_with fail;refine HS.o.mono ?_;rintro x w1 ⟨rfl,h1⟩;have HB:=hd h1;go_wp2_with fail
 go_ret2
 exact⟨rfl,HB.o⟩
theorem zG(b off:Nat)(w:Y4)(hb:b<w.heap.size)(c1:w.cell? ⟨b,off+1,Y1⟩=Y2 (Yp Y1 0 0)):
   aaT Zc 139 #[Ym (Y2 ⟨b,off,Y1⟩)] w fun x w'=>x=Yl (.bool true)/\w'=w:=by
 go_enter Tryz.func139,Tryz.ntmps139;go_wp2_with fail;go_ret;exact⟨rfl,rfl⟩
theorem get_none(s:ByteArray)(b off:Nat)(w:Y4)(hb:b<w.heap.size)(c0:w.cell? ⟨b,off,Y1⟩=Y2 (Yp Y1 0 0))(c1:w.cell? ⟨b,off+1,Y1⟩=Y2 (Yp Y1 0 0)):
   aaT Zc 72 #[Ym (Y2 ⟨b,off,Y1⟩),.string s] w fun x w'=>x=Yl (Yn #[.pointer Y1,.bool false])/\w'=w:=by
 go_enter aby,abz;go_wp2_with fail;go_loopw [6] (fun n wr=>n=Ym (Y2 ⟨b,off,Y1⟩)/\wr=w) (fun _ _=>0)
 case atStart=>exact⟨rfl,rfl⟩
 case round=>
  obtain⟨rfl,rfl⟩:=hrel;go_wp2_with fail;refine(BH s b off _ hb c0).mono ?_;rintro x w1 ⟨rfl,rfl⟩;go_wp2_with fail;refine(zG b off _ hb c1).mono ?_;rintro x w1 ⟨rfl,rfl⟩;go_wp2_with fail
  go_ret2
  exact⟨rfl,rfl⟩
theorem Rh(s:ByteArray)(po:Option abR)(g cap b off:Nat)(w:Y4)(hb:b<w.heap.size)(c0:w.cell? ⟨b,off,Y1⟩=Y2 (Yp (Y2 ⟨g,0,Y1⟩) 1 cap))(hg:g<w.heap.size)(e0:w.cell? ⟨g,0,Y1⟩=Y2 (.string s))(e1:w.cell? ⟨g,1,Y1⟩=Y2 (.pointer po)):
   aaT Zc 72 #[Ym (Y2 ⟨b,off,Y1⟩),.string s] w fun x w'=>x=Yl (Yn #[.pointer po,.bool true])/\aaS w.heap.size w w':=by
 have HF:=hd (Pk s po g cap b off w hb c0 hg e0 e1);go_enter aby,abz;go_wp2_with fail;go_loopw [6] (fun n wr=>n=Ym (Y2 ⟨b,off,Y1⟩)/\wr=w) (fun _ _=>0)
 case atStart=>exact⟨rfl,rfl⟩
 case round=>
  obtain⟨rfl,rfl⟩:=hrel;go_wp2_with fail;refine HF.o.mono ?_;rintro x w1 ⟨rfl,h1⟩;have d0:=(h1.cell (p:=⟨b,off,Y1⟩) hb).trans c0;have d1:=(h1.cell (p:=⟨g,1,Y1⟩) hg).trans e1;have hb1:=nlA hb h1.size;have hg1:=nlA hg h1.size;have HB:=hd h1;go_wp2_with fail
  go_ret2
  exact⟨rfl,HB.o⟩
theorem Dv(b off:Nat)(n:Int)(w:Y4)(hb:b<w.heap.size)(c2:w.cell? ⟨b,off+2,Y1⟩=Y2 (Yg Yh n)):
   aaT Zc 75 #[Ym (Y2 ⟨b,off,Y1⟩)] w fun x w'=>x=Yl (Yg Yh n)/\w'=w:=by
 go_enter Tryz.func75,Tryz.ntmps75;go_wp2_with fail;go_ret;exact⟨rfl,rfl⟩
theorem au{w:Y4}{b b':Nat}{T:Y5}{s:Nat}{v:Y3}{n:Nat}{xs:List Y3}(h:w.ownsRow b T s v n xs)(hb:b'<=b):w.ownsRow b' T s v n xs:=by
 refine⟨h.1,?_⟩;rcases h.2 with h2|⟨g,cap,cur,h0,h1,h2⟩
 · exact .inl h2
 exact .inr ⟨g,cap,cur,h0,Nat.le_trans hb h1,h2⟩
theorem Tryz.info257:(Tryz.prog.info? 257).map (fun i=>(i.zero,i.size,i.bytes))=Y2 (Y2 (Yj #[Yi ⟨#[]⟩,.pointer Y1]),2,24):=by kernel_rfl
theorem Gx(s:ByteArray)(po:Option abR)(g:Nat)(w:Y4)(hg:g<w.heap.size)(e0:w.cell? ⟨g,0,Y1⟩=Y2 (.string s))(e1:w.cell? ⟨g,1,Y1⟩=Y2 (.pointer po)):
   aaT Zc 188 #[Yp Y1 0 0,Yg Yh 0,Yp (Y2 ⟨g,0,Y1⟩) 1 1] w fun x w'=>aaS w.heap.size w w'/\∃v,x=Yl v/\w'.ownsRow w.heap.size 257 2 v 1 [.string s,.pointer po]:=by
 obtain⟨i0,hi,hz0,hz1,hz2⟩:=info_parts Tryz.info257
 have HC:Yf (∀j u,([.string s,.pointer po]:List Y3)[j]? =Y2 u->w.cell? ((⟨g,0,Y1⟩:abR).add j)=Y2 u):=fun j u hu=>by
  rw[Addr.add_lit,Nat.zero_add]
  match j,hu with
  |0,hu=>simp at hu;rw[<-hu];exact e0
  |1,hu=>simp at hu;rw[<-hu];exact e1
 go_enter Tryz.func188,Tryz.ntmps188
 go_wp2_with(first
  |(at_builtin;refine wpList_append_own _ rfl _ _ 61 rfl w.heap.size 257 i0 (Yj #[Yi ⟨#[]⟩,.pointer Y1]) 2 24 Tryz.underlying61 hi hz0 hz1 hz2 rfl (by decide) _ _ _ rfl (World.ownsRow_nil _ _ _ _) ⟨g,0,Y1⟩ 1 1 [.string s,.pointer po] rfl rfl ?c1 ?c2 ?c3 ?c4 ?c5 ?_)
  |fail)
 case c1=>exact HC.o
 case c2=>intro u hu;simp at hu;rcases hu with rfl|rfl<;>rfl
 case c3=>simp[maxLen]
 case c4=>omega
 case c5=>exact nlr _
 intro v' w3 hown hgrow _;have HB:Yf (aaS w.heap.size w w3):=⟨hgrow.os,hgrow.tape,hgrow.output,hgrow.size,fun k hk=>hgrow.block k hk (by simp[Value.ownBlock])⟩;obtain⟨ao',n',cp',rfl⟩:=Ki hown;have HO:=hd hown;go_wp2_with fail;go_ret;exact⟨HB.o,_,rfl,HO.o⟩
theorem Oa(s:ByteArray)(po:Option abR)(b off:Nat)(cs:Array Y3)(T:Y5)(w:Y4)(hB:ae w b cs T)(h0:cs[off]? =Y2 (Yp Y1 0 0))(h1:cs[off+1]? =Y2 (Yp Y1 0 0)):
   aaT Zc 140 #[Ym (Y2 ⟨b,off,Y1⟩),Yj #[.string s,.pointer po]] w fun x w'=>x=Yl (.bool true)/\∃v w1,aaS w.heap.size w w1/\w1.ownsRow w.heap.size 257 2 v 1 [.string s,.pointer po]/\w'=w1.setCell ⟨b,off,Y1⟩ v:=by
 have HBK:=hd hB;have HC0:=hd h0;have hb:=hB.lt;have c0:=(hB.cell off).trans h0;have c1:=(hB.cell (off+1)).trans h1
 have HB0:Yf (aaS w.heap.size w (w.alloc (Yk #[.string s,.pointer po] 257))):=by show aaS _ _ _;go_grown
 have HK0:=hd (ae.new w #[.string s,.pointer po] 257);have hl0:=HK0.o.lt;have d0:=(HB0.o.cell (p:=⟨b,off,Y1⟩) hb).trans c0;have d1:=(HB0.o.cell (p:=⟨b,off+1,Y1⟩) hb).trans c1;have hb0:=nlA hb HB0.o.size;have HFN:=hd (BH s b off _ hb0 d0);have HLF:=hd (zG b off _ hb0 d1);have HE1:=hd (ae.new (w.alloc (Yk #[.string s,.pointer po] 257)) #[.string s,.pointer po] 257)
 have HB1:Yf (aaS w.heap.size w ((w.alloc (Yk #[.string s,.pointer po] 257)).alloc (Yk #[.string s,.pointer po] 257))):=by show aaS _ _ _;go_grown
 have hl1:=HE1.o.lt
 have hsz:(w.alloc (Yk #[.string s,.pointer po] 257)).heap.size=w.heap.size+1:=by simp
 rw[hsz]at HE1 hl1;have HIN:=hd (Gx s po (w.heap.size+1) (abA ((w.alloc (Yk #[.string s,.pointer po] 257)).alloc (Yk #[.string s,.pointer po] 257))) hl1 ((HE1.o.drew.cell 0).trans rfl) ((HE1.o.drew.cell 1).trans rfl));have hle:w.heap.size<=(abA ((w.alloc (Yk #[.string s,.pointer po] 257)).alloc (Yk #[.string s,.pointer po] 257))).heap.size:=HB1.o.size;go_enter Tryz.func140,Tryz.ntmps140;go_wp2_with fail;refine HFN.o.mono ?_;rintro x w1 ⟨rfl,rfl⟩;go_wp2_with fail;refine HLF.o.mono ?_;rintro x w1 ⟨rfl,rfl⟩;go_wp2_with fail
 go_region_with (
   go_at_call 188
   refine HIN.o.mono ?_;rintro x w2 ⟨hb2,v,rfl,hown⟩;have HB2:=hd (HB1.o.drew.trans (hb2.mono HB1.o.size));have K2:=HBK.o.below HB2.o hb;have g0:=(K2.cell off).trans HC0.o;have g1:=K2.free off;have hb3:=K2.lt;obtain⟨ao',n',cp',rfl⟩:=Ki hown;have HO:=hd (au hown hle)
   clear hb2 hown K2)
 all_goals
  go_wp2_with fail;go_ret;exact⟨rfl,_,_,HB2.o,HO.o,rfl⟩
theorem CL(s:ByteArray)(po:Option abR)(b off:Nat)(cs:Array Y3)(T:Y5)(w:Y4)(hB:ae w b cs T)(h0:cs[off]? =Y2 (Yp Y1 0 0))(h1:cs[off+1]? =Y2 (Yp Y1 0 0))(h2:cs[off+2]? =Y2 (Yg Yh 0)):
   aaT Zc 76 #[Ym (Y2 ⟨b,off,Y1⟩),.string s,.pointer po] w fun x w'=>x=Yl (Yn #[])/\∃v w1,aaS w.heap.size w w1/\w1.ownsRow w.heap.size 257 2 v 1 [.string s,.pointer po]/\w'=(w1.setCell ⟨b,off,Y1⟩ v).setCell ⟨b,off+2,Y1⟩ (Yg Yh 1):=by
 have HBK:=hd hB;have HP:=hd (Oa s po b off cs T w hB h0 h1);have H0:=hd h0;have H2:=hd h2;have hb:=hB.lt;go_enter Tryz.func76,Tryz.ntmps76;go_wp2_with fail;refine HP.o.mono ?_;rintro x w2 ⟨rfl,v,w1,hb1,hown,rfl⟩;have HB1:=hd hb1;have HO:=hd hown;have K1:=(HBK.o.below hb1 hb).set off v;obtain⟨ao',n',cp',rfl⟩:=Ki hown
 have hn:n'=1:=by
  rcases hown.2 with⟨_,h⟩|⟨g,cap,cur,e,_⟩
  · simp at h
  cases e;rfl
 subst hn;have hoff:off<cs.size:=(geA.1 H0.o).1
 have c2:(w1.setCell ⟨b,off,Y1⟩ (Yp ao' 1 cp')).cell? ⟨b,off+2,Y1⟩=Y2 (Yg Yh 0):=by
  rw[K1.cell,Array.getElem?_setIfInBounds_ne (by omega)];exact H2.o
 have c0:(w1.setCell ⟨b,off,Y1⟩ (Yp ao' 1 cp')).cell? ⟨b,off,Y1⟩=Y2 (Yp ao' 1 cp'):=by
  rw[K1.cell,Array.getElem?_setIfInBounds_self,if_pos hoff]
 have f2:=K1.free (off+2);have hl:=K1.lt
 have hne:¬(off=off+2):=by omega
 generalize hW:w1.setCell ⟨b,off,Y1⟩ (Yp ao' 1 cp')=W at*;have HW:=hd hW;go_wp2_with fail
 go_end0
 exact⟨rfl,_,w1,HB1.o,HO.o,by rw[HW.o]⟩
end Ts
namespace Ti
theorem dm(z:Int)(w:Y4):aaT Zc 274 #[Yg Yh z] w fun x w'=>x=Yl (.bool false)/\w'=w:=by
 go_enter Tryz.func274,Tryz.ntmps274;go_wp2_with fail;go_ret;exact⟨rfl,rfl⟩
theorem mW(z:Int)(w:Y4):aaT Zc 216 #[Yg Yh z,Yg Yh z] w fun x w'=>x=Yl (Yg Yh 0)/\w'=w:=by
 go_enter abB,abC;go_wp2_with fail;refine(dm _ _).mono ?_;rintro x w1 ⟨rfl,rfl⟩;go_wp2_with fail;refine(dm _ _).mono ?_;rintro x w1 ⟨rfl,rfl⟩;go_wp2_with fail;go_ret;exact⟨rfl,rfl⟩
theorem Dv(b off:Nat)(n:Int)(w:Y4)(hb:b<w.heap.size)(c2:w.cell? ⟨b,off+2,Y1⟩=Y2 (Yg Yh n)):
   aaT Zc 82 #[Ym (Y2 ⟨b,off,Y1⟩)] w fun x w'=>x=Yl (Yg Yh n)/\w'=w:=by
 go_enter Tryz.func82,Tryz.ntmps82;go_wp2_with fail;go_ret;exact⟨rfl,rfl⟩
theorem Tryz.info265:(Tryz.prog.info? 265).map (fun i=>(i.zero,i.size,i.bytes))=Y2 (Y2 (Yj #[Yg Yh 0,Yp Y1 0 0]),2,32):=by kernel_rfl
end Ti
namespace Mn
def vV(v:Mg.V):Y3:=Yj #[Yg Yh v.kind,Yg Yh v.int,Yi ⟨v.text.toArray⟩]
theorem gH(b:Bool)(w:Y4):aaT Zc 197 #[.bool b] w fun x w'=>x=Yl (vV (Mg.aO b))/\aaS w.heap.size w w':=by
 have HB0:Yf (aaS w.heap.size w (w.alloc (Yk #[Yg Yh 15,Yg Yh (if b=true then 1 else 0),Yi ⟨#[]⟩] 39))):=by show aaS _ _ _;go_grown
 cases b
 · go_enter abD,abE;go_wp2;refine aaU (v:=vV (Mg.aO false)) (by simp[aaW,abF,go_sem,vV,Mg.aO]) rfl ?_;exact⟨rfl,HB0.o⟩
 go_enter abD,abE;go_wp2;refine aaU (v:=vV (Mg.aO true)) (by simp[aaW,abF,go_sem,vV,Mg.aO]) rfl ?_;exact⟨rfl,HB0.o⟩
theorem sF(w:Y4):aaT Zc 202 #[] w fun x w'=>x=Yl (vV Mg.aZ)/\aaS w.heap.size w w':=by
 have HB0:Yf (aaS w.heap.size w (w.alloc (Yk #[Yg Yh 14,Yg Yh 0,Yi ⟨#[]⟩] 39))):=by show aaS _ _ _;go_grown
 go_enter Tryz.func202,Tryz.ntmps202;go_wp2;refine aaU (v:=vV Mg.aZ) (by simp[aaW,Tryz.results202,go_sem,vV,Mg.aZ]) rfl ?_;exact⟨rfl,HB0.o⟩
theorem KJ(k:Nat)(o:Int)(w:Y4)(hk:25<=k/\k<=30):aaT Zc 257 #[Yg Yh (k:Int),Yg Yh o] w fun x w'=>x=Yl (.bool (Mg.holds k o))/\w'=w:=by
 rcases(show k=25\/k=26\/k=27\/k=28\/k=29\/k=30 by omega)with rfl|rfl|rfl|rfl|rfl|rfl
 all_goals
  go_enter Tryz.func257,Tryz.ntmps257;go_wp2;go_ret;refine⟨?_,rfl⟩;simp[Mg.holds]
end Mn
namespace Mn
theorem OU(s t:ByteArray)(w:Y4):aaT Zc 187 #[.string s,.string t] w fun x w'=>x=Yl (Yg Yh (Mg.r9 s.toList t.toList))/\w'=w:=by
 unfold Mg.r9
 cases h1:Op.bytesLess s.toList t.toList
 · cases h2:(s.toList==t.toList)
   all_goals
    go_enter abr,abt;go_wp2_with fail;refine(Ts.dm _ _).mono ?_;rintro x w1 ⟨rfl,rfl⟩;go_wp2_with fail;refine(Ts.dm _ _).mono ?_;rintro x w1 ⟨rfl,rfl⟩;go_wp2_with fail;go_ret;exact⟨rfl,rfl⟩
 go_enter abr,abt;go_wp2_with fail;refine(Ts.dm _ _).mono ?_;rintro x w1 ⟨rfl,rfl⟩;go_wp2_with fail;refine(Ts.dm _ _).mono ?_;rintro x w1 ⟨rfl,rfl⟩;go_wp2_with fail;go_ret;exact⟨rfl,rfl⟩
theorem FJ(a b:Int)(w:Y4):aaT Zc 216 #[Yg Yh a,Yg Yh b] w fun x w'=>x=Yl (Yg Yh (Mg.lX a b))/\w'=w:=by
 unfold Mg.lX;rcases(show a<b\/a=b\/b<a by omega)with h|rfl|h
 · have h1:decide (a<b)=true:=by simp;omega
   have h2:¬b<a:=by omega
   rw[if_pos h];go_enter abB,abC;go_wp2_with fail;refine(Ti.dm _ _).mono ?_;rintro x w1 ⟨rfl,rfl⟩;go_wp2_with fail;refine(Ti.dm _ _).mono ?_;rintro x w1 ⟨rfl,rfl⟩;go_wp2_with fail;go_ret;exact⟨rfl,rfl⟩
 · rw[if_neg (by omega),if_neg (by omega)];exact Ti.mW a w
 have h1:¬a<b:=by omega
 rw[if_neg h1,if_pos h];go_enter abB,abC;go_wp2_with fail;refine(Ti.dm _ _).mono ?_;rintro x w1 ⟨rfl,rfl⟩;go_wp2_with fail;refine(Ti.dm _ _).mono ?_;rintro x w1 ⟨rfl,rfl⟩;go_wp2_with fail;go_ret;exact⟨rfl,rfl⟩
def jA(w:Y4)(r:Except Nat Mg.V)(x:Ending)(w':Y4):Prop:=aaS w.heap.size w w'/\match r with
 |.ok v=>x=Yl (vV v)
 |.error c=>x=lL 0 c
theorem EY(s:ByteArray)(w:Y4):aaT Zc 199 #[.string s] w (jA w (Mg.pE s.data.toList)):=by
 have hsz:s.data.toList.length=s.size:=by rw[Array.length_toList];rfl
 have hst:(⟨s.data.toList.toArray⟩:ByteArray)=s:=by cases s;simp
 unfold Mg.pE;have HK:=hd (ae.new w #[Yg Yh 0,Yg Yh 0,Yi ⟨#[]⟩] 39)
 have HB0:Yf (aaS w.heap.size w (w.alloc (Yk #[Yg Yh 0,Yg Yh 0,Yi ⟨#[]⟩] 39))):=by show aaS _ _ _;go_grown
 by_cases h:s.size<=100
 · rw[if_pos (by omega)]
   have hd1:decide ((s.size:Int)<=100)=true:=by simp;omega
   have hlen:(s.size:Int)<=100:=by omega
   have a0:=HK.o.cell 0;have a1:=HK.o.cell 1;have a2:=HK.o.cell 2;simp at a0 a1 a2;have K5:=((HK.o.set 0 (Yg Yh 17)).set 1 (Yg Yh 0)).set 2 (.string s);have g0:=K5.cell 0;have g1:=K5.cell 1;have g2:=K5.cell 2;simp at g0 g1 g2;have fa0:=HK.o.free 0;have fa1:=HK.o.free 1;have fa2:=HK.o.free 2
   have HV:Yf (vV (Mg.vL s.data.toList)=Yj #[Yg Yh 17,Yg Yh 0,.string s]):=by show _=_;simp[vV,Mg.vL,hst]
   clear K5;go_enter abG,abH;go_wp2_with fail;refine(bD _ _).mono ?_;rintro x w1 ⟨rfl,rfl⟩;go_wp2_with fail;refine aaU (v:=Yj #[Yg Yh 17,Yg Yh 0,.string s]) (by simp[aaW,Tryz.results199,go_sem]) rfl ?_;exact⟨by go_grown,by show _=_;rw[HV.o]⟩
 rw[if_neg (by omega)]
 have hd1:decide ((s.size:Int)<=100)=false:=by simp;omega
 have hlen:¬(s.size:Int)<=100:=by omega
 go_enter abG,abH;go_wp2_with fail;refine(nD 14 _).mono ?_;rintro x w1 ⟨rfl,hb⟩;exact⟨rfl,HB0.o.trans (hb.mono HB0.o.size),rfl⟩
end Mn
namespace Mn
theorem Oj(v:Mg.V)(w:Y4):aaT Zc 148 #[vV v] w fun x w'=>x=Yl (.bool (Mg.isNull v))/\aaS w.heap.size w w':=aH _ _ _ w
theorem toList_toArray(l:List UInt8):(⟨l.toArray⟩:ByteArray).toList=l:=by
 rw[ByteArray.toList_eq]
theorem vP(a b:Mg.V)(w:Y4):aaT Zc 160 #[vV a,vV b] w fun x w'=>x=Yl (Yg Yh (Mg.wI a b))/\aaS w.heap.size w w':=by
 obtain⟨ka,za,ta⟩:=a;obtain⟨kb,zb,tb⟩:=b;have HKA:=hd ((ae.new w #[Yg Yh ka,Yg Yh za,Yi ⟨ta.toArray⟩] 39).alloc (Yk #[Yg Yh kb,Yg Yh zb,Yi ⟨tb.toArray⟩] 39));have HKB:Yf (ae ((w.alloc (Yk #[Yg Yh ka,Yg Yh za,Yi ⟨ta.toArray⟩] 39)).alloc (Yk #[Yg Yh kb,Yg Yh zb,Yi ⟨tb.toArray⟩] 39)) (w.heap.size+1) #[Yg Yh kb,Yg Yh zb,Yi ⟨tb.toArray⟩] 39):=(by have h:=ae.new (w.alloc (Yk #[Yg Yh ka,Yg Yh za,Yi ⟨ta.toArray⟩] 39)) #[Yg Yh kb,Yg Yh zb,Yi ⟨tb.toArray⟩] 39;rw[ZC]at h;exact h)
 have HB0:Yf (aaS w.heap.size w ((w.alloc (Yk #[Yg Yh ka,Yg Yh za,Yi ⟨ta.toArray⟩] 39)).alloc (Yk #[Yg Yh kb,Yg Yh zb,Yi ⟨tb.toArray⟩] 39))):=by show aaS _ _ _;go_grown
 have HSA:=hd (toList_toArray ta);have HSB:=hd (toList_toArray tb);unfold vV Mg.wI;simp only[Mg.isNull];generalize (⟨ta.toArray⟩:ByteArray)=sa at*;generalize (⟨tb.toArray⟩:ByteArray)=sb at*;have HKA0:=HKA;have HKB0:=HKB;clear HKA HKB
 cases h1:(ka==14)
 · cases h2:(kb==14)
   · by_cases h3:ka=17
     · have h3':(ka==17)=true:=by simp[h3]
       have H3:=hd h3;clear h3;go_enter abI,abJ;go_wp2_with fail;refine(aH _ _ _ _).mono ?_;rintro x w1 ⟨rfl,hb⟩;have HB1:=hd (HB0.o.trans (hb.mono HB0.o.size));have HKA1:=hd (HKA0.o.below hb HKA0.o.lt);have HKB1:=hd (HKB0.o.below hb HKB0.o.lt);clear hb;obtain⟨p10,p11,p12⟩:=HKA1.o.d3;obtain⟨q10,q11,q12⟩:=HKB1.o.d3;have lp1:=HKA1.o.lt;have lq1:=HKB1.o.lt;go_wp2_with fail;refine(aH _ _ _ _).mono ?_;rintro x w2 ⟨rfl,hb⟩;have HB2:=hd (HB1.o.trans (hb.mono HB1.o.size));have HKA2:=hd (HKA1.o.below hb HKA1.o.lt);have HKB2:=hd (HKB1.o.below hb HKB1.o.lt);clear hb;obtain⟨p20,p21,p22⟩:=HKA2.o.d3;obtain⟨q20,q21,q22⟩:=HKB2.o.d3;have lp2:=HKA2.o.lt;have lq2:=HKB2.o.lt;go_wp2_with fail;refine(aH _ _ _ _).mono ?_;rintro x w3 ⟨rfl,hb⟩;have HB3:=hd (HB2.o.trans (hb.mono HB2.o.size));have xG:=hd (HKA2.o.below hb HKA2.o.lt);have xJ:=hd (HKB2.o.below hb HKB2.o.lt);clear hb;obtain⟨p30,p31,p32⟩:=xG.o.d3;obtain⟨q30,q31,q32⟩:=xJ.o.d3;have lp3:=xG.o.lt;have lq3:=xJ.o.lt;go_wp2_with fail;refine(OU _ _ _).mono ?_;rintro x w4 ⟨rfl,rfl⟩;go_wp2_with fail;go_ret;refine⟨?_,HB3.o⟩;rw[HSA.o,HSB.o];simp[H3.o]
     have h3':(ka==17)=false:=by simp[h3]
     go_enter abI,abJ;go_wp2_with fail;refine(aH _ _ _ _).mono ?_;rintro x w1 ⟨rfl,hb⟩;have HB1:=hd (HB0.o.trans (hb.mono HB0.o.size));have HKA1:=hd (HKA0.o.below hb HKA0.o.lt);have HKB1:=hd (HKB0.o.below hb HKB0.o.lt);clear hb;obtain⟨p10,p11,p12⟩:=HKA1.o.d3;obtain⟨q10,q11,q12⟩:=HKB1.o.d3;have lp1:=HKA1.o.lt;have lq1:=HKB1.o.lt;go_wp2_with fail;refine(aH _ _ _ _).mono ?_;rintro x w2 ⟨rfl,hb⟩;have HB2:=hd (HB1.o.trans (hb.mono HB1.o.size));have HKA2:=hd (HKA1.o.below hb HKA1.o.lt);have HKB2:=hd (HKB1.o.below hb HKB1.o.lt);clear hb;obtain⟨p20,p21,p22⟩:=HKA2.o.d3;obtain⟨q20,q21,q22⟩:=HKB2.o.d3;have lp2:=HKA2.o.lt;have lq2:=HKB2.o.lt;go_wp2_with fail;refine(aH _ _ _ _).mono ?_;rintro x w3 ⟨rfl,hb⟩;have HB3:=hd (HB2.o.trans (hb.mono HB2.o.size));have xG:=hd (HKA2.o.below hb HKA2.o.lt);have xJ:=hd (HKB2.o.below hb HKB2.o.lt);clear hb;obtain⟨p30,p31,p32⟩:=xG.o.d3;obtain⟨q30,q31,q32⟩:=xJ.o.d3;have lp3:=xG.o.lt;have lq3:=xJ.o.lt;go_wp2_with fail;refine(FJ _ _ _).mono ?_;rintro x w4 ⟨rfl,rfl⟩;go_wp2_with fail;go_ret;refine⟨?_,HB3.o⟩
     first|rfl|(simp[h3];done)
   go_enter abI,abJ;go_wp2_with fail;refine(aH _ _ _ _).mono ?_;rintro x w1 ⟨rfl,hb⟩;have HB1:=hd (HB0.o.trans (hb.mono HB0.o.size));have HKA1:=hd (HKA0.o.below hb HKA0.o.lt);have HKB1:=hd (HKB0.o.below hb HKB0.o.lt);obtain⟨p10,p11,p12⟩:=HKA1.o.d3;obtain⟨q10,q11,q12⟩:=HKB1.o.d3;have lp1:=HKA1.o.lt;have lq1:=HKB1.o.lt;go_wp2_with fail;refine(aH _ _ _ _).mono ?_;rintro x w2 ⟨rfl,hb⟩;have HB2:=hd (HB1.o.trans (hb.mono HB1.o.size));have HKA2:=hd (HKA1.o.below hb HKA1.o.lt);have HKB2:=hd (HKB1.o.below hb HKB1.o.lt);obtain⟨p20,p21,p22⟩:=HKA2.o.d3;obtain⟨q20,q21,q22⟩:=HKB2.o.d3;have lp2:=HKA2.o.lt;have lq2:=HKB2.o.lt;go_wp2_with fail;refine(aH _ _ _ _).mono ?_;rintro x w3 ⟨rfl,hb⟩;have HB3:=hd (HB2.o.trans (hb.mono HB2.o.size));have xG:=hd (HKA2.o.below hb HKA2.o.lt);have xJ:=hd (HKB2.o.below hb HKB2.o.lt);obtain⟨p30,p31,p32⟩:=xG.o.d3;obtain⟨q30,q31,q32⟩:=xJ.o.d3;have lp3:=xG.o.lt;have lq3:=xJ.o.lt;go_wp2_with fail;go_ret;exact⟨rfl,HB3.o⟩
 cases h2:(kb==14)
 · go_enter abI,abJ;go_wp2_with fail;refine(aH _ _ _ _).mono ?_;rintro x w1 ⟨rfl,hb⟩;have HB1:=hd (HB0.o.trans (hb.mono HB0.o.size));have HKA1:=hd (HKA0.o.below hb HKA0.o.lt);have HKB1:=hd (HKB0.o.below hb HKB0.o.lt);obtain⟨p10,p11,p12⟩:=HKA1.o.d3;obtain⟨q10,q11,q12⟩:=HKB1.o.d3;have lp1:=HKA1.o.lt;have lq1:=HKB1.o.lt;go_wp2_with fail;refine(aH _ _ _ _).mono ?_;rintro x w2 ⟨rfl,hb⟩;have HB2:=hd (HB1.o.trans (hb.mono HB1.o.size));have HKA2:=hd (HKA1.o.below hb HKA1.o.lt);have HKB2:=hd (HKB1.o.below hb HKB1.o.lt);obtain⟨p20,p21,p22⟩:=HKA2.o.d3;obtain⟨q20,q21,q22⟩:=HKB2.o.d3;have lp2:=HKA2.o.lt;have lq2:=HKB2.o.lt;go_wp2_with fail;refine(aH _ _ _ _).mono ?_;rintro x w3 ⟨rfl,hb⟩;have HB3:=hd (HB2.o.trans (hb.mono HB2.o.size));have xG:=hd (HKA2.o.below hb HKA2.o.lt);have xJ:=hd (HKB2.o.below hb HKB2.o.lt);obtain⟨p30,p31,p32⟩:=xG.o.d3;obtain⟨q30,q31,q32⟩:=xJ.o.d3;have lp3:=xG.o.lt;have lq3:=xJ.o.lt;go_wp2_with fail;go_ret;exact⟨rfl,HB3.o⟩
 go_enter abI,abJ;go_wp2_with fail;refine(aH _ _ _ _).mono ?_;rintro x w1 ⟨rfl,hb⟩;have HB1:=hd (HB0.o.trans (hb.mono HB0.o.size));have HKA1:=hd (HKA0.o.below hb HKA0.o.lt);have HKB1:=hd (HKB0.o.below hb HKB0.o.lt);obtain⟨p10,p11,p12⟩:=HKA1.o.d3;obtain⟨q10,q11,q12⟩:=HKB1.o.d3;have lp1:=HKA1.o.lt;have lq1:=HKB1.o.lt;go_wp2_with fail;refine(aH _ _ _ _).mono ?_;rintro x w2 ⟨rfl,hb⟩;have HB2:=hd (HB1.o.trans (hb.mono HB1.o.size));have HKA2:=hd (HKA1.o.below hb HKA1.o.lt);have HKB2:=hd (HKB1.o.below hb HKB1.o.lt);obtain⟨p20,p21,p22⟩:=HKA2.o.d3;obtain⟨q20,q21,q22⟩:=HKB2.o.d3;have lp2:=HKA2.o.lt;have lq2:=HKB2.o.lt;go_wp2_with fail;go_ret;exact⟨rfl,HB2.o⟩
end Mn
namespace Mn
theorem Ld(k z:Int)(t:Y6)(r:Bool)(h:(r=true/\k=15/\z=1/\t=[])\/(r=false/\k≠15)\/(r=false/\k=15/\z≠1)\/(r=false/\k=15/\z=1/\t≠[]))(w:Y4):
   aaT Zc 170 #[Yj #[Yg Yh k,Yg Yh z,Yi ⟨t.toArray⟩]] w fun x w'=>x=Yl (.bool r)/\aaS w.heap.size w w':=by
 have HK:=hd (ae.new w #[Yg Yh k,Yg Yh z,Yi ⟨t.toArray⟩] 39)
 have HB0:Yf (aaS w.heap.size w (w.alloc (Yk #[Yg Yh k,Yg Yh z,Yi ⟨t.toArray⟩] 39))):=by show aaS _ _ _;go_grown
 have HT:=hd (gH true (abA (w.alloc (Yk #[Yg Yh k,Yg Yh z,Yi ⟨t.toArray⟩] 39))));rcases h with⟨rfl,rfl,rfl,rfl⟩|⟨rfl,h⟩|⟨rfl,rfl,h⟩|⟨rfl,rfl,rfl,h⟩
 all_goals
  go_enter Tryz.func170,Tryz.ntmps170;go_wp2_with fail
  go_region_with (
    go_at_call 197
    refine HT.o.mono ?_;rintro x w1 ⟨rfl,hb1⟩;have K1:=HK.o.drew.below hb1 HK.o.drew.lt;have HB1:Yf (aaS w.heap.size w w1):=HB0.o.drew.trans (hb1.mono HB0.o.drew.size);have p0:=K1.cell 0;have p1:=K1.cell 1;have p2:=K1.cell 2;simp at p0 p1 p2;have lp:=K1.lt;unfold vV Mg.aO
    clear hb1 K1)
  all_goals
   go_wp2_with fail;go_ret;exact⟨rfl,HB1.o⟩
theorem zg(v:Mg.V)(w:Y4):aaT Zc 170 #[vV v] w fun x w'=>x=Yl (.bool (Mg.isTrue v))/\aaS w.heap.size w w':=by
 obtain⟨k,z,t⟩:=v;refine Ld k z t _ ?_ w;by_cases h1:k=15
 · by_cases h2:z=1
   · by_cases h3:t=[]
     · exact .inl ⟨by simp[Mg.isTrue,Mg.iJ,Mg.aO,h1,h2,h3],h1,h2,h3⟩
     exact .inr (.inr (.inr ⟨by simp[Mg.isTrue,Mg.iJ,Mg.aO,h1,h2,h3],h1,h2,h3⟩))
   exact .inr (.inr (.inl ⟨by simp[Mg.isTrue,Mg.iJ,Mg.aO,h1,h2],h1,h2⟩))
 exact .inr (.inl ⟨by simp[Mg.isTrue,Mg.iJ,Mg.aO,h1],h1⟩)
end Mn
namespace Mn
def No(kd ka zd za:Int)(td ta:Y6):Prop:=(ka==kd)=false\/((ka==kd)=true/\(za==zd)=false)\/((ka==kd)=true/\(za==zd)=true/\(ta==td)=false)
theorem JX(kd zd ka za kb zb:Int)(td ta tb:Y6)(h:((ka==kd)=true/\(za==zd)=true/\(ta==td)=true)\/(No kd ka zd za td ta/\(kb==kd)=true/\(zb==zd)=true/\(tb==td)=true))(w:Y4):
   aaT Zc 256 #[Yj #[Yg Yh kd,Yg Yh zd,Yi ⟨td.toArray⟩],Yj #[Yg Yh ka,Yg Yh za,Yi ⟨ta.toArray⟩],Yj #[Yg Yh kb,Yg Yh zb,Yi ⟨tb.toArray⟩]] w fun x w'=>x=Yl (Yj #[Yg Yh kd,Yg Yh zd,Yi ⟨td.toArray⟩])/\aaS w.heap.size w w':=by
 rcases h with⟨ha,ha1,ha2⟩|⟨ha|⟨ha,ha1⟩|⟨ha,ha1,ha2⟩,hb,hb1,hb2⟩
 all_goals
  go_enter abK,abL;go_wp2_with fail;refine aaU (v:=Yj #[Yg Yh kd,Yg Yh zd,Yi ⟨td.toArray⟩]) (by simp[aaW,abM,go_sem]) rfl ?_;exact⟨rfl,by go_grown⟩
theorem Tp(kd zd ka za kb zb:Int)(td ta tb:Y6)(ha:No kd ka zd za td ta)(hb:No kd kb zd zb td tb)(w:Y4):
   aaT Zc 256 #[Yj #[Yg Yh kd,Yg Yh zd,Yi ⟨td.toArray⟩],Yj #[Yg Yh ka,Yg Yh za,Yi ⟨ta.toArray⟩],Yj #[Yg Yh kb,Yg Yh zb,Yi ⟨tb.toArray⟩]] w fun x w'=>x=Yl (if ka==14 then Yj #[Yg Yh ka,Yg Yh za,Yi ⟨ta.toArray⟩]else Yj #[Yg Yh kb,Yg Yh zb,Yi ⟨tb.toArray⟩])/\aaS w.heap.size w w':=by
 have HB0:Yf (aaS w.heap.size w ((((w.alloc (Yk #[Yg Yh kd,Yg Yh zd,Yi ⟨td.toArray⟩] 39)).alloc (Yk #[Yg Yh ka,Yg Yh za,Yi ⟨ta.toArray⟩] 39)).alloc (Yk #[Yg Yh kb,Yg Yh zb,Yi ⟨tb.toArray⟩] 39)).alloc (Yk #[Yg Yh 0,Yg Yh 0,Yi ⟨#[]⟩] 39))):=by show aaS _ _ _;go_grown
 have HKA:Yf (ae ((((w.alloc (Yk #[Yg Yh kd,Yg Yh zd,Yi ⟨td.toArray⟩] 39)).alloc (Yk #[Yg Yh ka,Yg Yh za,Yi ⟨ta.toArray⟩] 39)).alloc (Yk #[Yg Yh kb,Yg Yh zb,Yi ⟨tb.toArray⟩] 39)).alloc (Yk #[Yg Yh 0,Yg Yh 0,Yi ⟨#[]⟩] 39)) (w.heap.size+1) #[Yg Yh ka,Yg Yh za,Yi ⟨ta.toArray⟩] 39):=(by have h:=((ae.new (w.alloc (Yk #[Yg Yh kd,Yg Yh zd,Yi ⟨td.toArray⟩] 39)) #[Yg Yh ka,Yg Yh za,Yi ⟨ta.toArray⟩] 39).alloc (Yk #[Yg Yh kb,Yg Yh zb,Yi ⟨tb.toArray⟩] 39)).alloc (Yk #[Yg Yh 0,Yg Yh 0,Yi ⟨#[]⟩] 39);simp only[ZC]at h;exact h);have HKB:Yf (ae ((((w.alloc (Yk #[Yg Yh kd,Yg Yh zd,Yi ⟨td.toArray⟩] 39)).alloc (Yk #[Yg Yh ka,Yg Yh za,Yi ⟨ta.toArray⟩] 39)).alloc (Yk #[Yg Yh kb,Yg Yh zb,Yi ⟨tb.toArray⟩] 39)).alloc (Yk #[Yg Yh 0,Yg Yh 0,Yi ⟨#[]⟩] 39)) (w.heap.size+1+1) #[Yg Yh kb,Yg Yh zb,Yi ⟨tb.toArray⟩] 39):=(by have h:=(ae.new ((w.alloc (Yk #[Yg Yh kd,Yg Yh zd,Yi ⟨td.toArray⟩] 39)).alloc (Yk #[Yg Yh ka,Yg Yh za,Yi ⟨ta.toArray⟩] 39)) #[Yg Yh kb,Yg Yh zb,Yi ⟨tb.toArray⟩] 39).alloc (Yk #[Yg Yh 0,Yg Yh 0,Yi ⟨#[]⟩] 39);simp only[ZC]at h;exact h);have HKR:Yf (ae ((((w.alloc (Yk #[Yg Yh kd,Yg Yh zd,Yi ⟨td.toArray⟩] 39)).alloc (Yk #[Yg Yh ka,Yg Yh za,Yi ⟨ta.toArray⟩] 39)).alloc (Yk #[Yg Yh kb,Yg Yh zb,Yi ⟨tb.toArray⟩] 39)).alloc (Yk #[Yg Yh 0,Yg Yh 0,Yi ⟨#[]⟩] 39)) (w.heap.size+1+1+1) #[Yg Yh 0,Yg Yh 0,Yi ⟨#[]⟩] 39):=(by have h:=ae.new (((w.alloc (Yk #[Yg Yh kd,Yg Yh zd,Yi ⟨td.toArray⟩] 39)).alloc (Yk #[Yg Yh ka,Yg Yh za,Yi ⟨ta.toArray⟩] 39)).alloc (Yk #[Yg Yh kb,Yg Yh zb,Yi ⟨tb.toArray⟩] 39)) #[Yg Yh 0,Yg Yh 0,Yi ⟨#[]⟩] 39;simp only[ZC]at h;exact h);rcases ha with ha|⟨ha,ha1⟩|⟨ha,ha1,ha2⟩<;>rcases hb with hb|⟨hb,hb1⟩|⟨hb,hb1,hb2⟩
 all_goals
  go_enter abK,abL;go_wp2_with fail;refine(aH _ _ _ _).mono ?_;rintro x w1 ⟨rfl,hb⟩;have HB1:Yf (aaS w.heap.size w w1):=HB0.o.trans (hb.mono HB0.o.size);have KA:=HKA.o.below hb HKA.o.lt;have KB:=HKB.o.below hb HKB.o.lt;have KR:=HKR.o.below hb HKR.o.lt;clear hb HKA HKB HKR HB0;have p0:=KA.cell 0;have p1:=KA.cell 1;have p2:=KA.cell 2;have q0:=KB.cell 0;have q1:=KB.cell 1;have q2:=KB.cell 2;have r0:=KR.cell 0;have r1:=KR.cell 1;have r2:=KR.cell 2;simp at p0 p1 p2 q0 q1 q2 r0 r1 r2;have fr0:=KR.free 0;have fr1:=KR.free 1;have fr2:=KR.free 2;have lp:=KA.lt;have lq:=KB.lt;have lr:=KR.lt
  cases h14:(ka==14)
  · have S1:=(((KR.set 0 (Yg Yh kb)).set 1 (Yg Yh zb)).set 2 (Yi ⟨tb.toArray⟩));have s0:=S1.cell 0;have s1:=S1.cell 1;have s2:=S1.cell 2;simp at s0 s1 s2;clear S1 KA KB KR;go_wp2_with fail;refine aaU (v:=Yj #[Yg Yh kb,Yg Yh zb,Yi ⟨tb.toArray⟩]) (by simp[aaW,abM,go_sem,s0,s1,s2]) rfl ?_;exact⟨rfl,((HB1.o.setCell (p:=⟨w.heap.size+1+1+1,0,Y1⟩) (by simp;omega) _).setCell (p:=⟨w.heap.size+1+1+1,1,Y1⟩) (by simp;omega) _).setCell (p:=⟨w.heap.size+1+1+1,2,Y1⟩) (by simp;omega) _⟩
  have S1:=(((KR.set 0 (Yg Yh ka)).set 1 (Yg Yh za)).set 2 (Yi ⟨ta.toArray⟩));have s0:=S1.cell 0;have s1:=S1.cell 1;have s2:=S1.cell 2;simp at s0 s1 s2;clear S1 KA KB KR;go_wp2_with fail;refine aaU (v:=Yj #[Yg Yh ka,Yg Yh za,Yi ⟨ta.toArray⟩]) (by simp[aaW,abM,go_sem,s0,s1,s2]) rfl ?_;exact⟨rfl,((HB1.o.setCell (p:=⟨w.heap.size+1+1+1,0,Y1⟩) (by simp;omega) _).setCell (p:=⟨w.heap.size+1+1+1,1,Y1⟩) (by simp;omega) _).setCell (p:=⟨w.heap.size+1+1+1,2,Y1⟩) (by simp;omega) _⟩
end Mn
namespace Mn
theorem Sy(kd zd k z:Int)(td t:Y6):((k==kd)=true/\(z==zd)=true/\(t==td)=true)\/No kd k zd z td t:=by
 unfold No
 cases k==kd<;>cases z==zd<;>cases t==td<;>simp
theorem OL{kd zd k:Int}{td t:Y6}(h:No kd k zd z td t):Mg.iJ ⟨kd,zd,td⟩ ⟨k,z,t⟩=false:=by
 unfold No at h;unfold Mg.iJ;rcases h with h|h|h<;>simp only[h,Bool.false_and,Bool.and_false]
theorem xO(d a b:Mg.V)(w:Y4):aaT Zc 256 #[vV d,vV a,vV b] w fun x w'=>x=Yl (vV (Mg.fD d a b))/\aaS w.heap.size w w':=by
 obtain⟨kd,zd,td⟩:=d;obtain⟨ka,za,ta⟩:=a;obtain⟨kb,zb,tb⟩:=b;rcases Sy kd zd ka za td ta with h|h
 · refine(JX kd zd ka za kb zb td ta tb (.inl h) w).mono ?_;rintro x w' ⟨rfl,hb⟩;exact⟨by simp only[vV,Mg.fD,Mg.iJ,h,abN,true_or,if_true],hb⟩
 rcases Sy kd zd kb zb td tb with h'|h'
 · refine(JX kd zd ka za kb zb td ta tb (.inr ⟨h,h'⟩) w).mono ?_;rintro x w' ⟨rfl,hb⟩;exact⟨by simp only[vV,Mg.fD,Mg.iJ,h',abN,or_true,if_true],hb⟩
 refine(Tp kd zd ka za kb zb td ta tb h h' w).mono ?_;rintro x w' ⟨rfl,hb⟩;refine⟨?_,hb⟩;simp only[vV,Mg.fD,OL h,OL h',Mg.isNull]
 split<;>simp_all
end Mn
namespace Mn
theorem zo(k:Nat)(hk:k=21\/k=22)(b:Bool)(v:Mg.V)(hb:b=if k=21 then Mg.isNull v else !Mg.isNull v)(w:Y4):
   aaT Zc 200 #[Yg Yh (k:Int),vV v] w (jA w (.ok (Mg.aO b))):=by
 obtain⟨kv,zv,tv⟩:=v;have HA0:=hd ((ae.new w #[Yg Yh kv,Yg Yh zv,Yi ⟨tv.toArray⟩] 39).alloc (Yk #[Yg Yh 0,Yg Yh 0,Yi ⟨#[]⟩] 39));have HR0:Yf (ae ((w.alloc (Yk #[Yg Yh kv,Yg Yh zv,Yi ⟨tv.toArray⟩] 39)).alloc (Yk #[Yg Yh 0,Yg Yh 0,Yi ⟨#[]⟩] 39)) (w.heap.size+1) #[Yg Yh 0,Yg Yh 0,Yi ⟨#[]⟩] 39):=(by have h:=ae.new (w.alloc (Yk #[Yg Yh kv,Yg Yh zv,Yi ⟨tv.toArray⟩] 39)) #[Yg Yh 0,Yg Yh 0,Yi ⟨#[]⟩] 39;rw[ZC]at h;exact h)
 have HB0:Yf (aaS w.heap.size w ((w.alloc (Yk #[Yg Yh kv,Yg Yh zv,Yi ⟨tv.toArray⟩] 39)).alloc (Yk #[Yg Yh 0,Yg Yh 0,Yi ⟨#[]⟩] 39))):=by show aaS _ _ _;go_grown
 simp only[Mg.isNull]at hb;unfold vV;generalize (⟨tv.toArray⟩:ByteArray)=sv at*;rcases hk with rfl|rfl
 · simp at hb;subst hb;go_enter abO,abP;go_wp2_with fail;refine(aH _ _ _ _).mono ?_;rintro x w1 ⟨rfl,hb⟩;have HB1:Yf (aaS w.heap.size w w1):=HB0.o.trans (hb.mono HB0.o.size);have HA1:=hd (HA0.o.below hb HA0.o.lt);have HR1:=hd (HR0.o.below hb HR0.o.lt);clear hb;have p10:=HA1.o.cell 0;have p11:=HA1.o.cell 1;have p12:=HA1.o.cell 2;have r10:=HR1.o.cell 0;have r11:=HR1.o.cell 1;have r12:=HR1.o.cell 2;simp at p10 p11 p12 r10 r11 r12;have lp1:=HA1.o.lt;have lr1:=HR1.o.lt;have f10:=HR1.o.free 0;have f11:=HR1.o.free 1;have f12:=HR1.o.free 2;go_wp2_with fail;refine(gH _ _).mono ?_;rintro x w2 ⟨rfl,hb⟩;have HB2:Yf (aaS w.heap.size w w2):=HB1.o.trans (hb.mono HB1.o.size);have HA2:=hd (HA1.o.below hb HA1.o.lt);have HR2:=hd (HR1.o.below hb HR1.o.lt);clear hb;have p20:=HA2.o.cell 0;have p21:=HA2.o.cell 1;have p22:=HA2.o.cell 2;have r20:=HR2.o.cell 0;have r21:=HR2.o.cell 1;have r22:=HR2.o.cell 2;simp at p20 p21 p22 r20 r21 r22;have lp2:=HA2.o.lt;have lr2:=HR2.o.lt;have f20:=HR2.o.free 0;have f21:=HR2.o.free 1;have f22:=HR2.o.free 2;have S:=(((HR2.o.set 0 (Yg Yh (Mg.aO (kv==14)).kind)).set 1 (Yg Yh (Mg.aO (kv==14)).int)).set 2 (Yi ⟨(Mg.aO (kv==14)).text.toArray⟩));have s0:=S.cell 0;have s1:=S.cell 1;have s2:=S.cell 2;simp at s0 s1 s2;clear S;unfold vV;go_wp2_with fail;refine aaU (v:=vV (Mg.aO (kv==14))) (by simp[aaW,abQ,go_sem,vV,s0,s1,s2]) rfl ?_;refine⟨((HB2.o.setCell (p:=⟨w.heap.size+1,0,Y1⟩) (by simp) _).setCell (p:=⟨w.heap.size+1,1,Y1⟩) (by simp) _).setCell (p:=⟨w.heap.size+1,2,Y1⟩) (by simp) _,?_⟩
   rfl
 simp at hb;subst hb;go_enter abO,abP;go_wp2_with fail;refine(aH _ _ _ _).mono ?_;rintro x w1 ⟨rfl,hb⟩;have HB1:Yf (aaS w.heap.size w w1):=HB0.o.trans (hb.mono HB0.o.size);have HA1:=hd (HA0.o.below hb HA0.o.lt);have HR1:=hd (HR0.o.below hb HR0.o.lt);clear hb;have p10:=HA1.o.cell 0;have p11:=HA1.o.cell 1;have p12:=HA1.o.cell 2;have r10:=HR1.o.cell 0;have r11:=HR1.o.cell 1;have r12:=HR1.o.cell 2;simp at p10 p11 p12 r10 r11 r12;have lp1:=HA1.o.lt;have lr1:=HR1.o.lt;have f10:=HR1.o.free 0;have f11:=HR1.o.free 1;have f12:=HR1.o.free 2;go_wp2_with fail;refine(gH _ _).mono ?_;rintro x w2 ⟨rfl,hb⟩;have HB2:Yf (aaS w.heap.size w w2):=HB1.o.trans (hb.mono HB1.o.size);have HA2:=hd (HA1.o.below hb HA1.o.lt);have HR2:=hd (HR1.o.below hb HR1.o.lt);clear hb;have p20:=HA2.o.cell 0;have p21:=HA2.o.cell 1;have p22:=HA2.o.cell 2;have r20:=HR2.o.cell 0;have r21:=HR2.o.cell 1;have r22:=HR2.o.cell 2;simp at p20 p21 p22 r20 r21 r22;have lp2:=HA2.o.lt;have lr2:=HR2.o.lt;have f20:=HR2.o.free 0;have f21:=HR2.o.free 1;have f22:=HR2.o.free 2;have S:=(((HR2.o.set 0 (Yg Yh (Mg.aO (!(kv==14))).kind)).set 1 (Yg Yh (Mg.aO (!(kv==14))).int)).set 2 (Yi ⟨(Mg.aO (!(kv==14))).text.toArray⟩));have s0:=S.cell 0;have s1:=S.cell 1;have s2:=S.cell 2;simp at s0 s1 s2;clear S;unfold vV;go_wp2_with fail;refine aaU (v:=vV (Mg.aO (!(kv==14)))) (by simp[aaW,abQ,go_sem,vV,s0,s1,s2]) rfl ?_;refine⟨((HB2.o.setCell (p:=⟨w.heap.size+1,0,Y1⟩) (by simp) _).setCell (p:=⟨w.heap.size+1,1,Y1⟩) (by simp) _).setCell (p:=⟨w.heap.size+1,2,Y1⟩) (by simp) _,?_⟩
 rfl
end Mn
namespace Mn
theorem SI(w:Y4)(x y:Array Y3)(t:Y5):Yf (ae ((w.alloc (.cells x t)).alloc (.cells y t)) w.heap.size x t)/\Yf (ae ((w.alloc (.cells x t)).alloc (.cells y t)) (w.heap.size+1) y t)/\Yf (aaS w.heap.size w ((w.alloc (.cells x t)).alloc (.cells y t))):=by
 have HR0:=ae.new (w.alloc (.cells x t)) y t;rw[ZC]at HR0;exact⟨(ae.new w x t).alloc _,HR0,by show aaS _ _ _;go_grown⟩
theorem zR(z:Int)(hz:z=19\/z=20)(kv zv:Int)(tv:Y6)(h14:(kv==14)=true)(w:Y4):
   aaT Zc 200 #[Yg Yh z,Yj #[Yg Yh kv,Yg Yh zv,Yi ⟨tv.toArray⟩]] w (jA w (.ok Mg.aZ)):=by
 rcases hz with rfl|rfl
 all_goals
  obtain⟨HA0,HR0,HB0⟩:=SI w #[Yg Yh kv,Yg Yh zv,Yi ⟨tv.toArray⟩] #[Yg Yh 0,Yg Yh 0,Yi ⟨#[]⟩] 39;go_enter abO,abP;go_wp2_with fail;refine(aH _ _ _ _).mono ?_;rintro x w1 ⟨rfl,hb⟩;have HB1:=hd (HB0.o.trans (hb.mono HB0.o.size));have HA1:=hd (HA0.o.below hb HA0.o.lt);have HR1:=hd (HR0.o.below hb HR0.o.lt);obtain⟨p10,p11,p12⟩:=HA1.o.d3;obtain⟨r10,r11,r12⟩:=HR1.o.d3;have lp1:=HA1.o.lt;have lr1:=HR1.o.lt;obtain⟨f10,f11,f12⟩:=HR1.o.f3;go_wp2_with fail;refine(sF _).mono ?_;rintro x w2 ⟨rfl,hb⟩;have HB2:=hd (HB1.o.trans (hb.mono HB1.o.size));have HA2:=hd (HA1.o.below hb HA1.o.lt);have HR2:=hd (HR1.o.below hb HR1.o.lt);obtain⟨p20,p21,p22⟩:=HA2.o.d3;obtain⟨r20,r21,r22⟩:=HR2.o.d3;have lp2:=HA2.o.lt;have lr2:=HR2.o.lt;obtain⟨f20,f21,f22⟩:=HR2.o.f3;have S:=(((HR2.o.set 0 (Yg Yh Mg.aZ.kind)).set 1 (Yg Yh Mg.aZ.int)).set 2 (Yi ⟨Mg.aZ.text.toArray⟩));obtain⟨s0,s1,s2⟩:=S.d3
  try unfold vV
  go_wp2_with fail;refine aaU (v:=vV Mg.aZ) (by simp[aaW,abQ,go_sem,vV,s0,s1,s2]) rfl ?_;refine⟨((HB2.o.setCell (p:=⟨w.heap.size+1,0,Y1⟩) (by simp) _).setCell (p:=⟨w.heap.size+1,1,Y1⟩) (by simp) _).setCell (p:=⟨w.heap.size+1,2,Y1⟩) (by simp) _,?_⟩
  rfl
theorem unary_not(kv zv:Int)(tv:Y6)(h14:(kv==14)=false)(w:Y4):
   aaT Zc 200 #[Yg Yh 20,Yj #[Yg Yh kv,Yg Yh zv,Yi ⟨tv.toArray⟩]] w (jA w (.ok (Mg.aO (!Mg.isTrue ⟨kv,zv,tv⟩)))):=by
 obtain⟨HA0,HR0,HB0⟩:=SI w #[Yg Yh kv,Yg Yh zv,Yi ⟨tv.toArray⟩] #[Yg Yh 0,Yg Yh 0,Yi ⟨#[]⟩] 39;go_enter abO,abP;go_wp2_with fail;refine(aH _ _ _ _).mono ?_;rintro x w1 ⟨rfl,hb⟩;have HB1:=hd (HB0.o.trans (hb.mono HB0.o.size));have HA1:=hd (HA0.o.below hb HA0.o.lt);have HR1:=hd (HR0.o.below hb HR0.o.lt);obtain⟨p10,p11,p12⟩:=HA1.o.d3;obtain⟨r10,r11,r12⟩:=HR1.o.d3;have lp1:=HA1.o.lt;have lr1:=HR1.o.lt;obtain⟨f10,f11,f12⟩:=HR1.o.f3;go_wp2_with fail;refine(zg ⟨kv,zv,tv⟩ _).mono ?_;rintro x w2 ⟨rfl,hb⟩;have HB2:=hd (HB1.o.trans (hb.mono HB1.o.size));have HA2:=hd (HA1.o.below hb HA1.o.lt);have HR2:=hd (HR1.o.below hb HR1.o.lt);obtain⟨p20,p21,p22⟩:=HA2.o.d3;obtain⟨r20,r21,r22⟩:=HR2.o.d3;have lp2:=HA2.o.lt;have lr2:=HR2.o.lt;obtain⟨f20,f21,f22⟩:=HR2.o.f3;go_wp2_with fail;refine(gH _ _).mono ?_;rintro x w3 ⟨rfl,hb⟩;have HB3:=hd (HB2.o.trans (hb.mono HB2.o.size));have HA3:=hd (HA2.o.below hb HA2.o.lt);have HR3:=hd (HR2.o.below hb HR2.o.lt);obtain⟨p30,p31,p32⟩:=HA3.o.d3;obtain⟨r30,r31,r32⟩:=HR3.o.d3;have lp3:=HA3.o.lt;have lr3:=HR3.o.lt;obtain⟨f30,f31,f32⟩:=HR3.o.f3;have S:=(((HR3.o.set 0 (Yg Yh (Mg.aO (!Mg.isTrue ⟨kv,zv,tv⟩)).kind)).set 1 (Yg Yh (Mg.aO (!Mg.isTrue ⟨kv,zv,tv⟩)).int)).set 2 (Yi ⟨(Mg.aO (!Mg.isTrue ⟨kv,zv,tv⟩)).text.toArray⟩));obtain⟨s0,s1,s2⟩:=S.d3
 try unfold vV
 go_wp2_with fail;refine aaU (v:=vV (Mg.aO (!Mg.isTrue ⟨kv,zv,tv⟩))) (by simp[aaW,abQ,go_sem,vV,s0,s1,s2]) rfl ?_;refine⟨((HB3.o.setCell (p:=⟨w.heap.size+1,0,Y1⟩) (by simp) _).setCell (p:=⟨w.heap.size+1,1,Y1⟩) (by simp) _).setCell (p:=⟨w.heap.size+1,2,Y1⟩) (by simp) _,?_⟩
 rfl
theorem Fj(kv zv:Int)(tv:Y6)(h14:(kv==14)=false)(hz: -9223372036854775808<=zv/\zv<=9223372036854775807)(r:Except Nat Mg.V)(hr:r=match Mg.ck (-zv)with
     |.error c=> .error c
     |.ok z=> .ok (Mg.jH z)) (w:Y4):
   aaT Zc 200 #[Yg Yh 19,Yj #[Yg Yh kv,Yg Yh zv,Yi ⟨tv.toArray⟩]] w (jA w r):=by
 have HRR:=hd hr;clear hr;obtain⟨HA0,HR0,HB0⟩:=SI w #[Yg Yh kv,Yg Yh zv,Yi ⟨tv.toArray⟩] #[Yg Yh 0,Yg Yh 0,Yi ⟨#[]⟩] 39;go_enter abO,abP;go_wp2_with fail;refine(aH _ _ _ _).mono ?_;rintro x w1 ⟨rfl,hb⟩;have HB1:=hd (HB0.o.trans (hb.mono HB0.o.size));have HA1:=hd (HA0.o.below hb HA0.o.lt);have HR1:=hd (HR0.o.below hb HR0.o.lt);clear hb;obtain⟨p10,p11,p12⟩:=HA1.o.d3;obtain⟨r10,r11,r12⟩:=HR1.o.d3;have lp1:=HA1.o.lt;have lr1:=HR1.o.lt;obtain⟨f10,f11,f12⟩:=HR1.o.f3;go_wp2_with fail;refine(tN zv _ hz).mono ?_;rintro x w2 ⟨hb,hx⟩;have HB2:=hd (HB1.o.trans (hb.mono HB1.o.size));have HA2:=hd (HA1.o.below hb HA1.o.lt);have HR2:=hd (HR1.o.below hb HR1.o.lt);clear hb
 cases hc:Mg.ck (-zv)with
 |error c=>
  rw[hc]at hx;have hx':x=lL 0 c:=hx;subst hx';have he:=HRR.o;rw[hc]at he;subst he;exact⟨rfl,HB2.o,rfl⟩
 |ok z=>
  rw[hc]at hx;have hx':x=Yl (Yg Yh z):=hx;subst hx'
  have HRE:Yf (r=.ok (Mg.jH z)):=by have he:=HRR.o;rw[hc]at he;exact he
  go_wp2_with fail;refine(kE z _).mono ?_;rintro x w3 ⟨rfl,hb⟩;have HB3:=hd (HB2.o.trans (hb.mono HB2.o.size));have HA3:=hd (HA2.o.below hb HA2.o.lt);have HR3:=hd (HR2.o.below hb HR2.o.lt);obtain⟨p30,p31,p32⟩:=HA3.o.d3;obtain⟨r30,r31,r32⟩:=HR3.o.d3;have lp3:=HA3.o.lt;have lr3:=HR3.o.lt;obtain⟨f30,f31,f32⟩:=HR3.o.f3;have S:=(((HR3.o.set 0 (Yg Yh (Mg.jH z).kind)).set 1 (Yg Yh (Mg.jH z).int)).set 2 (Yi ⟨(Mg.jH z).text.toArray⟩));have s0:=S.cell 0;have s1:=S.cell 1;have s2:=S.cell 2;simp[Mg.jH]at s0 s1 s2
  try unfold vV
  go_wp2_with fail;refine aaU (v:=vV (Mg.jH z)) (by simp[aaW,abQ,go_sem,vV,Mg.jH,s0,s1,s2]) rfl ?_;refine⟨((HB3.o.setCell (p:=⟨w.heap.size+1,0,Y1⟩) (by simp) _).setCell (p:=⟨w.heap.size+1,1,Y1⟩) (by simp) _).setCell (p:=⟨w.heap.size+1,2,Y1⟩) (by simp) _,?_⟩;rw[HRE.o]
theorem KX(k:Nat)(v:Mg.V)(w:Y4)(hk:19<=k/\k<=22)(hv: -9223372036854775808<=v.int/\v.int<=9223372036854775807):aaT Zc 200 #[Yg Yh (k:Int),vV v] w (jA w (Mg.sP k v)):=by
 unfold Mg.sP;by_cases h21:k=21
 · rw[if_pos h21];exact zo k (.inl h21) _ v (by rw[if_pos h21]) w
 rw[if_neg h21];by_cases h22:k=22
 · rw[if_pos h22];exact zo k (.inr h22) _ v (by rw[if_neg h21]) w
 rw[if_neg h22];obtain⟨kv,zv,tv⟩:=v;by_cases hn:Mg.isNull ⟨kv,zv,tv⟩=true
 · rw[if_pos hn];rcases(show k=19\/k=20 by omega)with rfl|rfl
   · exact zR 19 (.inl rfl) kv zv tv hn w
   exact zR 20 (.inr rfl) kv zv tv hn w
 rw[if_neg hn]
 have hn':(kv==14)=false:=by simpa[Mg.isNull]using hn
 rcases(show k=19\/k=20 by omega)with rfl|rfl
 · rw[if_neg (by decide)];exact Fj kv zv tv hn' hv _ rfl w
 rw[if_pos rfl];exact unary_not kv zv tv hn' w
end Mn
end Go.Proofs.YthhhfcdakfbpkaaGreatDoor
