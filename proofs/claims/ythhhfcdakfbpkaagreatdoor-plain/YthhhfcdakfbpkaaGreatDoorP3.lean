/- Parts of the proof -/
import Derived.Test.YthhhfcdakfbpkaaGreatDoorP2
import Derived.Test.YthhhfcdakfbpkaaGreatDoorPShelfC
import Derived.Lib.AppendIntMem
import Derived.Shelf.Vars
import Derived.Test.YthhhfcdakfbpkaaGreatDoorPShelfB
namespace Go.Proofs.YthhhfcdakfbpkaaGreatDoor
set_option linter.unusedSimpArgs false
set_option linter.unusedVariables false
set_option maxRecDepth 100000
set_option maxHeartbeats 16000000
open Go.RowKit
variable {w w':World}{B c m sz t tk tp:Nat}{a b z:Int}{lv:Value}{dp:Bool}
structure vK(w:World):Prop where
 envp:iZ w
 pow:∃t fr,w.heap[0]? =some (.cells (Lib.pow10Tab.map fun z=>Value.int .u64 z).toArray t fr)
theorem vK.below(h:vK w)(hb:Below w.heap.size w w'):vK w':=by
 refine⟨h.envp.below hb,?_⟩;have hr:=h.envp.env.room;rw[hb.block _ (nlA (by simp) hr)];exact h.pow
theorem vK.tab(h:vK w):Lib.TabIs Tryz.prog w "internal/strconv.uint64pow10" .u64 Lib.pow10Tab:=by
 obtain⟨t,fr,hp⟩:=h.pow
 have hg:Tryz.prog.globalNamed "internal/strconv.uint64pow10" =some 0:=by kernel_rfl
 unfold Lib.TabIs World.var?;rw[hg];simp only[Option.bind_some,hp]
theorem IC(z:Int)(h1: -9223372036854775808<=z)(h2:z<=9223372036854775807):Lib.itoa z=Px.pM z:=by
 unfold Px.pM;by_cases hz:z<0
 · rw[if_pos hz];have:=Jq z.natAbs (by omega) (by omega)
   rwa [show-(z.natAbs:Int)=z by omega]at this
 rw[if_neg hz];have:=Jo z.natAbs (by omega)
 rwa [show(z.natAbs:Int)=z by omega]at this
section
open Go.RowKit Go.Shelf Go.Lib
theorem yM{P:Program}{nm:String}{g:Nat}{t e:TypeId}{k:IntKind}(zs:List Int)(hg:P.globalNamed nm=some g)(hty:(P.globals[g]?).map (·.type)=some t)
   (ht:P.underlying t=some (.array m e)) (he:P.underlying e=some (.int k)) (hce:P.cellsOf e=1) (hct:P.cellsOf t=m)
   (h:VarReads P w nm (tabData k zs)):∃t' fr,w.heap[g]? =some (.cells (zs.map fun z=>Value.int k z).toArray t' fr):=by
 obtain⟨g',t',cs,fuel,p,hg',hty',hvar,hd⟩:=h;obtain rfl:=Option.some.inj (hg.symm.trans hg');obtain rfl:=Option.some.inj (hty.symm.trans hty')
 have hcs:cs=(zs.map fun z=>Value.int k z).toArray:=by
  apply Array.ext';exact cells_of_tab ht he hce hct hd
 subst hcs;simp only[World.var?,hg,Option.bind_some]at hvar
 split at hvar
 · rename_i c t2 fr hh
   cases hvar
   exact⟨t2,fr,hh⟩
 cases hvar
theorem pow_eq:(Rows.laid_internal_strconv_uint64pow10:DataW Unit)=tabData .u64 pow10Tab:=by kernel_rfl
theorem vX{W:World}(hp:iZ W)(h:VarReads Tryz.prog W "internal/strconv.uint64pow10" Rows.laid_internal_strconv_uint64pow10)(hsh:W.ShapedOpen Tryz.prog):vK W where
 envp:=hp
 pow:=yM (t:=276) (e:=200) (m:=20) pow10Tab (by kernel_rfl) (by kernel_rfl) (by kernel_rfl) (by kernel_rfl) (by kernel_rfl) (by kernel_rfl) (pow_eq▸h)
end
section
namespace Mg
open Lx (Bs)
structure V where
 kind:Int
 int:Int
 text:Bs
def aJ:V:=⟨14,0,[]⟩
def gK(z:Int):V:=⟨16,z,[]⟩
def aB(b:Bool):V:=⟨15,if b=true then 1 else 0,[]⟩
def qW(t:Bs):V:=⟨17,0,t⟩
def fit(z:Int):Bool:=decide (-9223372036854775808<=z/\z<=9223372036854775807)
def ck(z:Int):Except Nat Int:=if fit z=true then .ok z else .error 12
def arith(k:Nat)(a b:Int):Except Nat Int:=
 if k=32 then ck (a+b)
 else if k=33 then ck (a-b)
 else if k=34 then ck (a*b)
 else if b=0 then .error 13
 else if k=35 then ck (a.tdiv b)
 else .ok (a.tmod b)
theorem zS(z:Int):fit z=true↔ -9223372036854775808<=z/\z<=9223372036854775807:=by simp[fit]
theorem qR(h1: -9223372036854775808<=z)(h2:z<=9223372036854775807):ck z=.ok z:=by
 unfold ck;rw[if_pos ((zS z).2 ⟨h1,h2⟩)]
theorem rZ(h:z< -9223372036854775808\/9223372036854775807<z):ck z=.error 12:=by
 unfold ck;rw[if_neg (by rw[zS];omega)]
theorem JG{w:Int}(ha:a≠0)(hb: -9223372036854775808<=a/\a<=9223372036854775807)(k:Int)(hw:w=a*b+k*18446744073709551616)(hk:k≠0):w.tdiv a≠b:=by
 intro h;have h1:=Int.mul_tdiv_add_tmod w a;rw[h,hw]at h1
 have h2:(a*b+k*18446744073709551616).tmod a=k*18446744073709551616:=by omega
 have h3:((a*b+k*18446744073709551616).tmod a).natAbs<a.natAbs:=by rw[Int.natAbs_tmod];exact Nat.mod_lt _ (by omega)
 rw[h2]at h3;have h4:(k*18446744073709551616).natAbs=k.natAbs*18446744073709551616:=Int.natAbs_mul _ _;omega
theorem Gy(ha:a≠0):(a*b).tdiv a=b:=Int.mul_tdiv_cancel_left b ha
theorem D5(ha: -9223372036854775808<=a/\a<=9223372036854775807)(hb:b≠0)(h:¬(a= -9223372036854775808/\b= -1)): -9223372036854775808<=a.tdiv b/\a.tdiv b<=9223372036854775807:=by
 have h1:(a.tdiv b).natAbs=a.natAbs/b.natAbs:=Int.natAbs_tdiv a b
 have h2:1<=b.natAbs:=by omega
 have h3:a.natAbs/b.natAbs<=a.natAbs:=Nat.div_le_self _ _;by_cases hm:a= -9223372036854775808
 · by_cases h1':b.natAbs=1
   · have hb1:b=1:=by omega
     subst hb1 hm
     decide
   have h4:a.natAbs/b.natAbs<=a.natAbs/2:=Nat.div_le_div_left (by omega) (by omega);omega
 omega
end Mg
end
section
namespace Mg
open Lx (Bs)
open Px (E)
abbrev ax:=List (Bs×Nat)
def place:ax->Bs->Option Nat
 |[],_=>none
 |c::r,n=>if c.1=n then some 0 else(place r n).map (· +1)
def knows(cs:ax):E->Bool
 |.nm n=>(place cs n).isSome
 |.un _ e=>knows cs e
 |.bin _ a b=>knows cs a&&knows cs b
 |_=>true
def fits(a b:Nat):Bool:=a==b||a==0||b==0
def dU(t:Nat)(o:List Nat):Except Nat Nat:=if o.all (fits t)=true then .ok t else .error 10
def um(k t:Nat):Except Nat Nat:=if k=19 then dU 1 [t]else if k=20 then dU 3 [t]else .ok 3
def typeB(k a b:Nat):Except Nat Nat:=
 if k=23\/k=24 then dU 3 [a,b]else if k=31 then dU 2 [a,b]else if 32<=k then dU 1 [a,b]
 else match dU a [b]with
  |.error c=> .error c
  |.ok _=> .ok 3
def typ(cs:ax):E->Except Nat Nat
 |.bool _=> .ok 3
 |.num _=> .ok 1
 |.str _=> .ok 2
 |.nm n=>match place cs n with
  |some i=> .ok ((cs[i]?).elim 0 (fun c=>c.2%4))
  |none=> .ok 0
 |.un k e=>match typ cs e with
  |.error c=> .error c
  |.ok t=>um k t
 |.bin k a b=>match typ cs a with
  |.error c=> .error c
  |.ok t=>match typ cs b with
   |.error c=> .error c
   |.ok u=>typeB k t u
 |.null=> .ok 0
def isNull(v:V):Bool:=v.kind==14
def oM(t:Bs):Except Nat V:=if t.length<=100 then .ok (qW t)else .error 14
def jb(a b:Int):Int:=if a<b then-1 else if b<a then 1 else 0
def oW(a b:Bs):Int:=if Op.bytesLess a b=true then-1 else if(a==b)=true then 0 else 1
def qX(a b:V):Int:=
 if isNull a=true/\isNull b=true then 0 else if isNull a=true then-1 else if isNull b=true then 1
 else if a.kind=17 then oW a.text b.text else jb a.int b.int
def holds(k:Nat)(o:Int):Bool:=
 if k=25 then o==0 else if k=26 then o !=0 else if k=27 then decide (o<0)else if k=28 then decide (o<=0)else if k=29 then decide (0<o)else decide (0<=o)
def bW(d v:V):Bool:=v.kind==d.kind&&v.int==d.int&&v.text==d.text
def isTrue(v:V):Bool:=bW (aB true) v
def aV(d a b:V):V:=if bW d a=true\/bW d b=true then d else if isNull a=true then a else b
def rC(k:Nat)(v:V):Except Nat V:=
 if k=21 then .ok (aB (isNull v))else if k=22 then .ok (aB (!isNull v))else if isNull v=true then .ok aJ
 else if k=20 then .ok (aB (!isTrue v))else match ck (-v.int)with
  |.error c=> .error c
  |.ok z=> .ok (gK z)
def Fp(k:Nat)(a b:V):Except Nat V:=
 if k=24 then .ok (aV (aB false) a b)else if k=23 then .ok (aV (aB true) a b)
 else if isNull a=true\/isNull b=true then .ok aJ else if k=31 then oM (a.text++b.text)
 else if 25<=k/\k<=30 then .ok (aB (holds k (qX a b)))else match arith k a.int b.int with
  |.error c=> .error c
  |.ok z=> .ok (gK z)
def value(cs:ax)(row:List V):E->Except Nat V
 |.bool b=> .ok (aB b)
 |.num z=> .ok (gK z)
 |.str s=>oM s
 |.nm n=>match place cs n with
  |some i=> .ok (row.getD i aJ)
  |none=> .ok aJ
 |.un k e=>match value cs row e with
  |.error c=> .error c
  |.ok v=>rC k v
 |.bin k a b=>match value cs row a with
  |.error c=> .error c
  |.ok v=>match value cs row b with
   |.error c=> .error c
   |.ok u=>Fp k v u
 |.null=> .ok aJ
structure CK(v:V):Prop where
 kind:v.kind=14\/v.kind=15\/v.kind=16\/v.kind=17
 null:v.kind=14->v.int=0/\v.text=[]
 truth:v.kind=15->(v.int=0\/v.int=1)/\v.text=[]
 num:v.kind=16->(-9223372036854775808<=v.int/\v.int<=9223372036854775807)/\v.text=[]
 text:v.kind=17->v.int=0/\v.text.length<=100
def Has(v:V)(t:Nat):Prop:=v.kind=14\/(t=1/\v.kind=16)\/(t=2/\v.kind=17)\/(t=3/\v.kind=15)
structure iy(cs:ax)(row:List V):Prop where
 len:row.length=cs.length
 ok:∀v∈row,CK v
 has:∀(i:Nat) (c:Bs×Nat) (v:V),cs[i]? =some c->row[i]? =some v->Has v (c.2%4)
theorem jM:CK aJ:=⟨.inl rfl,fun _=>⟨rfl,rfl⟩,fun h=>absurd h (by decide),fun h=>absurd h (by decide),fun h=>absurd h (by decide)⟩
theorem gL(b:Bool):CK (aB b):=by
 constructor<;>cases b<;>simp[aB]
theorem yY(h: -9223372036854775808<=z/\z<=9223372036854775807):CK (gK z):=by
 constructor<;>simp[gK]
 exact h
theorem yC{t:Bs}(h:t.length<=100):CK (qW t):=by
 constructor<;>simp[qW]
 exact h
theorem il(b:Bool):Has (aB b) 3:=.inr (.inr (.inr ⟨rfl,rfl⟩))
theorem rR{cs:ax}{n:Bs}{i:Nat}(h:place cs n=some i):i<cs.length:=by
 induction cs generalizing i with
 |nil=>cases h
 |cons c r ih=>
  simp only[place]at h
  split at h
  · cases h;simp
  cases hp:place r n with
  |none=>rw[hp]at h;cases h
  |some j=>
   rw[hp]at h;simp at h;have:=ih hp;simp;omega
end Mg
end
section
namespace Mg
open Lx (Bs)
open Px (E)
theorem LG(ha: -9223372036854775808<=a/\a<=9223372036854775807): -9223372036854775808<=a.tmod b/\a.tmod b<=9223372036854775807:=by
 have h1:(a.tmod b).natAbs=a.natAbs%b.natAbs:=Int.natAbs_tmod a b;have h2:a.natAbs%b.natAbs<=a.natAbs:=Nat.mod_le _ _;rcases Int.lt_or_le a 0 with h|h
 · have:=Int.tmod_nonneg (a:= -a) b (by omega);rw[Int.neg_tmod]at this;omega
 have:=Int.tmod_nonneg b h;omega
theorem Al{y:Int}(h:ck z=.ok y): -9223372036854775808<=y/\y<=9223372036854775807:=by
 unfold ck at h
 split at h
 · rename_i hf
   cases h
   exact(zS z).1 hf
 cases h
theorem GK{k:Nat}{y:Int}(ha: -9223372036854775808<=a/\a<=9223372036854775807)(h:arith k a b=.ok y): -9223372036854775808<=y/\y<=9223372036854775807:=by
 unfold arith at h
 split at h
 · exact Al h
 split at h
 · exact Al h
 split at h
 · exact Al h
 split at h
 · cases h
 split at h
 · exact Al h
 cases h
 exact LG ha
theorem sI{u:Nat}{o:List Nat}(h:dU t o=.ok u):u=t/\∀x∈o,fits t x=true:=by
 unfold dU at h
 split at h
 · rename_i ha
   cases h
   exact⟨rfl,by simpa using ha⟩
 cases h
theorem Kb{a b:Nat}(h:fits a b=true):a=b\/a=0\/b=0:=by
 simp[fits]at h;rcases h with(h|h)|h
 · exact .inl h
 · exact .inr (.inl h)
 exact .inr (.inr h)
theorem uQ{v:V}{u:Nat}(h:Has v u)(hf:fits t u=true)(ht:t≠0)(hu:u=0->v.kind=14):Has v t:=by
 rcases Kb hf with rfl|rfl|rfl
 · exact h
 · exact absurd rfl ht
 exact .inl (hu rfl)
theorem I6{v:V}(h:Has v 0):v.kind=14:=by
 rcases h with h|⟨h,_⟩|⟨h,_⟩|⟨h,_⟩
 · exact h
 · omega
 · omega
 omega
theorem Ke{v:V}(h:Has v t)(k:v.kind≠14):t=1/\v.kind=16\/t=2/\v.kind=17\/t=3/\v.kind=15:=by
 rcases h with h|h
 · exact absurd h k
 exact h
theorem wE{d a b:V}(hd:CK d)(ha:CK a)(hb:CK b):CK (aV d a b):=by
 unfold aV
 split
 · exact hd
 split
 · exact ha
 exact hb
theorem rX{d a b:V}(hd:Has d t)(ha:Has a t)(hb:Has b t):Has (aV d a b) t:=by
 unfold aV
 split
 · exact hd
 split
 · exact ha
 exact hb
theorem sound{cs:ax}{row:List V}(hr:iy cs row):∀(e:E) (t:Nat) (v:V),e.ok 2000->typ cs e=.ok t->value cs row e=.ok v->CK v/\Has v t
 |.null,t,v,_,ht,hv=>by cases ht;cases hv;exact⟨jM,.inl rfl⟩
 |.bool b,t,v,_,ht,hv=>by cases ht;cases hv;exact⟨gL b,il b⟩
 |.num z,t,v,ho,ht,hv=>by cases ht;cases hv;exact⟨yY ho,.inr (.inl ⟨rfl,rfl⟩)⟩
 |.str s,t,v,_,ht,hv=>by
  cases ht
  simp only[value,oM]at hv
  split at hv
  · cases hv;exact⟨yC (by assumption),.inr (.inr (.inl ⟨rfl,rfl⟩))⟩
  cases hv
 |.nm n,t,v,_,ht,hv=>by
  simp only[typ]at ht;simp only[value]at hv
  cases hp:place cs n with
  |none=>rw[hp]at ht hv;cases ht;cases hv;exact⟨jM,.inl rfl⟩
  |some i=>
   rw[hp]at ht hv
   cases ht;cases hv
   have hi:=rR hp
   have hi2:i<row.length:=by rw[hr.len];exact hi
   have e1:row.getD i aJ=row[i]:=by simp[List.getD,hi2]
   have e2:cs[i]? =some cs[i]:=List.getElem?_eq_getElem hi;rw[e1,e2];exact⟨hr.ok _ (List.getElem_mem hi2),hr.has i _ _ e2 (List.getElem?_eq_getElem hi2)⟩
 |.un k e,t,v,ho,ht,hv=>by
  simp only[typ]at ht;simp only[value]at hv
  cases h1:typ cs e with
  |error c=>rw[h1]at ht;cases ht
  |ok u=>
   cases h2:value cs row e with
   |error c=>rw[h2]at hv;cases hv
   |ok x=>
    rw[h1]at ht;rw[h2]at hv;simp only at ht hv;obtain⟨hx,hh⟩:=sound hr e u x ho.2.2.2 h1 h2;have hk:=ho.1;have hk2:=ho.2.1;unfold rC at hv;unfold um at ht
    split at hv
    · rename_i hk;subst hk
      cases hv
      simp at ht;subst ht;exact⟨gL _,il _⟩
    split at hv
    · rename_i hk;subst hk
      cases hv
      simp at ht;subst ht;exact⟨gL _,il _⟩
    split at hv
    · cases hv;exact⟨jM,.inl rfl⟩
    rename_i hn
    split at hv
    · rename_i hk;subst hk
      cases hv
      simp at ht;obtain⟨rfl,_⟩:=sI ht;exact⟨gL _,il _⟩
    have hk3:k=19:=by omega
    subst hk3;simp at ht;obtain⟨rfl,_⟩:=sI ht
    cases hc:ck (-x.int)with
    |error c=>rw[hc]at hv;cases hv
    |ok z=>
     rw[hc]at hv;cases hv;exact⟨yY (Al hc),.inr (.inl ⟨rfl,rfl⟩)⟩
 |.bin k a b,t,v,ho,ht,hv=>by
  simp only[typ]at ht;simp only[value]at hv
  cases h1:typ cs a with
  |error c=>rw[h1]at ht;cases ht
  |ok ta=>
  cases h2:typ cs b with
  |error c=>rw[h1,h2]at ht;cases ht
  |ok tb=>
  cases h3:value cs row a with
  |error c=>rw[h3]at hv;cases hv
  |ok x=>
  cases h4:value cs row b with
  |error c=>rw[h3,h4]at hv;cases hv
  |ok y=>
   rw[h1,h2]at ht;rw[h3,h4]at hv;simp only at ht hv;obtain⟨hx,hhx⟩:=sound hr a ta x ho.2.2.1 h1 h3;obtain⟨hy,hhy⟩:=sound hr b tb y ho.2.2.2 h2 h4;have hk1:=ho.1;have hk2:=ho.2.1
   have one:∀(s:Nat),s≠0->dU s [ta,tb]=.ok t->t=s/\Has x s/\Has y s:=by
    intro s hs ha;obtain⟨rfl,hf⟩:=sI ha;exact⟨rfl,uQ hhx (hf ta (by simp)) hs (fun h=>I6 (h▸hhx)),uQ hhy (hf tb (by simp)) hs (fun h=>I6 (h▸hhy))⟩
   unfold Fp at hv;unfold typeB at ht
   split at hv
   · rename_i hk;subst hk;rw[if_pos (.inr rfl)]at ht;obtain⟨rfl,h5,h6⟩:=one 3 (by omega) ht
     cases hv
     exact⟨wE (gL _) hx hy,rX (il _) h5 h6⟩
   split at hv
   · rename_i hk;subst hk;rw[if_pos (.inl rfl)]at ht;obtain⟨rfl,h5,h6⟩:=one 3 (by omega) ht
     cases hv
     exact⟨wE (gL _) hx hy,rX (il _) h5 h6⟩
   rename_i hka hko;rw[if_neg (by omega)]at ht
   split at hv
   · cases hv;exact⟨jM,.inl rfl⟩
   rename_i hn
   split at hv
   · rename_i hk;subst hk;rw[if_pos rfl]at ht;obtain⟨rfl,h5,h6⟩:=one 2 (by omega) ht;unfold oM at hv
     split at hv
     · cases hv;exact⟨yC (by assumption),.inr (.inr (.inl ⟨rfl,rfl⟩))⟩
     cases hv
   rename_i hk31;rw[if_neg hk31]at ht
   split at hv
   · rename_i hk;rw[if_neg (by omega)]at ht
     cases hv
     cases hal:dU ta [tb]with
     |error c=>rw[hal]at ht;cases ht
     |ok u=>rw[hal]at ht;cases ht;exact⟨gL _,il _⟩
   rename_i hk;rw[if_pos (by omega)]at ht;obtain⟨rfl,h5,h6⟩:=one 1 (by omega) ht
   have hxn:x.kind≠14:=fun h=>hn (.inl (by simp[isNull,h]))
   have hx16:x.kind=16:=by
    rcases Ke h5 hxn with⟨_,h⟩|⟨h,_⟩|⟨h,_⟩
    · exact h
    · omega
    omega
   cases hc:arith k x.int y.int with
   |error c=>rw[hc]at hv;cases hv
   |ok z=>
    rw[hc]at hv;cases hv;exact⟨yY (GK (hx.num hx16).1 hc),.inr (.inl ⟨rfl,rfl⟩)⟩
end Mg
end
section
namespace Mg
open Lx (Bs)
open Px (E)
def vals(cs:ax)(row:List V):List E->Except Nat (List V)
 |[]=> .ok []
 |e::r=>match value cs row e with
  |.error c=> .error c
  |.ok v=>match vals cs row r with
   |.error c=> .error c
   |.ok l=> .ok (v::l)
theorem Bl{cs:ax}{row:List V}{e:E}{s:List E}(he:value cs row e=.error c):∀{r:List E} {l:List V},vals cs row r=.ok l->vals cs row (r++e::s)=.error c
 |[],l,_=>by simp[vals,he]
 |a::r,l,h=>by
  simp only[vals]at h
  cases ha:value cs row a with
  |error d=>rw[ha]at h;cases h
  |ok v=>
   rw[ha]at h;simp only at h
   cases hr:vals cs row r with
   |error d=>rw[hr]at h;cases h
   |ok m=>simp only[List.cons_append,vals,ha,Bl he hr]
theorem xh{cs:ax}{row:List V}{v:V}{e:E}(he:value cs row e=.ok v):∀{r:List E} {l:List V},vals cs row r=.ok l->vals cs row (r++[e])=.ok (l++[v])
 |[],l,h=>by simp only[vals]at h;cases h;simp[vals,he]
 |a::r,l,h=>by
  simp only[vals]at h
  cases ha:value cs row a with
  |error d=>rw[ha]at h;cases h
  |ok w=>
   rw[ha]at h;simp only at h
   cases hr:vals cs row r with
   |error d=>rw[hr]at h;cases h
   |ok m=>
    rw[hr]at h;simp only at h
    cases h
    simp only[List.cons_append,vals,ha,xh he hr]
theorem BO{cs:ax}{row:List V}:∀{r:List E} {l:List V},vals cs row r=.ok l->l.length=r.length
 |[],l,h=>by simp only[vals]at h;cases h;rfl
 |a::r,l,h=>by
  simp only[vals]at h
  cases ha:value cs row a with
  |error d=>rw[ha]at h;cases h
  |ok w=>
   rw[ha]at h;simp only at h
   cases hr:vals cs row r with
   |error d=>rw[hr]at h;cases h
   |ok m=>
    rw[hr]at h;simp only at h
    cases h
    simp[BO hr]
def vC(v:V):List Value:=[.int .i64 v.kind,.int .i64 v.int,.string ⟨v.text.toArray⟩]
theorem MM(l:List V):(l.flatMap vC).length=l.length*3:=by
 induction l with
 |nil=>rfl
 |cons a r ih=>simp[vC,ih];omega
theorem LY:∀(l:List V) (k:Nat) (h:k<l.length),(l.flatMap vC)[k*3]? =some (.int .i64 l[k].kind)/\(l.flatMap vC)[k*3+1]? =some (.int .i64 l[k].int)/\(l.flatMap vC)[k*3+2]? =some (.string ⟨l[k].text.toArray⟩)
 |a::r,0,_=>by simp[vC]
 |a::r,k+1,h=>by
  have:=LY r k (by simpa using h);rw[show(k+1)*3=k*3+1+1+1 by omega];simpa[vC]using this
def demOk(cs:ax)(d:E×Nat):Bool:=match typ cs d.1 with
 |.error _=>false
 |.ok t=>fits t d.2
def bO(cs:ax)(ds:List (E×Nat)):Except Nat Unit:=if ds.all (fun d=>knows cs d.1)=true then(if ds.all (demOk cs)=true then .ok ()else .error 10)else .error 9
theorem EM{cs:ax}{ds:List (E×Nat)}{d:E×Nat}(h:d∈ds)(hk:knows cs d.1=false):bO cs ds=.error 9:=by
 unfold bO;rw[if_neg];intro ha;have:=List.all_eq_true.1 ha d h;rw[hk]at this
 cases this
theorem uU{cs:ax}{ds:List (E×Nat)}{d:E×Nat}(hall:ds.all (fun d=>knows cs d.1)=true)(h:d∈ds)(hk:demOk cs d=false):bO cs ds=.error 10:=by
 unfold bO;rw[if_pos hall,if_neg];intro ha;have:=List.all_eq_true.1 ha d h;rw[hk]at this
 cases this
theorem Gv{cs:ax}{ds:List (E×Nat)}(h1:ds.all (fun d=>knows cs d.1)=true)(h2:ds.all (demOk cs)=true):bO cs ds=.ok ():=by
 unfold bO;rw[if_pos h1,if_pos h2]
theorem lK{cs:ax}{ds:List (E×Nat)}(h:bO cs ds=.ok ()):∀d∈ds,knows cs d.1=true/\∃t,typ cs d.1=.ok t/\fits t d.2=true:=by
 unfold bO at h
 split at h
 · rename_i h1
   split at h
   · rename_i h2;intro d hd;refine⟨List.all_eq_true.1 h1 d hd,?_⟩;have:=List.all_eq_true.1 h2 d hd;unfold demOk at this
     split at this
     · cases this
     rename_i t ht;exact⟨t,ht,this⟩
   cases h
 cases h
theorem gW{o:List Nat}(h:dU t o=.error c):c=10:=by
 unfold dU at h
 split at h
 · cases h
 injection h with h;exact h.symm
theorem LB{cs:ax}:∀{e:E} {c:Nat},typ cs e=.error c->c=10:=by
 intro e
 induction e with
 |bool _=>intro c h;simp[typ]at h
 |num _=>intro c h;simp[typ]at h
 |str _=>intro c h;simp[typ]at h
 |nm n=>intro c h;simp only[typ]at h;split at h<;>cases h
 |null=>intro c h;simp[typ]at h
 |un k e ih=>
  intro c h;simp only[typ]at h
  split at h
  · rename_i c' hc;injection h with h;subst h;exact ih hc
  unfold um at h
  split at h
  · exact gW h
  split at h
  · exact gW h
  cases h
 |bin k a b iha ihb=>
  intro c h;simp only[typ]at h
  split at h
  · rename_i c' hc;injection h with h;subst h;exact iha hc
  split at h
  · rename_i c' hc;injection h with h;subst h;exact ihb hc
  unfold typeB at h
  split at h
  · exact gW h
  split at h
  · exact gW h
  split at h
  · exact gW h
  split at h
  · rename_i c' hc;injection h with h;subst h;exact gW hc
  cases h
end Mg
end
namespace Mn
def NumOut(w:World)(r:Except Nat Int)(e:Ending)(w':World):Prop:=Below w.heap.size w w'/\match r with
 |.ok z=>e=.returned (.int .i64 z)
 |.error c=>e=ku 0 c
theorem aM(c:Int)(w:World):Calls Tryz.prog 254 #[.bool true,.int .i64 c] w fun x w'=>x=.returned (.tuple #[])/\w'=w:=by
 go_enter Tryz.func254,Tryz.ntmps254;go_wp2
 go_end0
 exact⟨rfl,rfl⟩
theorem jZ(c:Nat)(w:World):Calls Tryz.prog 254 #[.bool false,.int .i64 (c:Int)] w fun x w'=>x=ku 0 c/\Below w.heap.size w w':=by
 go_enter Tryz.func254,Tryz.ntmps254;go_wp2;exact⟨rfl,rfl,Below.refl _ _⟩
theorem jP(w:World):Calls Tryz.prog 254 #[.bool false,.int .i64 12] w fun x w'=>x=ku 0 12/\Below w.heap.size w w':=jZ 12 w
theorem D9(w:World):Calls Tryz.prog 254 #[.bool false,.int .i64 13] w fun x w'=>x=ku 0 13/\Below w.heap.size w w':=jZ 13 w
theorem ou(a:Int)(w:World)(ha: -9223372036854775808<=a/\a<=9223372036854775807):
   Calls Tryz.prog 255 #[.int .i64 a] w (NumOut w (Mg.ck (-a))):=by
 by_cases h:a= -9223372036854775808
 · have q1:(a != -9223372036854775808)=false:=by simpa using h
   have q2:(a== -9223372036854775808)=true:=by simpa using h
   have HR:=hd (Mg.rZ (z:= -a) (by omega));clear h;go_enter Tryz.func255,Tryz.ntmps255;go_wp2_with fail;refine(jP _).mono ?_;rintro x w1 ⟨rfl,hb1⟩;exact⟨rfl,hb1,by rw[HR.out];rfl⟩
 have q1:(a != -9223372036854775808)=true:=by simpa using h
 have q2:(a== -9223372036854775808)=false:=by simpa using h
 have HR:=hd (Mg.qR (z:= -a) (by omega) (by omega))
 have ha2: -9223372036854775807<=a:=by omega
 clear h;go_enter Tryz.func255,Tryz.ntmps255;go_wp2_with fail;refine(aM _ _).mono ?_;rintro x w1 ⟨rfl,rfl⟩;go_wp2_with fail;go_ret;exact⟨Below.refl _ _,by rw[HR.out];rfl⟩
theorem KX(a b:Int)(w:World)(ha: -9223372036854775808<=a/\a<=9223372036854775807)(hb: -9223372036854775808<=b/\b<=9223372036854775807):
   Calls Tryz.prog 313 #[.int .i64 a,.int .i64 b] w (NumOut w (Mg.ck (a+b))):=by
 by_cases h0:0<b
 · have z0:decide (0<b)=true:=decide_eq_true h0;by_cases h:a<=9223372036854775807-b
   · have z1:decide (a<=9223372036854775807-b)=true:=decide_eq_true h;have HR:=hd (Mg.qR (z:=a+b) (by omega) (by omega));go_enter Tryz.func313,Tryz.ntmps313;go_wp2_with fail;refine(aM _ _).mono ?_;rintro x w1 ⟨rfl,rfl⟩;go_wp2_with fail;go_ret;exact⟨Below.refl _ _,by rw[HR.out];rfl⟩
   have z1:decide (a<=9223372036854775807-b)=false:=decide_eq_false h;have HR:=hd (Mg.rZ (z:=a+b) (by omega));go_enter Tryz.func313,Tryz.ntmps313;go_wp2_with fail;refine(jP _).mono ?_;rintro x w1 ⟨rfl,hb1⟩;exact⟨rfl,hb1,by rw[HR.out];rfl⟩
 have z0:decide (0<b)=false:=decide_eq_false (by omega);by_cases h: -9223372036854775808-b<=a
 · have z1:decide (-9223372036854775808-b<=a)=true:=decide_eq_true h;have HR:=hd (Mg.qR (z:=a+b) (by omega) (by omega));go_enter Tryz.func313,Tryz.ntmps313;go_wp2_with fail;refine(aM _ _).mono ?_;rintro x w1 ⟨rfl,rfl⟩;go_wp2_with fail;go_ret;exact⟨Below.refl _ _,by rw[HR.out];rfl⟩
 have z1:decide (-9223372036854775808-b<=a)=false:=decide_eq_false h;have HR:=hd (Mg.rZ (z:=a+b) (by omega));go_enter Tryz.func313,Tryz.ntmps313;go_wp2_with fail;refine(jP _).mono ?_;rintro x w1 ⟨rfl,hb1⟩;exact⟨rfl,hb1,by rw[HR.out];rfl⟩
theorem uw(a b:Int)(w:World)(ha: -9223372036854775808<=a/\a<=9223372036854775807)(hb: -9223372036854775808<=b/\b<=9223372036854775807):
   Calls Tryz.prog 314 #[.int .i64 a,.int .i64 b] w (NumOut w (Mg.ck (a-b))):=by
 by_cases h0:0<b
 · have z0:decide (0<b)=true:=decide_eq_true h0;by_cases h: -9223372036854775808+b<=a
   · have z1:decide (-9223372036854775808+b<=a)=true:=decide_eq_true h;have HR:=hd (Mg.qR (z:=a-b) (by omega) (by omega));go_enter Tryz.func314,Tryz.ntmps314;go_wp2_with fail;refine(aM _ _).mono ?_;rintro x w1 ⟨rfl,rfl⟩;go_wp2_with fail;go_ret;exact⟨Below.refl _ _,by rw[HR.out];rfl⟩
   have z1:decide (-9223372036854775808+b<=a)=false:=decide_eq_false h;have HR:=hd (Mg.rZ (z:=a-b) (by omega));go_enter Tryz.func314,Tryz.ntmps314;go_wp2_with fail;refine(jP _).mono ?_;rintro x w1 ⟨rfl,hb1⟩;exact⟨rfl,hb1,by rw[HR.out];rfl⟩
 have z0:decide (0<b)=false:=decide_eq_false (by omega);by_cases h:a<=9223372036854775807+b
 · have z1:decide (a<=9223372036854775807+b)=true:=decide_eq_true h;have HR:=hd (Mg.qR (z:=a-b) (by omega) (by omega));go_enter Tryz.func314,Tryz.ntmps314;go_wp2_with fail;refine(aM _ _).mono ?_;rintro x w1 ⟨rfl,rfl⟩;go_wp2_with fail;go_ret;exact⟨Below.refl _ _,by rw[HR.out];rfl⟩
 have z1:decide (a<=9223372036854775807+b)=false:=decide_eq_false h;have HR:=hd (Mg.rZ (z:=a-b) (by omega));go_enter Tryz.func314,Tryz.ntmps314;go_wp2_with fail;refine(jP _).mono ?_;rintro x w1 ⟨rfl,hb1⟩;exact⟨rfl,hb1,by rw[HR.out];rfl⟩
theorem fI(n:Int)(h: -9223372036854775808<=n/\n<=9223372036854775807):wrap64 n=n:=by unfold wrap64;omega
theorem Nv(z:Int):∃k:Int,wrap64 z=z+k*18446744073709551616/\ -9223372036854775808<=wrap64 z/\wrap64 z<=9223372036854775807:=by
 have h:wrap64 z=(z+9223372036854775808)%18446744073709551616-9223372036854775808:=by unfold wrap64;rfl
 refine⟨-((z+9223372036854775808)/18446744073709551616),?_,?_,?_⟩<;>omega
theorem Bu(a b:Int)(w:World)(ha: -9223372036854775808<=a/\a<=9223372036854775807)(hb: -9223372036854775808<=b/\b<=9223372036854775807):
   Calls Tryz.prog 315 #[.int .i64 a,.int .i64 b] w (NumOut w (Mg.ck (a*b))):=by
 by_cases h0:a=0
 · subst h0
   have HR:Hid (Mg.ck (0*b)=.ok 0):=by show _=_;rw[Int.zero_mul];exact Mg.qR (by omega) (by omega)
   go_enter Tryz.func315,Tryz.ntmps315;go_wp2_with fail;go_ret;exact⟨Below.refl _ _,by rw[HR.out];rfl⟩
 by_cases h1:a= -1
 · subst h1
   have HR:Hid (Mg.ck (-1*b)=Mg.ck (-b)):=by show _=_;congr 1;omega
   have HN:=hd (ou b w hb);go_enter Tryz.func315,Tryz.ntmps315;go_wp2_with fail;refine HN.out.mono ?_;rintro x w1 ⟨hb1,hx⟩;have HB:=hd hb1;have HX:=hd hx;clear hb1 hx
   cases hc:Mg.ck (-b)with
   |ok z=>
    rw[hc]at HR HX;clear hc;obtain rfl:=HX.out;clear HX;go_wp2_with fail;go_ret;exact⟨HB.out,by rw[HR.out];rfl⟩
   |error c=>
    rw[hc]at HR HX;clear hc;obtain rfl:=HX.out;clear HX;exact⟨rfl,HB.out,by first|rfl|(rw[HR.out];rfl)⟩
 obtain⟨k,hk,hw1,hw2⟩:=Nv (a*b)
 have q0:(a==0)=false:=by simpa using h0
 have q1:(a== -1)=false:=by simpa using h1
 by_cases hf: -9223372036854775808<=a*b/\a*b<=9223372036854775807
 · have HR:=hd (Mg.qR (z:=a*b) hf.1 hf.2);have HE:=hd (fI (a*b) hf)
   have HQ:Hid ((wrap64 ((wrap64 (a*b)).tdiv a)==b)=true):=by show _=_;rw[HE.out,Mg.Gy h0,fI b hb];simp
   clear hk hw1 hw2 hf;go_enter Tryz.func315,Tryz.ntmps315;go_wp2_with fail;rw[HQ.out];refine(aM _ _).mono ?_;rintro x w1 ⟨rfl,rfl⟩;go_wp2_with fail;go_ret;exact⟨Below.refl _ _,by rw[HR.out];first|rfl|(rw[HE.out];rfl)|(simp[HE.out])⟩
 have HR:=hd (Mg.rZ (z:=a*b) (by omega))
 have HQ:Hid ((wrap64 ((wrap64 (a*b)).tdiv a)==b)=false):=by
  have hne:(wrap64 (a*b)).tdiv a≠b:=Mg.JG h0 ha k hk (by rintro rfl;omega);have hfit:=Mg.D5 ⟨hw1,hw2⟩ h0 (fun h=>h1 h.2);show _=_;rw[fI _ hfit];simpa using hne
 clear hk hw1 hw2 hf;go_enter Tryz.func315,Tryz.ntmps315;go_wp2_with fail;rw[HQ.out];refine(jP _).mono ?_;rintro x w1 ⟨rfl,hb1⟩;exact⟨rfl,hb1,by rw[HR.out];rfl⟩
theorem zG(a b:Int)(w:World)(ha: -9223372036854775808<=a/\a<=9223372036854775807)(hb: -9223372036854775808<=b/\b<=9223372036854775807):
   Calls Tryz.prog 316 #[.int .i64 a,.int .i64 b] w (NumOut w (Mg.arith 35 a b)):=by
 by_cases h0:b=0
 · have q1:(b !=0)=false:=by simpa using h0
   have HR:Hid (Mg.arith 35 a b=.error 13):=by show _=_;simp[Mg.arith,h0]
   clear h0;go_enter Tryz.func316,Tryz.ntmps316;go_wp2_with fail;refine(D9 _).mono ?_;rintro x w1 ⟨rfl,hb1⟩;exact⟨rfl,hb1,by rw[HR.out];rfl⟩
 have q1:(b !=0)=true:=by simpa using h0
 have q0:(b==0)=false:=by simpa using h0
 have HR0:Hid (Mg.arith 35 a b=Mg.ck (a.tdiv b)):=by show _=_;simp[Mg.arith,h0]
 by_cases h1:a= -9223372036854775808/\b= -1
 · have HR:Hid (Mg.arith 35 a b=.error 12):=by
    show _=_;rw[HR0.out,h1.1,h1.2];exact Mg.rZ (by decide)
   have q2:(a != -9223372036854775808)=false:=by simpa using h1.1
   have q3:(b != -1)=false:=by simpa using h1.2
   clear h1 h0;go_enter Tryz.func316,Tryz.ntmps316;go_wp2_with fail;refine(aM _ _).mono ?_;rintro x w1 ⟨rfl,rfl⟩;go_wp2_with fail;refine(jP _).mono ?_;rintro x w1 ⟨rfl,hb1⟩;exact⟨rfl,hb1,by rw[HR.out];rfl⟩
 have hfit:=Mg.D5 ha h0 h1
 have HR:Hid (Mg.arith 35 a b=.ok (a.tdiv b)):=by show _=_;rw[HR0.out];exact Mg.qR hfit.1 hfit.2
 have q2:((a != -9223372036854775808)||(b != -1))=true:=by
  rcases Classical.em (a= -9223372036854775808)with h|h
  · have:b≠ -1:=fun e=>h1 ⟨h,e⟩
    simp[this]
  simp[h]
 have OM:=hd hfit;by_cases h2:a= -9223372036854775808
 · have q3:(a != -9223372036854775808)=false:=by simpa using h2
   have q4:(b != -1)=true:=by have:b≠ -1:=fun e=>h1 ⟨h2,e⟩;simpa using this
   clear h1 h2 q2;go_enter Tryz.func316,Tryz.ntmps316;go_wp2_with fail;refine(aM _ _).mono ?_;rintro x w1 ⟨rfl,rfl⟩;go_wp2_with fail;refine(aM _ _).mono ?_;rintro x w1 ⟨rfl,rfl⟩;go_wp2_with fail;go_ret;exact⟨Below.refl _ _,by rw[HR.out];rfl⟩
 have q3:(a != -9223372036854775808)=true:=by simpa using h2
 clear h1 h2 q2;go_enter Tryz.func316,Tryz.ntmps316;go_wp2_with fail;refine(aM _ _).mono ?_;rintro x w1 ⟨rfl,rfl⟩;go_wp2_with fail;refine(aM _ _).mono ?_;rintro x w1 ⟨rfl,rfl⟩;go_wp2_with fail;go_ret;exact⟨Below.refl _ _,by rw[HR.out];rfl⟩
theorem wm(a b:Int)(w:World)(ha: -9223372036854775808<=a/\a<=9223372036854775807)(hb: -9223372036854775808<=b/\b<=9223372036854775807):
   Calls Tryz.prog 317 #[.int .i64 a,.int .i64 b] w (NumOut w (Mg.arith 36 a b)):=by
 by_cases h0:b=0
 · have q1:(b !=0)=false:=by simpa using h0
   have HR:Hid (Mg.arith 36 a b=.error 13):=by show _=_;simp[Mg.arith,h0]
   clear h0;go_enter Tryz.func317,Tryz.ntmps317;go_wp2_with fail;refine(D9 _).mono ?_;rintro x w1 ⟨rfl,hb1⟩;exact⟨rfl,hb1,by rw[HR.out];rfl⟩
 have q1:(b !=0)=true:=by simpa using h0
 have q0:(b==0)=false:=by simpa using h0
 have HR:Hid (Mg.arith 36 a b=.ok (a.tmod b)):=by show _=_;simp[Mg.arith,h0]
 go_enter Tryz.func317,Tryz.ntmps317;go_wp2_with fail;refine(aM _ _).mono ?_;rintro x w1 ⟨rfl,rfl⟩;go_wp2_with fail;go_ret;exact⟨Below.refl _ _,by rw[HR.out];rfl⟩
end Mn
def QK{α:Type}(B:Nat)(lv:Value)(ts:List Lx.Tok)(sz:Nat)(dp:Bool)(V:α->Value->World->Prop)(dv:α->Bool)(x:Ending)(w':World):Px.iq α->Prop
 |.error (p,c)=>x=ku p c
 |.ok (a,q')=>∃v,x=.returned v/\V a v w'/\Cx w' B lv ts sz q' (dv a||dp)
def ah{α:Type}(w:World)(B:Nat)(lv:Value)(ts:List Lx.Tok)(sz:Nat)(dp:Bool)(R:Px.Rg α)(q:List Lx.Tok)(V:α->Value->World->Prop)(dv:α->Bool)(x:Ending)(w':World):Prop:=
 w.grownBy w' (some B)/\∃r,R q r/\QK B lv ts sz dp V dv x w' r
theorem ah.err{α:Type}{ts:List Lx.Tok}{R:Px.Rg α}{q:List Lx.Tok}{V:α->Value->World->Prop}{dv:α->Bool}{p:Nat}(hg:w.grownBy w' (some B))(h:R q (.error (p,c))):ah w B lv ts sz dp R q V dv (ku p c) w':=⟨hg,_,h,rfl⟩
theorem ah.ok{α:Type}{ts:List Lx.Tok}{R:Px.Rg α}{q:List Lx.Tok}{V:α->Value->World->Prop}{dv:α->Bool}{a:α}{q':List Lx.Tok}{v:Value}(hg:w.grownBy w' (some B))(h:R q (.ok (a,q')))(hv:V a v w')(hx:Cx w' B lv ts sz q' (dv a||dp)):ah w B lv ts sz dp R q V dv (.returned v) w':=⟨hg,_,h,v,rfl,hv,hx⟩
theorem ah.cases{α:Type}{ts:List Lx.Tok}{R:Px.Rg α}{q:List Lx.Tok}{V:α->Value->World->Prop}{dv:α->Bool}{x:Ending}(h:ah w B lv ts sz dp R q V dv x w'):
   w.grownBy w' (some B)/\((∃p c,R q (.error (p,c))/\x=ku p c)\/∃a q' v,R q (.ok (a,q'))/\x=.returned v/\V a v w'/\Cx w' B lv ts sz q' (dv a||dp)):=by
 obtain⟨hg,r,hr,hf⟩:=h;refine⟨hg,?_⟩
 match r,hr,hf with
 |.error (p,c),hr,hf=>exact .inl ⟨p,c,hr,hf⟩
 |.ok (a,q'),hr,⟨v,h1,h2,h3⟩=>exact .inr ⟨a,q',v,hr,h1,h2,h3⟩
def PV(s:Lx.Bs)(v:Value)(_:World):Prop:=v=.string ⟨s.toArray⟩
def NN(n:Nat)(v:Value)(_:World):Prop:=v=.int .i64 (n:Int)
def II(_:Unit)(v:Value)(_:World):Prop:=v=.tuple #[]
def cu{α:Type}(_:α):Bool:=false
theorem qE{w1:World}{row:Option Nat}(h:w.grownBy w1 row)(o:Obj):w.grownBy (w1.alloc o) row:=
 ⟨h.os,h.tape,h.output,by have:=h.size;simp;omega,fun k hk hne=>by
  rw[<-h.block k hk hne]
  exact heap_alloc_old w1 o (nlA hk h.size)⟩
theorem rF{q:List Lx.Tok}{tt:Lx.Bs}(ht:pk sz q=⟨tk,tt,tp⟩)(h0:tk≠0):∃q',q=⟨tk,tt,tp⟩::q':=by
 cases q with
 |nil=>simp only[pk,Lx.Tok.mk.injEq]at ht;omega
 |cons t q'=>simp only[pk]at ht;exact⟨q',by rw[ht]⟩
theorem Et{q:List Lx.Tok}{tt:Lx.Bs}(ht:pk sz q=⟨tk,tt,tp⟩):Px.plc sz q=tp:=by rw[GL,ht]
theorem yP(s:ByteArray)(w:World)(B g:Nat)(lv:Value)(ts:List Lx.Tok)(sz:Nat)(q:List Lx.Tok)(dp:Bool)(h:Cx w B lv ts sz q dp)(hne:s.data.toList≠[])(hv:w.cell? ⟨g,0,none⟩=some (.string s)):
   Calls Tryz.prog 56 #[.pointer (some ⟨B,0,none⟩),.slice (some ⟨g,0,none⟩) 1 1] w (ah w B lv ts sz dp (Px.bG sz s.data.toList) q II cu):=by
 cases hs:Px.sees s.data.toList q with
 |true=>
  refine(zI s w B g lv ts sz q dp h hs hne hv).mono ?_;rintro x w' ⟨rfl,hx,hg⟩;exact ah.ok hg (by unfold Px.bG Px.must;rw[if_pos hs]) rfl hx
 |false=>
  refine(Bf s w B g lv ts sz q dp h hs hne hv).mono ?_;rintro x w' ⟨rfl,hb⟩;exact ah.err (Below.grownBy hb) (by unfold Px.bG Px.must;rw[if_neg (by simp[hs])])
theorem Kj{q:List Lx.Tok}{tt:Lx.Bs}(ht:pk sz q=⟨tk,tt,tp⟩)(hk:tk≠18):Px.nameR sz q (.error (Px.plc sz q,4)):=by
 unfold Px.nameR
 cases q with
 |nil=>rfl
 |cons t q=>
  simp only[pk]at ht;subst ht;simp only[Px.name,Px.plc];rw[if_pos hk]
theorem dz(w:World)(B:Nat)(lv:Value)(ts:List Lx.Tok)(sz:Nat)(q:List Lx.Tok)(dp:Bool)(h:Cx w B lv ts sz q dp):
   Calls Tryz.prog 57 #[.pointer (some ⟨B,0,none⟩)] w (ah w B lv ts sz dp (Px.nameR sz) q PV cu):=by
 rcases ht:pk sz q with⟨tk,tt,tp⟩;by_cases hk:tk=18
 · obtain⟨q',rfl⟩:=rF ht (by omega);have HX:=hd h;have HK:=hd hk
   have hR:Px.nameR sz (⟨tk,tt,tp⟩::q') (if 30<tt.length then .error (tp,5)else .ok (tt,q')):=by
    unfold Px.nameR;simp only[Px.name];rw[if_neg (by simpa using hk)]
    split<;>rfl
   have HR:=hd hR;clear h ht hk hR;go_enter Tryz.func57,Tryz.ntmps57;go_wp2_with fail;refine(nI w B lv ts sz tk tt tp q' dp HX.out 18 HK.out).mono ?_;rintro x w1 ⟨rfl,hx,hg⟩;have HX1:=hd hx;have HG1:=hd hg;clear hx hg;unfold gN;simp only;by_cases hl:30<tt.length
   · have hl':(30:Int)<(tt.length:Int):=by omega
     go_wp2_with fail;refine(fT _ _ tp 5).mono ?_;rintro x w2 ⟨rfl,rfl⟩;exact⟨rfl,ah.err (qE HG1.out _) (by have:=HR.out;rwa [if_pos hl]at this)⟩
   have hl':¬(30:Int)<(tt.length:Int):=by omega
   go_wp2_with fail;go_ret;exact ah.ok (qE HG1.out _) (by have:=HR.out;rwa [if_neg hl]at this) rfl (HX1.out.below ((Below.refl _ _).alloc (nlr _) _))
 have HX:=hd h;have HN:=hd (Kj ht hk);go_enter Tryz.func57,Tryz.ntmps57;go_wp2_with fail;refine(wD w B lv ts sz q dp HX.out tk tt tp ht 18 hk).mono ?_;rintro x w1 ⟨rfl,hb⟩;exact⟨rfl,ah.err (Below.grownBy hb) HN.out⟩
theorem oJ:∀(l:Lx.Bs) (acc:Nat),(∀c∈l,Lx.aH c=true)->Px.dfold l acc<=9223372036854775808->Lib.parseUint10 acc l=.ok (Px.dfold l acc)
 |[],acc,_,_=>rfl
 |c::l,acc,hd,hv=>by
  rw[Px.eQ]at hv⊢;have hc:=hd c (by simp);simp only[Lx.aH,decide_eq_true_eq]at hc;have hge:=Px.zZ l (10*acc+(c.toNat-48));unfold Lib.parseUint10;rw[if_pos hc,if_neg (by omega),if_neg (by omega),Nat.mul_comm acc 10];exact oJ l _ (fun x hx=>hd x (by simp[hx])) hv
theorem BU{t:Lx.Bs}(hne:t≠[])(hd:∀c∈t,Lx.aH c=true)(hv:Px.iM t<=9223372036854775808):Lib.atoiAll t=if Px.iM t=9223372036854775808 then .range else .ok (Px.iM t:Int):=by
 cases t with
 |nil=>exact absurd rfl hne
 |cons c r=>
  have hc:=hd c (by simp);simp only[Lx.aH,decide_eq_true_eq]at hc;rw[Px.jD]at hv⊢;have hp:=oJ (c::r) 0 hd hv;simp only[Lib.atoiAll];rw[if_neg (by omega)];unfold Lib.parseMag;rw[if_neg (by simp),hp];simp only
  have h45:¬c.toNat=45:=by omega
  by_cases he:Px.dfold (c::r) 0=9223372036854775808
  · rw[if_pos ⟨h45,by omega⟩,if_pos he]
  rw[if_neg (by omega),if_neg (by omega),if_neg he,if_neg h45]
def yw(sz most:Nat):Px.Rg Nat:=fun ts r=>match ts with
 |[]=>r=.error (sz,4)
 |t::q=>r=if t.kind≠16 then .error (t.pos,4)else if t.text=Lx.top\/most<Px.iM t.text then .error (t.pos,3)else .ok (Px.iM t.text,q)
theorem Mt{most:Nat}{q:List Lx.Tok}{tt:Lx.Bs}(ht:pk sz q=⟨tk,tt,tp⟩)(hk:tk≠16):yw sz most q (.error (Px.plc sz q,4)):=by
 unfold yw
 cases q with
 |nil=>rfl
 |cons t q=>
  simp only[pk]at ht;subst ht;simp only[Px.plc];rw[if_pos hk]
theorem El{t:Lx.Bs}(hd:∀c∈t,Lx.aH c=true)(ho:Lx.dR t=false):(Px.iM t=9223372036854775808↔t=Lx.top)/\Px.iM t<=9223372036854775808:=by
 by_cases h:t=Lx.top
 · subst h;exact⟨⟨fun _=>rfl,fun _=>Px.pO⟩,by rw[Px.pO];omega⟩
 have:=Px.Ku hd ho h;exact⟨⟨fun e=>by omega,fun e=>absurd e h⟩,by omega⟩
theorem Cx.tok{ts:List Lx.Tok}{t:Lx.Tok}{q:List Lx.Tok}(h:Cx w B lv ts sz (t::q) dp):Lx.Bb t/\Px.nZ t/\t.pos<=2000/\t.text.length<=2000:=by
 obtain⟨k,h1,h2⟩:=h;exact h2.toks t (List.mem_of_mem_drop (by rw[<-h1];simp))
theorem Cx.env{ts:List Lx.Tok}{q:List Lx.Tok}(h:Cx w B lv ts sz q dp):iZ w:=by
 obtain⟨k,h1,h2⟩:=h;exact h2.env
theorem fE(w:World)(B:Nat)(lv:Value)(ts:List Lx.Tok)(sz:Nat)(q:List Lx.Tok)(dp:Bool)(h:Cx w B lv ts sz q dp)(most:Nat)(hm:most<=9223372036854775807):
   Calls Tryz.prog 130 #[.pointer (some ⟨B,0,none⟩),.int .i64 (most:Int)] w (ah w B lv ts sz dp (yw sz most) q NN cu):=by
 rcases ht:pk sz q with⟨tk,tt,tp⟩;by_cases hk:tk=16
 · obtain⟨q',rfl⟩:=rF ht (by omega);have HX:=hd h;have HK:=hd hk;obtain⟨hok,_,_,hlen⟩:=h.tok;obtain⟨hne,hdig,hov⟩:=hok.digs hk;simp only at hne hdig hov hlen;obtain⟨htop,hle⟩:=El hdig hov;have hat:=BU hne hdig hle
   have hR:yw sz most (⟨tk,tt,tp⟩::q') (if tt=Lx.top\/most<Px.iM tt then .error (tp,3)else .ok (Px.iM tt,q')):=by
    unfold yw;simp only;rw[if_neg (show¬(tk≠16)from fun e=>e hk)]
   have HR:=hd hR
   have hsz:(⟨tt.toArray⟩:ByteArray).size<=2000:=by simpa[ByteArray.size]using hlen
   clear h ht hk hR hok hne hdig hov;go_enter Tryz.func130,Tryz.ntmps130;go_wp2_with fail;refine(nI w B lv ts sz tk tt tp q' dp HX.out 16 HK.out).mono ?_;rintro x w1 ⟨rfl,hx,hg⟩;have HX1:=hd (hx.below ((Below.refl _ _).alloc (nlr _) (.cells #[.int .i64 (tk:Int),.string ⟨tt.toArray⟩,.int .i64 (tp:Int)] 146)));have HG1:=hd (qE hg (.cells #[.int .i64 (tk:Int),.string ⟨tt.toArray⟩,.int .i64 (tp:Int)] 146));have KN:=af.new w1 #[.int .i64 (tk:Int),.string ⟨tt.toArray⟩,.int .i64 (tp:Int)] 146;have HKN:=hd KN;clear hx hg KN;unfold gN;simp only;by_cases he:Px.iM tt=9223372036854775808
   · rw[if_pos he]at hat;obtain⟨te,pe,LA⟩:=HX1.out.env.rng;have HA:=hd ((Tryz.strconv_Atoi_range ⟨tt.toArray⟩ (by omega) hat _ _ LA (.inr ⟨te,pe,rfl⟩)));clear hat LA;go_wp2_with fail;refine HA.out.mono ?_;rintro x w2 ⟨N,rfl,hN,_,hb⟩;have KN2:=HKN.out.below hb (by simp);have n2:w2.cell? ⟨w1.heap.size,2,none⟩=some (.int .i64 (tp:Int)):=KN2.cell 2;have HB:=hd hb;clear hb KN2;go_wp2_with fail;refine(fT _ _ tp 3).mono ?_;rintro x w3 ⟨rfl,rfl⟩;exact⟨rfl,ah.err (av HG1.out (Below.grownBy HB.out)) (by have:=HR.out;rwa [if_pos (.inl (htop.1 he))]at this)⟩
   rw[if_neg he]at hat;have HA:=hd ((Tryz.strconv_Atoi_ok ⟨tt.toArray⟩ (by omega) _ hat (w1.alloc (.cells #[.int .i64 (tk:Int),.string ⟨tt.toArray⟩,.int .i64 (tp:Int)] 146))))
   have hlt:Px.iM tt<9223372036854775808:=by omega
   clear hat;go_wp2_with fail;refine HA.out.mono ?_;rintro x w2 ⟨rfl,hw⟩
   have hb:Below (w1.alloc (.cells #[.int .i64 (tk:Int),.string ⟨tt.toArray⟩,.int .i64 (tp:Int)] 146)).heap.size (w1.alloc (.cells #[.int .i64 (tk:Int),.string ⟨tt.toArray⟩,.int .i64 (tp:Int)] 146)) w2:=by
    rcases hw with rfl|⟨t,rfl⟩
    · exact Below.refl _ _
    exact Lib.bytesWorld_below _ _ _
   have KN2:=HKN.out.below hb (by simp);have n2:w2.cell? ⟨w1.heap.size,2,none⟩=some (.int .i64 (tp:Int)):=KN2.cell 2;have HB:=hd hb;clear hb KN2 hw;generalize Px.iM tt=n at*;by_cases hgt:most<n
   · have Pn:(most:Int)<(n:Int):=by omega
     go_wp2_with fail;refine(fT _ _ tp 3).mono ?_;rintro x w3 ⟨rfl,rfl⟩;exact⟨rfl,ah.err (av HG1.out (Below.grownBy HB.out)) (by have:=HR.out;rwa [if_pos (.inr hgt)]at this)⟩
   have Pn:¬(most:Int)<(n:Int):=by omega
   go_wp2_with fail;go_ret;exact ah.ok (av HG1.out (Below.grownBy HB.out)) (by have:=HR.out;rwa [if_neg (by rintro(e|e);exact he (htop.2 e);exact hgt e)]at this) rfl (HX1.out.below HB.out)
 have HX:=hd h;have HN:=hd (Mt (most:=most) ht hk);go_enter Tryz.func130,Tryz.ntmps130;go_wp2_with fail;refine(wD w B lv ts sz q dp HX.out tk tt tp ht 16 hk).mono ?_;rintro x w1 ⟨rfl,hb⟩;exact⟨rfl,ah.err (Below.grownBy hb) HN.out⟩
def Md(x:Nat×Lx.Bs×Nat):Value:=.agg #[.int .i64 (x.2.2:Int),.string ⟨x.2.1.toArray⟩,.int .i64 (x.1:Int)]
def LH(k:Nat):Nat×Lx.Bs×Nat:=Px.bP.getD k (0,[],0)
theorem GN(k:Nat)(h:k<14)(w:World):(Instr.index 409 (.agg (opsRow Px.bP).toArray) (.int .i64 (k:Int))).run Tryz.prog w=.ok (Md (LH k)) w:=by
 have:k=0\/k=1\/k=2\/k=3\/k=4\/k=5\/k=6\/k=7\/k=8\/k=9\/k=10\/k=11\/k=12\/k=13:=by omega
 rcases this with rfl|rfl|rfl|rfl|rfl|rfl|rfl|rfl|rfl|rfl|rfl|rfl|rfl|rfl
 all_goals(show Sem.run _ _ _=_;kernel_rfl)
theorem J3(k lv:Nat)(s:Lx.Bs)(h:k<14):Px.opIn (Px.bP.drop k) lv s=if(LH k).1=lv/\(LH k).2.1=s then(LH k).2.2 else Px.opIn (Px.bP.drop (k+1)) lv s:=by
 rw[List.drop_eq_getElem_cons (show k<Px.bP.length from h)]
 have:Px.bP[k]'(show k<Px.bP.length from h)=LH k:=by
  unfold LH;rw[List.getD_eq_getElem?_getD,List.getElem?_eq_getElem (show k<Px.bP.length from h)];rfl
 rw[this]
 rfl
theorem Kk(k:Nat)(h:k<14):(LH k).2.2≠0/\(LH k).1<=7:=by
 have:k=0\/k=1\/k=2\/k=3\/k=4\/k=5\/k=6\/k=7\/k=8\/k=9\/k=10\/k=11\/k=12\/k=13:=by omega
 rcases this with rfl|rfl|rfl|rfl|rfl|rfl|rfl|rfl|rfl|rfl|rfl|rfl|rfl|rfl<;>decide
theorem lF(s:ByteArray)(lv:Nat)(w:World)(he:iZ w)(hl:lv<=9):
   Calls Tryz.prog 304 #[.string s,.int .i64 (lv:Int)] w fun e w'=>e=.returned (.tuple #[.int .i64 ((Px.opIn Px.bP lv s.data.toList:Nat):Int),.bool (decide (Px.opIn Px.bP lv s.data.toList≠0))])/\Below w.heap.size w w':=by
 obtain⟨ty,fr,hg⟩:=he.ops;have HG:=hd hg;clear hg he;go_enter Tryz.func304,Tryz.ntmps304;go_wp2_with(refine wpList_load_row rfl 409 _ rfl 7 rfl ty _ fr _ HG.out Tryz.underlying409 rfl (by kernel_rfl) ?_);go_loopw [9] (fun i wr=>∃k:Nat,k<=14/\i=.int .i64 k/\Hid (Px.opIn Px.bP lv s.data.toList=Px.opIn (Px.bP.drop k) lv s.data.toList)/\Hid (Below w.heap.size w wr)) (fun i _=>14-(intOf i).toNat)
 case atStart=>exact⟨0,by omega,rfl,rfl,Below.refl _ _⟩
 case round=>
  obtain⟨k,hk,rfl,HK,HW⟩:=hrel;by_cases hlt:k<14
  · have hix:=GN k hlt;have HS:=hd (J3 k lv s.data.toList hlt);have HP:=hd (Kk k hlt);have hws:=HW.out.size;generalize LH k=o at*;obtain⟨ol,os,ok⟩:=o;unfold Md at hix;dsimp only at hix HS HP;obtain⟨u,hu⟩:∃u:ByteArray,u=⟨os.toArray⟩:=⟨_,rfl⟩
    have HU:Hid (u.data.toList=os):=by rw[hu];show _=_;simp
    rw[<-hu]at hix;clear hu
    have HOS:Hid (u.toList=s.toList↔os=s.data.toList):=by show _↔_;rw[Lib.toList_data,Lib.toList_data,HU.out]
    by_cases hs:u.toList=s.toList
    · have HE:=hd (HOS.out.1 hs)
      have hs':(u.toList==s.toList)=true:=by simp[hs]
      by_cases hol:ol=lv
      · have HF:Hid (Px.opIn Px.bP lv s.data.toList=ok):=by show _=_;rw[HK.out,HS.out,if_pos ⟨hol,HE.out⟩]
        have QE:((ol:Int)==(lv:Int))=true:=by simp[hol]
        go_wp2
        go_ret2
        refine⟨?_,HW.out.alloc hws _⟩;rw[HF.out];simp[HP.out.1]
      have HF:Hid (Px.opIn Px.bP lv s.data.toList=Px.opIn (Px.bP.drop (k+1)) lv s.data.toList):=by show _=_;rw[HK.out,HS.out,if_neg (fun e=>hol e.1)]
      have QE:((ol:Int)==(lv:Int))=false:=by rw[beq_eq_false_iff_ne];omega
      go_wp2;go_roundw
      case rel=>exact⟨k+1,by omega,by go_num,HF,HW.out.alloc hws _⟩
      case measure=>simp[intOf];omega
    have HF:Hid (Px.opIn Px.bP lv s.data.toList=Px.opIn (Px.bP.drop (k+1)) lv s.data.toList):=by show _=_;rw[HK.out,HS.out,if_neg (fun e=>hs (HOS.out.2 e.2))]
    have hs':(u.toList==s.toList)=false:=by rw[beq_eq_false_iff_ne];exact hs
    go_wp2;go_roundw
    case rel=>exact⟨k+1,by omega,by go_num,HF,HW.out.alloc hws _⟩
    case measure=>simp[intOf];omega
  have HF:Hid (Px.opIn Px.bP lv s.data.toList=0):=by show _=_;rw[HK.out,List.drop_eq_nil_of_le (by show 14<=k;omega)];rfl
  go_wp2
  go_ret2
  refine⟨?_,HW.out⟩;rw[HF.out]
  rfl
def ev:Px.E->Value
 |.null=> .iface 290 (.agg #[])
 |.bool b=> .iface 285 (.agg #[.bool b])
 |.num z=> .iface 287 (.agg #[.int .i64 z])
 |.str s=> .iface 289 (.agg #[.string ⟨s.toArray⟩])
 |.nm s=> .iface 271 (.agg #[.string ⟨s.toArray⟩])
 |.un k e=> .iface 292 (.agg #[.int .i64 (k:Int),ev e])
 |.bin k a b=> .iface 294 (.agg #[.int .i64 (k:Int),ev a,ev b])
theorem OI(a b:Value)(w:World):(Instr.typeAssert (.iface 292 (.agg #[a,b])) 98 292 true).run Tryz.prog w=.ok (.tuple #[.agg #[a,b],.bool true]) w:=by kernel_rfl
theorem JD(a b c:Value)(w:World):(Instr.typeAssert (.iface 294 (.agg #[a,b,c])) 98 294 true).run Tryz.prog w=.ok (.tuple #[.agg #[a,b,c],.bool true]) w:=by kernel_rfl
theorem H7(a b c:Value)(w:World):(Instr.typeAssert (.iface 294 (.agg #[a,b,c])) 98 292 true).run Tryz.prog w=.ok (.tuple #[.agg #[.int .i64 0,.nilIface],.bool false]) w:=by kernel_rfl
theorem Kh(t:Nat)(v:Value)(ht:t=290\/t=285\/t=287\/t=289\/t=271)(w:World):(Instr.typeAssert (.iface t v) 98 292 true).run Tryz.prog w=.ok (.tuple #[.agg #[.int .i64 0,.nilIface],.bool false]) w:=by
 rcases ht with rfl|rfl|rfl|rfl|rfl
 all_goals(show Sem.run _ _ _=_;kernel_rfl)
theorem Ig(t:Nat)(v:Value)(ht:t=290\/t=285\/t=287\/t=289\/t=271)(w:World):(Instr.typeAssert (.iface t v) 98 294 true).run Tryz.prog w=.ok (.tuple #[.agg #[.int .i64 0,.nilIface,.nilIface],.bool false]) w:=by
 rcases ht with rfl|rfl|rfl|rfl|rfl
 all_goals(show Sem.run _ _ _=_;kernel_rfl)
def Ew(e:Px.E)(v:Value)(_:World):Prop:=v=ev e
def gG(sz m:Nat):Px.Rg Px.E:=fun ts r=>Px.Ex sz m [] ts (Px.mapR Px.E.nodes r)/\∀e q,r=.ok (e,q)->e.ok 2000/\e.size+q.length<=ts.length
theorem dW{ts q:List Lx.Tok}{e:Px.E}(hm:m<10)(h:Px.Ex sz m [] ts (.ok (e.nodes,q)))(ho:e.ok 2000):gG sz m ts (.ok (e,q)):=by
 refine⟨h,fun e' q' he=> ?_⟩
 cases he
 refine⟨ho,?_⟩;have:=(Px.Ex.len hm h).2
 rwa [Px.E.yE]at this
theorem dI{ts:List Lx.Tok}{p:Nat}(h:Px.Ex sz m [] ts (.error (p,c))):gG sz m ts (.error (p,c)):=⟨h,fun e q he=>by cases he⟩
theorem fZ(e:Px.E):∃t x,ev e=.iface t x:=by cases e<;>exact⟨_,_,rfl⟩
theorem Ih(a:Value)(w:World):(Instr.typeAssert (.iface 287 (.agg #[a])) 98 287 true).run Tryz.prog w=.ok (.tuple #[.agg #[a],.bool true]) w:=by kernel_rfl
theorem Kq(e:Px.E)(h:e.isNum=false)(w:World):(Instr.typeAssert (ev e) 98 287 true).run Tryz.prog w=.ok (.tuple #[.agg #[.int .i64 0],.bool false]) w:=by
 cases e with
 |num z=>simp[Px.E.isNum]at h
 |_=>unfold ev;show Sem.run _ _ _=_;kernel_rfl
theorem Fx(w:World)(v:Value)(p:Nat)(z:Int)(h1: -9223372036854775808<z)(h2:z<=9223372036854775807):
   Calls Tryz.prog 337 #[v,.int .i64 (p:Int),.iface 287 (.agg #[.int .i64 z])] w fun x w'=>x=.returned (.iface 287 (.agg #[.int .i64 (-z)]))/\Below w.heap.size w w':=by
 have hn:=Ih (.int .i64 z)
 have h3:(z==(-9223372036854775808:Int))=false:=by rw[beq_eq_false_iff_ne];omega
 go_enter Tryz.func337,Tryz.ntmps337;go_wp2_with fail;go_ret;refine⟨rfl,(Below.refl _ _).alloc (nlr _) _⟩
theorem FR(w:World)(v:Value)(p:Nat):
   Calls Tryz.prog 337 #[v,.int .i64 (p:Int),.iface 287 (.agg #[.int .i64 (-9223372036854775808)])] w fun x w'=>x=ku p 3/\Below w.heap.size w w':=by
 have hn:=Ih (.int .i64 (-9223372036854775808));go_enter Tryz.func337,Tryz.ntmps337;go_wp2_with fail;refine(fT _ _ p 3).mono ?_;rintro x w1 ⟨rfl,rfl⟩;exact⟨rfl,rfl,(Below.refl _ _).alloc (nlr _) _⟩
theorem EU(w:World)(v:Value)(p:Nat)(e:Px.E)(he:e.isNum=false):
   Calls Tryz.prog 337 #[v,.int .i64 (p:Int),ev e] w fun x w'=>x=.returned (ev (.un 19 e))/\Below w.heap.size w w':=by
 have hn:=Kq e he;have hev:ev (.un 19 e)=.iface 292 (.agg #[.int .i64 19,ev e]):=rfl;obtain⟨t,y,hy⟩:=fZ e;rw[hev];rw[hy]at hn⊢;clear hev hy he;go_enter Tryz.func337,Tryz.ntmps337;go_wp2_with fail;go_ret;exact⟨rfl,(Below.refl _ _).alloc (nlr _) _⟩
theorem bz(s:ByteArray)(w:World)(B:Nat)(lv:Value)(ts:List Lx.Tok)(sz:Nat)(q:List Lx.Tok)(dp:Bool)(h:Cx w B lv ts sz q dp)(hne:s.data.toList≠[]):
   Calls Tryz.prog 56 #[.pointer (some ⟨B,0,none⟩),.slice (some ⟨w.heap.size,0,none⟩) 1 1] (w.alloc (.cells #[.string s] 9)) (ah w B lv ts sz dp (Px.bG sz s.data.toList) q II cu):=by
 refine(yP s _ B w.heap.size lv ts sz q dp (h.below ((Below.refl _ _).alloc (nlr _) _)) hne ((af.new w #[.string s] 9).cell 0)).mono ?_;rintro x w' ⟨hg,hr⟩;exact⟨av (Below.grownBy ((Below.refl _ _).alloc (nlr _) _)) (by simpa using hg),hr⟩
namespace Mn
theorem sU(w:World):(Instr.typeAssert (.iface 290 (.agg #[])) 98 285 true).run Tryz.prog w=.ok (.tuple #[.agg #[.bool false],.bool false]) w:=by kernel_rfl
theorem nV(w:World):(Instr.typeAssert (.iface 290 (.agg #[])) 98 287 true).run Tryz.prog w=.ok (.tuple #[.agg #[.int .i64 0],.bool false]) w:=by kernel_rfl
theorem oC(w:World):(Instr.typeAssert (.iface 290 (.agg #[])) 98 289 true).run Tryz.prog w=.ok (.tuple #[.agg #[.string ⟨#[]⟩],.bool false]) w:=by kernel_rfl
theorem nE(w:World):(Instr.typeAssert (.iface 290 (.agg #[])) 98 271 true).run Tryz.prog w=.ok (.tuple #[.agg #[.string ⟨#[]⟩],.bool false]) w:=by kernel_rfl
theorem kW(w:World):(Instr.typeAssert (.iface 290 (.agg #[])) 98 292 true).run Tryz.prog w=.ok (.tuple #[.agg #[.int .i64 0,.nilIface],.bool false]) w:=by kernel_rfl
theorem jV(w:World):(Instr.typeAssert (.iface 290 (.agg #[])) 98 294 true).run Tryz.prog w=.ok (.tuple #[.agg #[.int .i64 0,.nilIface,.nilIface],.bool false]) w:=by kernel_rfl
theorem nD(a:Value)(w:World):(Instr.typeAssert (.iface 285 (.agg #[a])) 98 285 true).run Tryz.prog w=.ok (.tuple #[.agg #[a],.bool true]) w:=by kernel_rfl
theorem CF(a:Value)(w:World):(Instr.typeAssert (.iface 285 (.agg #[a])) 98 271 true).run Tryz.prog w=.ok (.tuple #[.agg #[.string ⟨#[]⟩],.bool false]) w:=by kernel_rfl
theorem zX(a:Value)(w:World):(Instr.typeAssert (.iface 285 (.agg #[a])) 98 292 true).run Tryz.prog w=.ok (.tuple #[.agg #[.int .i64 0,.nilIface],.bool false]) w:=by kernel_rfl
theorem zu(a:Value)(w:World):(Instr.typeAssert (.iface 285 (.agg #[a])) 98 294 true).run Tryz.prog w=.ok (.tuple #[.agg #[.int .i64 0,.nilIface,.nilIface],.bool false]) w:=by kernel_rfl
theorem nN(a:Value)(w:World):(Instr.typeAssert (.iface 287 (.agg #[a])) 98 285 true).run Tryz.prog w=.ok (.tuple #[.agg #[.bool false],.bool false]) w:=by kernel_rfl
theorem kR(a:Value)(w:World):(Instr.typeAssert (.iface 287 (.agg #[a])) 98 287 true).run Tryz.prog w=.ok (.tuple #[.agg #[a],.bool true]) w:=by kernel_rfl
theorem xR(a:Value)(w:World):(Instr.typeAssert (.iface 287 (.agg #[a])) 98 271 true).run Tryz.prog w=.ok (.tuple #[.agg #[.string ⟨#[]⟩],.bool false]) w:=by kernel_rfl
theorem vN(a:Value)(w:World):(Instr.typeAssert (.iface 287 (.agg #[a])) 98 292 true).run Tryz.prog w=.ok (.tuple #[.agg #[.int .i64 0,.nilIface],.bool false]) w:=by kernel_rfl
theorem vE(a:Value)(w:World):(Instr.typeAssert (.iface 287 (.agg #[a])) 98 294 true).run Tryz.prog w=.ok (.tuple #[.agg #[.int .i64 0,.nilIface,.nilIface],.bool false]) w:=by kernel_rfl
theorem oF(a:Value)(w:World):(Instr.typeAssert (.iface 289 (.agg #[a])) 98 285 true).run Tryz.prog w=.ok (.tuple #[.agg #[.bool false],.bool false]) w:=by kernel_rfl
theorem kX(a:Value)(w:World):(Instr.typeAssert (.iface 289 (.agg #[a])) 98 287 true).run Tryz.prog w=.ok (.tuple #[.agg #[.int .i64 0],.bool false]) w:=by kernel_rfl
theorem kS(a:Value)(w:World):(Instr.typeAssert (.iface 289 (.agg #[a])) 98 289 true).run Tryz.prog w=.ok (.tuple #[.agg #[a],.bool true]) w:=by kernel_rfl
theorem zJ(a:Value)(w:World):(Instr.typeAssert (.iface 289 (.agg #[a])) 98 271 true).run Tryz.prog w=.ok (.tuple #[.agg #[.string ⟨#[]⟩],.bool false]) w:=by kernel_rfl
theorem vU(a:Value)(w:World):(Instr.typeAssert (.iface 289 (.agg #[a])) 98 292 true).run Tryz.prog w=.ok (.tuple #[.agg #[.int .i64 0,.nilIface],.bool false]) w:=by kernel_rfl
theorem sD(a:Value)(w:World):(Instr.typeAssert (.iface 289 (.agg #[a])) 98 294 true).run Tryz.prog w=.ok (.tuple #[.agg #[.int .i64 0,.nilIface,.nilIface],.bool false]) w:=by kernel_rfl
theorem uS(a:Value)(w:World):(Instr.typeAssert (.iface 271 (.agg #[a])) 98 285 true).run Tryz.prog w=.ok (.tuple #[.agg #[.bool false],.bool false]) w:=by kernel_rfl
theorem oQ(a:Value)(w:World):(Instr.typeAssert (.iface 271 (.agg #[a])) 98 287 true).run Tryz.prog w=.ok (.tuple #[.agg #[.int .i64 0],.bool false]) w:=by kernel_rfl
theorem nR(a:Value)(w:World):(Instr.typeAssert (.iface 271 (.agg #[a])) 98 289 true).run Tryz.prog w=.ok (.tuple #[.agg #[.string ⟨#[]⟩],.bool false]) w:=by kernel_rfl
theorem mR(a:Value)(w:World):(Instr.typeAssert (.iface 271 (.agg #[a])) 98 271 true).run Tryz.prog w=.ok (.tuple #[.agg #[a],.bool true]) w:=by kernel_rfl
theorem qm(a b:Value)(w:World):(Instr.typeAssert (.iface 292 (.agg #[a,b])) 98 285 true).run Tryz.prog w=.ok (.tuple #[.agg #[.bool false],.bool false]) w:=by kernel_rfl
theorem mi(a b:Value)(w:World):(Instr.typeAssert (.iface 292 (.agg #[a,b])) 98 287 true).run Tryz.prog w=.ok (.tuple #[.agg #[.int .i64 0],.bool false]) w:=by kernel_rfl
theorem mH(a b:Value)(w:World):(Instr.typeAssert (.iface 292 (.agg #[a,b])) 98 289 true).run Tryz.prog w=.ok (.tuple #[.agg #[.string ⟨#[]⟩],.bool false]) w:=by kernel_rfl
theorem ll(a b:Value)(w:World):(Instr.typeAssert (.iface 292 (.agg #[a,b])) 98 271 true).run Tryz.prog w=.ok (.tuple #[.agg #[.string ⟨#[]⟩],.bool false]) w:=by kernel_rfl
theorem jL(a b:Value)(w:World):(Instr.typeAssert (.iface 292 (.agg #[a,b])) 98 292 true).run Tryz.prog w=.ok (.tuple #[.agg #[a,b],.bool true]) w:=by kernel_rfl
theorem og(a b c:Value)(w:World):(Instr.typeAssert (.iface 294 (.agg #[a,b,c])) 98 285 true).run Tryz.prog w=.ok (.tuple #[.agg #[.bool false],.bool false]) w:=by kernel_rfl
theorem kQ(a b c:Value)(w:World):(Instr.typeAssert (.iface 294 (.agg #[a,b,c])) 98 287 true).run Tryz.prog w=.ok (.tuple #[.agg #[.int .i64 0],.bool false]) w:=by kernel_rfl
theorem kK(a b c:Value)(w:World):(Instr.typeAssert (.iface 294 (.agg #[a,b,c])) 98 289 true).run Tryz.prog w=.ok (.tuple #[.agg #[.string ⟨#[]⟩],.bool false]) w:=by kernel_rfl
theorem jU(a b c:Value)(w:World):(Instr.typeAssert (.iface 294 (.agg #[a,b,c])) 98 271 true).run Tryz.prog w=.ok (.tuple #[.agg #[.string ⟨#[]⟩],.bool false]) w:=by kernel_rfl
theorem jg(a b c:Value)(w:World):(Instr.typeAssert (.iface 294 (.agg #[a,b,c])) 98 292 true).run Tryz.prog w=.ok (.tuple #[.agg #[.int .i64 0,.nilIface],.bool false]) w:=by kernel_rfl
theorem iw(a b c:Value)(w:World):(Instr.typeAssert (.iface 294 (.agg #[a,b,c])) 98 294 true).run Tryz.prog w=.ok (.tuple #[.agg #[a,b,c],.bool true]) w:=by kernel_rfl
end Mn
namespace Mg
def val:Px.E->Except Nat Int
 |.num z=> .ok z
 |.bin k a b=>match val a with
  |.error c=> .error c
  |.ok x=>match val b with
   |.error c=> .error c
   |.ok y=>arith k x y
 |_=> .error 0
end Mg
namespace Mn
theorem uH(k:Nat)(a b:Int)(w:World)(hk:32<=k/\k<=36)(ha: -9223372036854775808<=a/\a<=9223372036854775807)(hb: -9223372036854775808<=b/\b<=9223372036854775807):
   Calls Tryz.prog 258 #[.int .i64 (k:Int),.int .i64 a,.int .i64 b] w (NumOut w (Mg.arith k a b)):=by
 have hk':k=32\/k=33\/k=34\/k=35\/k=36:=by omega
 clear hk
 have h32:Mg.arith 32 a b=Mg.ck (a+b):=by simp[Mg.arith]
 have h33:Mg.arith 33 a b=Mg.ck (a-b):=by simp[Mg.arith]
 have h34:Mg.arith 34 a b=Mg.ck (a*b):=by simp[Mg.arith]
 have s:=KX a b w ha hb;have d:=uw a b w ha hb;have p:=Bu a b w ha hb;rw[<-h32]at s;rw[<-h33]at d;rw[<-h34]at p;have HS:=hd s;have HD:=hd d;have HP:=hd p;have HQ:=hd (zG a b w ha hb);have HM:=hd (wm a b w ha hb);clear s d p h32 h33 h34;rcases hk' with rfl|rfl|rfl|rfl|rfl
 all_goals
  go_enter Tryz.func258,Tryz.ntmps258;go_wp2_with fail
  first
   |refine HS.out.mono ?_
   |refine HD.out.mono ?_
   |refine HP.out.mono ?_
   |refine HQ.out.mono ?_
   |refine HM.out.mono ?_
  rintro x w1 ⟨hb1,hx⟩;have HB:=hd hb1;have HX:=hd hx;clear hb1 hx HS HD HP HQ HM;generalize Mg.arith _ a b=r at*
  cases r with
  |ok z=>
   obtain rfl:=HX.out;clear HX;go_wp2_with fail;go_ret;exact⟨HB.out,rfl⟩
  |error c=>
   obtain rfl:=HX.out;clear HX;exact⟨rfl,HB.out,rfl⟩
theorem ig(z:Int)(w:World):Calls Tryz.prog 198 #[.int .i64 z] w fun x w'=>x=.returned (.agg #[.int .i64 16,.int .i64 z,.string ⟨#[]⟩])/\Below w.heap.size w w':=by
 go_enter Tryz.func198,Tryz.ntmps198;go_wp2_with fail;refine bodyPost_ret (v:=.agg #[.int .i64 16,.int .i64 z,.string ⟨#[]⟩]) (by simp[results,Tryz.results198,go_sem]) rfl ?_;exact⟨rfl,by go_grown⟩
theorem aj(kd z:Int)(s:ByteArray)(w:World):Calls Tryz.prog 148 #[.agg #[.int .i64 kd,.int .i64 z,.string s]] w fun x w'=>x=.returned (.bool (kd==14))/\Below w.heap.size w w':=by
 go_enter Tryz.func148,Tryz.ntmps148;go_wp2_with fail;go_ret;exact⟨rfl,by go_grown⟩
end Mn
end Go.Proofs.YthhhfcdakfbpkaaGreatDoor
