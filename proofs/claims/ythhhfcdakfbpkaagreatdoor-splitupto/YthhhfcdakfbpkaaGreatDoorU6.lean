/- Parts of the proof -/
import Derived.Test.YthhhfcdakfbpkaaGreatDoorU3
import Derived.Test.YthhhfcdakfbpkaaGreatDoorU1
import Derived.Deep.Draws
import Derived.Deep.RegionWith
import Derived.Deep.RegionHeld3
import Derived.Deep.DrawnRows
import Derived.Deep.CutRange
open Go.Value renaming int -> Yg, agg -> Yj, pointer -> Ym, tuple -> Yn, slice -> Yp, ownBlock -> aaR
open Go.IntKind renaming i64 -> Yh
open Go.Ending renaming returned -> Yl
open Nat renaming le_trans -> YB, zero_add -> Ze, mul_le_mul_right -> aee, div_eq_of_lt -> aek, add_div_left -> aen, add_assoc -> YT, mul_succ -> aeE
open List renaming mem_append_right -> aec, eq_nil_of_length_eq_zero -> aed, map_cons -> YZ, filter_append -> aef, mem_append -> YW, getElem_of_mem -> aeg, getElem?_eq_getElem -> YP, getElem_take -> aeh, getElem_drop -> aei, take_append_drop -> aej, length_append -> aaN, getElem_append_left -> ael, getElem_append_right -> aem, take_set -> aep, cons_append -> YI, length_cons -> Yw, drop_eq_getElem_cons -> YM, length_take -> adO, length_drop -> Yv, take_succ_eq_append_getElem -> aeq, nil_append -> YK, getElem_mem -> acw, take_of_length_le -> acU, drop_of_length_le -> aer, mem_of_mem_drop -> ZP, mem_of_mem_take -> aes, map_append -> aev, getElem?_eq_none -> YY, getElem?_append_right -> aey, getElem?_append_left -> aez, length -> aeA, length_map -> aeB, length_nil -> aeC, append_nil -> aaK, drop_drop -> Yx
open Array renaming toList_setIfInBounds -> aeo
open Go.Proofs.Tryz renaming prog -> Zc, func214 -> aet, ntmps214 -> aeu, func215 -> aew, ntmps215 -> aex, func159 -> aeF, ntmps159 -> aeG, func94 -> aeH, ntmps94 -> aeI
open Bool renaming not_eq_true -> aeD
open Option renaming none -> Y1, some -> Y2
open Go renaming Value -> Y3, World -> Y4, TypeId -> Y5, Calls -> aaT, maxLen -> aaV, Addr -> abR
open Go.RowKit renaming Below -> aaS, intOf -> aeJ
namespace Go.Proofs.YthhhfcdakfbpkaaGreatDoor
set_option linter.unusedSimpArgs false
set_option linter.unusedVariables false
set_option maxRecDepth 100000
set_option maxHeartbeats 16000000
open Go.RowKit
variable {F G:List Nat}{w w':Y4}{N base bs d g hi k lo n pm size:Nat}{T e:Y5}{cb v ve vk:Y3}{xs:List Y3}
namespace Bt
def aF{α:Type}:List (List α)->List α->List α
 |l::ls,e::es=>l++e::aF ls es
 |l::_,[]=>l
 |[],_=>[]
theorem pW{α:Type}:∀(es1:List α) (ls1 ls2:List (List α)) (e:α) (es2:List α),ls1.length=es1.length+1->aF (ls1++ls2) (es1++e::es2)=aF ls1 es1++e::aF ls2 es2
 |[],[l],ls2,e,es2,_=>by simp[aF]
 |[],[],_,_,_,h=>by simp at h
 |[],_::_::_,_,_,_,h=>by simp at h
 |a::es1,[],_,_,_,h=>by simp at h
 |a::es1,l::ls1,ls2,e,es2,h=>by
  have:=pW es1 ls1 ls2 e es2 (by simpa using h);simp[aF,this]
theorem BD{α:Type}:∀(es1:List α) (ls1:List (List α)) (es2:List α) (ls2:List (List α)),ls1.length=es1.length->ls2.length=es2.length->∃p s,∀l,aF (ls1++l::ls2) (es1++es2)=p++l++s
 |[],[],[],[],_,_=>⟨[],[],fun l=>by simp[aF]⟩
 |[],[],e::es2,_::_,_,_=>⟨[],e::aF _ es2,fun l=>by simp[aF];rfl⟩
 |a::es1,l0::ls1,es2,ls2,h1,h2=>by
  obtain⟨p,s,h⟩:=BD es1 ls1 es2 ls2 (by simpa using h1) h2;exact⟨l0++a::p,s,fun l=>by simp[aF,h l]⟩
theorem mZ{α:Type}:∀(es:List α) (ls:List (List α)) (l x:List α),ls.length=es.length->aF (ls++[l++x]) es=aF (ls++[l]) es++x
 |[],[],l,x,_=>by simp[aF]
 |[],_::_,_,_,h=>by simp at h
 |a::es,[],_,_,h=>by simp at h
 |a::es,l0::ls,l,x,h=>by
  have:=mZ es ls l x (by simpa using h);simp[aF,this]
theorem lI{α:Type}:∀(es1:List α) (ls1:List (List α)) (a b:List α) (e:α) (es2:List α) (ls2:List (List α)),ls1.length=es1.length->aF (ls1++(a++e::b)::ls2) (es1++es2)=aF (ls1++a::b::ls2) (es1++e::es2)
 |[],[],a,b,e,es2,ls2,_=>by cases es2<;>simp[aF]
 |[],_::_,_,_,_,_,_,h=>by simp at h
 |x::es1,[],_,_,_,_,_,h=>by simp at h
 |x::es1,l0::ls1,a,b,e,es2,ls2,h=>by
  have:=lI es1 ls1 a b e es2 ls2 (by simpa using h);simp[aF,this]
def ah:List (Y3×Y3)->List Y3
 |[]=>[]
 |e::r=>e.1::e.2::ah r
theorem fe:∀L:List (Y3×Y3),(ah L).length=L.length*2
 |[]=>rfl
 |e::r=>by simp[ah,fe r];omega
theorem gy:∀L M:List (Y3×Y3),ah (L++M)=ah L++ah M
 |[],_=>rfl
 |e::r,M=>by simp[ah,gy r M]
theorem rf:∀(L:List (Y3×Y3)) (n:Nat),(ah L).take (n*2)=ah (L.take n)
 |[],n=>by simp[ah]
 |e::r,0=>by simp[ah]
 |e::r,n+1=>by
  have:=rf r n;rw[show(n+1)*2=n*2+1+1 by omega];simp[ah,this]
theorem qL:∀(L:List (Y3×Y3)) (n:Nat),(ah L).drop (n*2)=ah (L.drop n)
 |[],n=>by simp[ah]
 |e::r,0=>by simp[ah]
 |e::r,n+1=>by
  have:=qL r n;rw[show(n+1)*2=n*2+1+1 by omega];simp[ah,this]
theorem fo:∀(L:List (Y3×Y3)) (i:Nat) (h:i<L.length),(ah L)[i*2]? =Y2 L[i].1
 |e::r,0,_=>by simp[ah]
 |e::r,i+1,h=>by
  have:=fo r i (by simpa using h);rw[show(i+1)*2=i*2+1+1 by omega];simp[ah,this]
theorem eZ:∀(L:List (Y3×Y3)) (i:Nat) (h:i<L.length),(ah L)[i*2+1]? =Y2 L[i].2
 |e::r,0,_=>by simp[ah]
 |e::r,i+1,h=>by
  have:=eZ r i (by simpa using h);rw[show(i+1)*2+1=i*2+1+1+1 by omega];simp[ah,this]
end Bt
namespace Bt
structure ax(F:List Nat)(w w':Y4):Prop where
 os:w'.os=w.os
 tape:w'.tape=w.tape
 output:w'.output=w.output
 size:w.heap.size<=w'.heap.size
 block:∀k,k<w.heap.size->k∉F->w'.heap[k]? =w.heap[k]?
theorem ax.refl(F:List Nat)(w:Y4):ax F w w:=⟨rfl,rfl,rfl,nlr _,fun _ _ _=>rfl⟩
theorem ax.trans{w1 w2:Y4}(h:ax F w w1)(k:ax G w1 w2)(hG:∀b∈G,b∈F\/w.heap.size<=b):ax F w w2:=
 ⟨k.os.trans h.os,k.tape.trans h.tape,k.output.trans h.output,YB h.size k.size,fun b hb hF=>
  (k.block b (nlA hb h.size) (fun hg=>by rcases hG b hg with h1|h1;exact hF h1;omega)).trans (h.block b hb hF)⟩
theorem ax.more(h:ax F w w')(hG:∀b∈F,b∈G):ax G w w':=
 ⟨h.os,h.tape,h.output,h.size,fun b hb hF=>h.block b hb (fun x=>hF (hG b x))⟩
theorem ax.of(h:aaS w.heap.size w w'):ax F w w':=⟨h.os,h.tape,h.output,h.size,fun b hb _=>h.block b hb⟩
theorem ax.grown{r:Option Nat}(h:w.grownBy w' r)(hr:∀k,r=Y2 k->k∈F):ax F w w':=
 ⟨h.os,h.tape,h.output,h.size,fun b hb hF=>h.block b hb (fun e=>hF (hr b e.symm))⟩
theorem ax.set(h:ax F w w')(p:abR)(v:Y3)(hp:p.block∈F\/w.heap.size<=p.block):ax F w (w'.setCell p v):=
 ⟨h.os,h.tape,h.output,by show _<=(w'.heap.modify _ _).size;rw[Array.size_modify];exact h.size,fun b hb hF=>by
  rw[Below.heap_setCell _ _ _ _ (fun e=>by subst e;rcases hp with hp|hp;exact hF hp;omega)]
  exact h.block b hb hF⟩
theorem ax.drew(h:ax F w w'):ax F w w'.drew:=⟨h.os,h.tape,h.output,h.size,h.block⟩
theorem ax.drewN(h:ax F w w')(n:Nat):ax F w (w'.drewN n):=⟨h.os,h.tape,h.output,h.size,h.block⟩
theorem ax.bW(h:ax F w.drew w'):ax F w w':=⟨h.os,h.tape,h.output,h.size,h.block⟩
theorem ax.blk(h:ax F w w'){b:Nat}{cs:Array Y3}{t:Y5}(k:ae w b cs t)(hb:b∉F):ae w' b cs t:=by
 unfold ae at*;rw[h.block b (geA.1 k).1 hb];exact k
def own(v:Y3):List Nat:=v.ownBlock.toList
theorem aK(h:w.ownsRow base e size v n xs)(hk:∀g∈own v,w'.heap[g]? =w.heap[g]?):w'.ownsRow base e size v n xs:=by
 refine⟨h.1,?_⟩;rcases h.2 with h1|⟨g,cap,cur,rfl,h1,h2,h3⟩
 · exact .inl h1
 exact .inr ⟨g,cap,cur,rfl,h1,by rw[hk g (by simp[own,aaR])];exact h2,h3⟩
theorem aQ(h:w.ownsRow base e size v n xs):∀g∈own v,g<w.heap.size:=by
 intro g hg;simp only[own,Option.mem_toList]at hg;exact(h.lt g hg).2
theorem CR(h:w.ownsRow base e size v n xs)(hn:n≠0):∃g cap,v=Yp (Y2 ⟨g,0,Y1⟩) n cap/\base<=g/\g<w.heap.size/\n<=cap/\cap<=aaV/\∀j u,xs[j]? =Y2 u->w.cell? ⟨g,j,Y1⟩=Y2 u:=by
 rcases h.2 with⟨_,h0⟩|⟨g,cap,cur,rfl,hb,hg,h1,h2,_⟩
 · exact absurd h0 hn
 refine⟨g,cap,rfl,hb,(geA.1 hg).1,h1,h2,fun j u hu=> ?_⟩;have:=h.cells (g:=g) rfl j u hu;simpa only[Addr.add_lit,Ze]using this
theorem ai(h:w.ownsRow base e size v n xs):∃ao cap,v=Yp ao n cap:=by
 rcases h.2 with⟨h1,rfl⟩|⟨g,cap,cur,h1,_⟩
 · exact⟨_,_,h1⟩
 exact⟨_,_,h1⟩
structure Ty where
 te:Y5
 tk:Y5
 tn:Y5
structure aM where
 b:Nat
 L:List (Y3×Y3)
 ve:Y3
 vk:Y3
 F:List Nat
def aM.ptr(k:aM):Y3:=Ym (Y2 ⟨k.b,0,Y1⟩)
def Nd(T:Ty)(w:Y4):Nat->Nat->Nat->List (Y3×Y3)->Y3->Y3->List Nat->Prop
 |0,lo,hi,L,ve,vk,F=>(lo<=L.length/\L.length<=hi)/\w.ownsRow 0 T.te 2 ve L.length (ah L)/\(∃ka kc,vk=Yp ka 0 kc)/\F=own ve
 |d+1,lo,hi,L,ve,vk,F=>∃(es:List (Y3×Y3)) (ks:List aM),(lo<=es.length/\es.length<=hi)/\ks.length=es.length+1/\w.ownsRow 0 T.te 2 ve es.length (ah es)/\
     w.ownsRow 0 T.tk 1 vk ks.length (ks.map aM.ptr)/\L=aF (ks.map aM.L) es/\F=own ve++own vk++ks.flatMap (fun k=>k.b::k.F)/\∀k∈ks,ae w k.b #[k.ve,k.vk] T.tn/\Nd T w d 3 6 k.L k.ve k.vk k.F
theorem Nd.keep{T:Ty}:∀{d lo hi:Nat} {L:List (Y3×Y3)} {ve vk:Y3} {F:List Nat},Nd T w d lo hi L ve vk F->(∀k∈F,w'.heap[k]? =w.heap[k]?)->Nd T w' d lo hi L ve vk F
 |0,lo,hi,L,ve,vk,F,h,hk=>by
  obtain⟨h1,h2,h3,rfl⟩:=h;exact⟨h1,aK h2 hk,h3,rfl⟩
 |d+1,lo,hi,L,ve,vk,F,h,hk=>by
  obtain⟨es,ks,h1,h2,h3,h4,h5,rfl,h6⟩:=h;refine⟨es,ks,h1,h2,aK h3 fun g hg=>hk g (by simp[hg]),aK h4 fun g hg=>hk g (by simp[hg]),h5,rfl,fun k hm=> ?_⟩;obtain⟨h7,h8⟩:=h6 k hm;refine⟨?_,h8.keep fun g hg=>hk g ?_⟩
  · unfold ae at*;rw[hk k.b (aec _ (List.mem_flatMap.2 ⟨k,hm,by simp⟩))];exact h7
  exact aec _ (List.mem_flatMap.2 ⟨k,hm,by simp[hg]⟩)
theorem Nd.lt{T:Ty}:∀{d lo hi:Nat} {L:List (Y3×Y3)} {ve vk:Y3} {F:List Nat},Nd T w d lo hi L ve vk F->∀k∈F,k<w.heap.size
 |0,lo,hi,L,ve,vk,F,h,k,hk=>by
  obtain⟨h1,h2,h3,rfl⟩:=h;exact aQ h2 k hk
 |d+1,lo,hi,L,ve,vk,F,h,k,hk=>by
  obtain⟨es,ks,h1,h2,h3,h4,h5,rfl,h6⟩:=h;rcases List.mem_append.1 hk with h|h
  · rcases List.mem_append.1 h with h|h
    · exact aQ h3 k h
    exact aQ h4 k h
  obtain⟨q,hq,hm⟩:=List.mem_flatMap.1 h;obtain⟨h7,h8⟩:=h6 q hq;rcases List.mem_cons.1 hm with rfl|hm
  · exact h7.lt
  exact h8.lt k hm
theorem Nd.wide{T:Ty}{lo' hi':Nat}{L:List (Y3×Y3)}(h:Nd T w d lo hi L ve vk F)(h1:lo'<=lo)(h2:hi<=hi'):Nd T w d lo' hi' L ve vk F:=by
 cases d with
 |zero=>exact⟨⟨YB h1 h.1.1,YB h.1.2 h2⟩,h.2⟩
 |succ d=>
  obtain⟨es,ks,h3,h4⟩:=h;exact⟨es,ks,⟨YB h1 h3.1,YB h3.2 h2⟩,h4⟩
theorem Nd.touch{T:Ty}{L:List (Y3×Y3)}(h:Nd T w d lo hi L ve vk F)(ht:ax G w w')(hd:∀k∈F,k∉G):Nd T w' d lo hi L ve vk F:=
 h.keep fun k hk=>ht.block k (h.lt k hk) (hd k hk)
theorem Nd.below{T:Ty}{L:List (Y3×Y3)}(h:Nd T w d lo hi L ve vk F)(hb:aaS w.heap.size w w'):Nd T w' d lo hi L ve vk F:=
 h.keep fun k hk=>hb.block k (h.lt k hk)
theorem ry{P:Program}(w:Y4)(base:Nat)(t ty e:Y5)(i:TypeInfo)(z:Y3)(size bytes:Nat)(ht:P.underlying t=Y2 (.slice e))(hi:P.info? e=Y2 i)(hz:i.zero=Y2 z)
   (hsize:i.size=size) (hby:i.bytes=bytes) (hzs:z.cells.size=size) (hsz:0<size)
   (v:Y3) (n:Nat) (xs:List Y3) (hown:w.ownsRow base e size v n xs)
   (a:abR) (m c:Nat) (news:List Y3) (hl:news.length=m*size) (hnews:∀j u,news[j]? =Y2 u->w.cell? (a.add j)=Y2 u) (h1:∀u∈news,u.oneCell'=true)
   (h63:n+m<=aaV) (hbytes:(n+m)*bytes<=140737488355328) (hbase:base<=w.heap.size):
   ∃v' w',(Builtin.append_ #[t,t] ty #[v,Yp (Y2 a) m c]).run P w=.ok v' w'/\w'.ownsRow base e size v' (n+m) (xs++news)/\w.grownBy w' v.ownBlock/\(∀g∈own v',g∈own v\/w.heap.size<=g):=by
 obtain⟨v',w',hr,h2,h3,h4⟩:=run_append_own (P:=P) w base t ty e i z size bytes ht hi hz hsize hby hzs hsz v n xs hown a m c news hl hnews h1 h63 hbytes hbase;refine⟨v',w',hr,h2,h3,fun g hg=> ?_⟩;subst hsize;subst hby;rcases hown.2 with⟨rfl,rfl⟩|⟨g0,cap,cur,rfl,hbg,hg0,hnc,hcm,hcs,htake⟩
 · have hx:xs=[]:=aed (by simpa using hown.1);by_cases hm:m=0
   · rw[h4.2 ⟨rfl,hm⟩]at hg;simp[own,aaR]at hg
   have hr':=run_append_nil (P:=P) w t ty e i z ht hi hz a m c news hl hnews (by omega) (by simp only[aaV]at h63;omega) (by have hb:=hbytes;simp only[Ze]at hb;omega);rw[hr]at hr';injection hr' with e1 e2;rw[e1]at hg;simp[own,aaR]at hg
   right;omega
 by_cases hroom:n+m<=cap
 · have hfit:n*i.size+news.length<=cur.size:=by rw[hl,hcs,<-Nat.add_mul];exact aee _ hroom
   have hr':=run_append_room (P:=P) w t ty e i ht hi g0 n cap cur hg0 a m c news hl hnews h1 hroom hfit;rw[hr]at hr';injection hr' with e1 e2;rw[e1]at hg
   left
   simpa[own,aaR]using hg
 have holds:∀j u,xs[j]? =Y2 u->w.cell? ((⟨g0,0,Y1⟩:abR).add j)=Y2 u:=hown.cells (g:=g0) rfl;have hr':=run_append_grow (P:=P) w t ty e i z ht hi hz ⟨g0,0,Y1⟩ n cap xs hown.1 holds a m c news hl hnews (by omega) (by simp only[aaV]at h63;omega) (growslice_fits (by omega) hbytes);rw[hr]at hr';injection hr' with e1 e2;rw[e1]at hg;simp[own,aaR]at hg
 right;omega
theorem bR{P:Program}{ops:Array Oper}{rest:List Oper}{o:Oper}{a:Act}{Q:Exit->Act->Y4->Prop}(hgd:o.guard=Y1)(s x:Operand)(t:Y5)
   (ho:o.op=.call {callee:=.builtin .append,args:=#[s,x],argTypes:=#[t,t]})
   (base:Nat) (e:Y5) (i:TypeInfo) (z:Y3) (size bytes:Nat) (ht:P.underlying t=Y2 (.slice e)) (hi:P.info? e=Y2 i) (hz:i.zero=Y2 z)
   (hsize:i.size=size) (hby:i.bytes=bytes) (hzs:z.cells.size=size) (hsz:0<size)
   (v:Y3) (n:Nat) (xs:List Y3) (hs:a.eval s=v) (hown:w.ownsRow base e size v n xs)
   (ad:abR) (m c:Nat) (news:List Y3) (hx:a.eval x=Yp (Y2 ad) m c) (hl:news.length=m*size) (hnews:∀j u,news[j]? =Y2 u->w.cell? (ad.add j)=Y2 u) (h1:∀u∈news,u.oneCell'=true)
   (h63:n+m<=aaV) (hbytes:(n+m)*bytes<=140737488355328) (hbase:base<=w.heap.size)
   (h:∀v' w',w'.ownsRow base e size v' (n+m) (xs++news)->w.grownBy w' v.ownBlock->(∀g∈own v',g∈own v\/w.heap.size<=g)->wpList P ops Q rest (a.put o.dst v') w'):wpList P ops Q (o::rest) a w:=
 wpList_plain hgd fun _ hK=>by
  obtain⟨v',w',hr,h2,h3,h4⟩:=ry (P:=P) w base t o.type e i z size bytes ht hi hz hsize hby hzs hsz v n xs hown ad m c news hl hnews h1 h63 hbytes hbase;unfold Oper.wp execOp;simp only[ho,resolve,invoke,builtin,Sem.run_bind,Sem.run_pure,Result.andThen_ok,List.map_toArray,YZ,List.map_nil,hs,hx,hr];exact hK _ _ (h v' w' h2 h3 h4)
end Bt
section
namespace So
variable {α:Type}
structure sM(lt:α->α->Bool):Prop where
 irr:∀a,lt a a=false
 tr:∀a b c,lt a b=true->lt b c=true->lt a c=true
 nt:∀a b c,lt a c=true->lt a b=true\/lt b c=true
def dR(lt:α->α->Bool)(l:List α):Prop:=l.Pairwise (fun a b=>lt b a=false)
def eqv(lt:α->α->Bool)(x y:α):Bool:= !lt x y&& !lt y x
structure eP(lt:α->α->Bool)(l l':List α):Prop where
 perm:l'.Perm l
 same:∀x,l'.filter (eqv lt x)=l.filter (eqv lt x)
theorem eP.refl(lt:α->α->Bool)(l:List α):eP lt l l:=⟨List.Perm.refl _,fun _=>rfl⟩
theorem eP.trans{lt:α->α->Bool}{a b c:List α}(h:eP lt a b)(k:eP lt b c):eP lt a c:=⟨k.perm.trans h.perm,fun x=>(k.same x).trans (h.same x)⟩
theorem eP.app{lt:α->α->Bool}{a b c d:List α}(h:eP lt a b)(k:eP lt c d):eP lt (a++c) (b++d):=
 ⟨h.perm.append k.perm,fun x=>by rw[aef,aef,h.same,k.same]⟩
theorem eP.len{lt:α->α->Bool}{a b:List α}(h:eP lt a b):b.length=a.length:=h.perm.length_eq
theorem eP.mem{lt:α->α->Bool}{a b:List α}(h:eP lt a b){x:α}:x∈b↔x∈a:=h.perm.mem_iff
theorem eP.Ye{lt:α->α->Bool}(o:sM lt){u v:List α}(h:∀a∈u,∀b∈v,lt b a=true):eP lt (u++v) (v++u):=by
 refine⟨List.perm_append_comm,fun x=> ?_⟩;rw[aef,aef];by_cases hu:u.filter (eqv lt x)=[]
 · rw[hu];simp
 have hv:v.filter (eqv lt x)=[]:=by
  obtain⟨a,ha⟩:=List.exists_mem_of_ne_nil _ hu;rw[List.mem_filter]at ha;rw[List.filter_eq_nil_iff];intro b hb hx;have h1:=h a ha.1 b hb;have h2:=ha.2;simp[eqv]at h2 hx;rcases o.nt b x a h1 with h3|h3
  · rw[hx.2]at h3;cases h3
  rw[h2.1]at h3;cases h3
 rw[hv];simp
theorem dR.app{lt:α->α->Bool}{u v:List α}(hu:dR lt u)(hv:dR lt v)(h:∀a∈u,∀b∈v,lt b a=false):dR lt (u++v):=List.pairwise_append.2 ⟨hu,hv,h⟩
theorem dR.left{lt:α->α->Bool}{u v:List α}(h:dR lt (u++v)):dR lt u:=(List.pairwise_append.1 h).1
theorem dR.right{lt:α->α->Bool}{u v:List α}(h:dR lt (u++v)):dR lt v:=(List.pairwise_append.1 h).2.1
theorem dR.across{lt:α->α->Bool}{u v:List α}(h:dR lt (u++v)):∀a∈u,∀b∈v,lt b a=false:=(List.pairwise_append.1 h).2.2
theorem dR.nil(lt:α->α->Bool):dR lt ([]:List α):=List.Pairwise.nil
theorem dR.one(lt:α->α->Bool)(a:α):dR lt [a]:=List.pairwise_singleton _ _
theorem sM.EM{lt:α->α->Bool}(o:sM lt){a b c:α}(h:lt b a=false)(k:lt c b=false):lt c a=false:=by
 cases e:lt c a with
 |false=>rfl
 |true=>rcases o.nt c b a e with h1|h1<;>simp_all
theorem sM.asym{lt:α->α->Bool}(o:sM lt){a b:α}(h:lt a b=true):lt b a=false:=by
 cases e:lt b a with
 |false=>rfl
 |true=>have:=o.tr a b a h e;rw[o.irr]at this;cases this
theorem sM.Sr{lt:α->α->Bool}(o:sM lt){a b c:α}(h:lt a b=true)(k:lt c b=false):lt a c=true:=by
 rcases o.nt a c b h with h1|h1
 · exact h1
 rw[k]at h1;cases h1
theorem sM.UI{lt:α->α->Bool}(o:sM lt){a b c:α}(h:lt b a=false)(k:lt b c=true):lt a c=true:=by
 rcases o.nt b a c k with h1|h1
 · rw[h]at h1;cases h1
 exact h1
theorem halves{lt:α->α->Bool}(o:sM lt){u1 u2 v1 v2 x y:List α}(hu:dR lt (u1++u2))(hv:dR lt (v1++v2))(h1:∀a∈u1,∀b∈v2,lt b a=false)(h2:∀a∈u2,∀b∈v1,lt b a=true)
   (hx:dR lt x) (sx:eP lt (u1++v1) x) (hy:dR lt y) (sy:eP lt (u2++v2) y):dR lt (x++y)/\eP lt ((u1++u2)++(v1++v2)) (x++y):=by
 refine⟨hx.app hy fun a ha b hb=> ?_,?_⟩
 · rw[sx.mem,YW]at ha;rw[sy.mem,YW]at hb;rcases ha with ha|ha<;>rcases hb with hb|hb
   · exact hu.across a ha b hb
   · exact h1 a ha b hb
   · exact o.asym (h2 b hb a ha)
   exact hv.across a ha b hb
 have k:eP lt ((u1++u2)++(v1++v2)) (u1++v1++(u2++v2)):=by
  have:=((eP.refl lt u1).app (eP.Ye o h2)).app (eP.refl lt v2);simpa only[laa]using this
 exact k.trans (sx.app sy)
theorem Pw{lt:α->α->Bool}(o:sM lt){l x1 x2:List α}{e:α}(hs:dR lt (x1++x2))(st:eP lt l (x1++x2))(h1:∀a∈x1,lt e a=false)(h2:∀a∈x2,lt e a=true):
   dR lt (x1++e::x2)/\eP lt (l++[e]) (x1++e::x2):=by
 have h:=halves o (u1:=x1) (u2:=x2) (v1:=[e]) (v2:=[]) (x:=x1++[e]) (y:=x2) hs (by simpa using dR.one lt e) (by simp) (by simpa using h2) (hs.left.app (dR.one _ _) (by simpa using h1)) (eP.refl _ _) hs.right (by simpa using eP.refl lt x2);refine⟨by simpa using h.1,?_⟩;have:=(st.app (eP.refl lt [e])).trans (by simpa using h.2);simpa using this
theorem oK{lt:α->α->Bool}(o:sM lt){l:List α}(h:dR lt l){i j:Nat}(hij:i<=j)(hj:j<l.length):lt l[j] (l[i]'(by omega))=false:=by
 rcases Nat.lt_or_eq_of_le hij with h1|rfl
 · exact List.pairwise_iff_getElem.1 h i j (by omega) hj h1
 exact o.irr _
theorem O6{lt:α->α->Bool}{l:List α}(h:∀(i j:Nat) (hi:i<l.length) (hj:j<l.length),i<j->lt l[j] l[i]=false):dR lt l:=List.pairwise_iff_getElem.2 h
theorem Uo{lt:α->α->Bool}(o:sM lt){l:List α}(h:dR lt l){e:α}(k:∀a,l.getLast? =Y2 a->lt e a=false):∀a∈l,lt e a=false:=by
 intro a ha;obtain⟨i,hi,rfl⟩:=aeg ha;have h1:=oK o h (i:=i) (j:=l.length-1) (by omega) (by omega);have h2:=k (l[l.length-1]'(by omega)) (by rw[List.getLast?_eq_getElem?,YP (by omega)]);exact o.EM h1 h2
end So
end
section
namespace So
variable {α:Type}
theorem dR.take{lt:α->α->Bool}{l:List α}(h:dR lt l)(n:Nat):dR lt (l.take n):=List.Pairwise.sublist (List.take_sublist _ _) h
theorem dR.drop{lt:α->α->Bool}{l:List α}(h:dR lt l)(n:Nat):dR lt (l.drop n):=List.Pairwise.sublist (List.drop_sublist _ _) h
theorem oG{l:List α}{a:α}(h:a∈l.take n):∃i,∃hi:i<l.length,i<n/\l[i]=a:=by
 obtain⟨i,hi,rfl⟩:=aeg h;simp at hi;exact⟨i,by omega,by omega,by rw[aeh]⟩
theorem lH{l:List α}{a:α}(h:a∈l.drop n):∃i,∃hi:i<l.length,n<=i/\l[i]=a:=by
 obtain⟨i,hi,rfl⟩:=aeg h;simp at hi;exact⟨n+i,by omega,by omega,by rw[aei]⟩
theorem cut{lt:α->α->Bool}(o:sM lt){u v:List α}(hu:dR lt u)(hv:dR lt v){i j:Nat}(hi:i<=u.length)(hj:j<=v.length)
   (A:∀(h1:0<i) (h2:j<v.length),lt v[j] (u[i-1]'(by omega))=false) (B:∀(h1:i<u.length) (h2:0<j),lt (v[j-1]'(by omega)) u[i]=true):
   (∀a∈u.take i,∀b∈v.drop j,lt b a=false)/\(∀a∈u.drop i,∀b∈v.take j,lt b a=true):=by
 constructor
 · intro a ha b hb;obtain⟨x,hx,hxi,rfl⟩:=oG ha;obtain⟨y,hy,hyj,rfl⟩:=lH hb;have h:=A (by omega) (by omega);have h1:=oK o hu (i:=x) (j:=i-1) (by omega) (by omega);have h2:=oK o hv (i:=j) (j:=y) hyj hy;exact o.EM (o.EM h1 h) h2
 intro a ha b hb;obtain⟨x,hx,hxi,rfl⟩:=lH ha;obtain⟨y,hy,hyj,rfl⟩:=oG hb;have h:=B (by omega) (by omega);have h1:=oK o hu (i:=i) (j:=x) hxi hx;have h2:=oK o hv (i:=y) (j:=j-1) (by omega) (by omega);exact o.UI h2 (o.Sr h h1)
theorem merged{lt:α->α->Bool}(o:sM lt){u v x y:List α}(hu:dR lt u)(hv:dR lt v){i j:Nat}(hi:i<=u.length)(hj:j<=v.length)
   (A:∀(h1:0<i) (h2:j<v.length),lt v[j] (u[i-1]'(by omega))=false) (B:∀(h1:i<u.length) (h2:0<j),lt (v[j-1]'(by omega)) u[i]=true)
   (hx:dR lt x) (sx:eP lt (u.take i++v.take j) x) (hy:dR lt y) (sy:eP lt (u.drop i++v.drop j) y):dR lt (x++y)/\eP lt (u++v) (x++y):=by
 obtain⟨h1,h2⟩:=cut o hu hv hi hj A B;have h:=halves o (u1:=u.take i) (u2:=u.drop i) (v1:=v.take j) (v2:=v.drop j) (by rw[aej];exact hu) (by rw[aej];exact hv) h1 h2 hx sx hy sy
 rwa [aej,aej]at h
def BS(lt:α->α->Bool)(bs:Nat)(l:List α):Prop:=∀(i j:Nat) (hi:i<l.length) (hj:j<l.length),i<j->i/bs=j/bs->lt l[j] l[i]=false
theorem BS.Ws{lt:α->α->Bool}{l:List α}(h:BS lt bs l)(hl:l.length<=bs):dR lt l:=
 O6 fun i j hi hj hij=>h i j hi hj hij (by rw[aek (by omega),aek (by omega)])
theorem BS.nil(lt:α->α->Bool)(bs:Nat):BS lt bs ([]:List α):=fun i j hi=>by simp at hi
theorem BS.app{lt:α->α->Bool}{x y:List α}(hb:0<bs)(h:BS lt bs x)(hk:x.length=bs*k)(hy:dR lt y)(hl:y.length<=bs):BS lt bs (x++y):=by
 intro i j hi hj hij he;simp only[aaN]at hi hj;by_cases h1:j<x.length
 · rw[ael h1,ael (by omega)];exact h i j _ _ hij he
 have h2:¬i<x.length:=fun h2=>by
  have e1:i/bs<k:=Nat.div_lt_of_lt_mul (by omega);have e2:k<=j/bs:=(Nat.le_div_iff_mul_le hb).2 (by rw[Nat.mul_comm];omega);omega
 rw[aem (by omega),aem (by omega)];exact List.pairwise_iff_getElem.1 hy _ _ _ _ (by omega)
theorem BS.take{lt:α->α->Bool}{l:List α}(h:BS lt bs l):dR lt (l.take bs):=by
 refine O6 fun i j hi hj hij=> ?_
 simp at hi hj;rw[aeh,aeh];exact h i j _ _ hij (by rw[aek (by omega),aek (by omega)])
theorem BS.drop{lt:α->α->Bool}{l:List α}(hb:0<bs)(h:BS lt bs l):BS lt bs (l.drop bs):=by
 intro i j hi hj hij he;simp at hi hj;rw[aei,aei];refine h (bs+i) (bs+j) _ _ (by omega) ?_;rw[aen _ hb,aen _ hb,he]
end So
end
section
namespace So
open Bt
theorem J5(x:Int)(h1: -1000000<=x)(h2:x<=1000000):IntKind.i64.wrap x=x:=by
 rw[IntKind.wrap_i64];omega
theorem GK{α:Type}:∀(p:List α) (a x:α) (s:List α),(p++a::s).set p.length x=p++x::s
 |[],_,_,_=>rfl
 |c::p,a,x,s=>by simp[GK p a x s]
theorem get_at{α:Type}(p:List α)(a:α)(s:List α)(h:p.length<(p++a::s).length):(p++a::s)[p.length]=a:=by
 rw[aem (nlr _)];simp
theorem mi:∀(l:List (Y3×Y3)) (i:Nat) (a b:Y3),ah (l.set i (a,b))=((ah l).set (i*2) a).set (i*2+1) b
 |[],_,_,_=>rfl
 |e::r,0,a,b=>by simp[ah]
 |e::r,i+1,a,b=>by
  rw[show(i+1)*2=i*2+1+1 by omega];simp[ah,mi r i a b]
def dB(T:Y5)(w:Y4)(g:Nat)(l:List (Y3×Y3)):Prop:=∃cur:Array Y3,w.heap[g]? =Y2 (.cells cur T (0,0))/\cur.toList.take (l.length*2)=ah l/\l.length*2<=cur.size
theorem dB.lt{l:List (Y3×Y3)}(h:dB T w g l):g<w.heap.size:=by
 obtain⟨cur,h1,_⟩:=h;exact(geA.1 h1).1
theorem dB.at{l:List (Y3×Y3)}(h:dB T w g l)(i:Nat)(hi:i<l.length):w.cell? ⟨g,i*2,Y1⟩=Y2 l[i].1/\w.cell? ⟨g,i*2+1,Y1⟩=Y2 l[i].2:=by
 obtain⟨cur,h1,h2,h3⟩:=h;have k:=fo l i hi;have v:=eZ l i hi;rw[<-h2]at k v;rw[List.getElem?_take]at k v;rw[if_pos (by omega)]at k v;have q:ae w g cur T:=h1;exact⟨by rw[q.cell];simpa using k,by rw[q.cell];simpa using v⟩
theorem dB.free{l:List (Y3×Y3)}(h:dB T w g l)(i:Nat):w.frozen? ⟨g,i,Y1⟩=false:=by
 obtain⟨cur,h1,_⟩:=h;exact ae.free (show ae w g cur T from h1) i
theorem dB.put{l:List (Y3×Y3)}(h:dB T w g l)(i:Nat)(a b:Y3):dB T ((w.setCell ⟨g,i*2,Y1⟩ a).setCell ⟨g,i*2+1,Y1⟩ b) g (l.set i (a,b)):=by
 obtain⟨cur,h1,h2,h3⟩:=h;have q:=(ae.set (ae.set (show ae w g cur T from h1) (i*2) a) (i*2+1) b);refine⟨_,q,?_,by simpa using h3⟩;rw[mi,List.length_set,<-h2,aeo,aeo];rw[aep,aep]
theorem dB.keep{l:List (Y3×Y3)}(h:dB T w g l)(hk:w'.heap[g]? =w.heap[g]?):dB T w' g l:=by
 obtain⟨cur,h1,h2⟩:=h;exact⟨cur,by rw[hk];exact h1,h2⟩
theorem dB.drew{l:List (Y3×Y3)}(h:dB T w g l):dB T w.drew g l:=h
theorem dB.below{l:List (Y3×Y3)}(h:dB T w g l)(hb:aaS w.heap.size w w'):dB T w' g l:=h.keep (hb.block g h.lt)
theorem dB.own{cap:Nat}{l:List (Y3×Y3)}(h:w.ownsRow base T 2 (Yp (Y2 ⟨g,0,Y1⟩) n cap) n (ah l)):dB T w g l:=by
 rcases h.2 with⟨h1,_⟩|⟨g',cap',cur,h1,_,h3,h4,_,h5,h6⟩
 · cases h1
 injection h1 with h1 _ h7;injection h1 with h1;injection h1 with h1;subst h1 h7
 have hl:n*2=l.length*2:=by have:=h.1;rw[fe]at this;omega
 exact⟨cur,h3,by rw[<-hl];exact h6,by rw[<-hl,h5];exact aee _ h4⟩
theorem Ev(A B C:List (Y3×Y3))(a b:Y3×Y3):((A++a::(B++b::C)).set A.length b).set (A.length+1+B.length) a=A++b::(B++a::C):=by
 rw[GK];have h:=GK (A++b::B) b a C;simp only[laa,YI,aaN,Yw]at h;rw[show A.length+1+B.length=A.length+(B.length+1) by omega];exact h
theorem dB.two{A B C:List (Y3×Y3)}{a b:Y3×Y3}(h:dB T w g (A++a::(B++b::C))){i j:Nat}(hi:A.length=i)(hj:i+1+B.length=j):
   (w.cell? ⟨g,i*2,Y1⟩=Y2 a.1/\w.cell? ⟨g,i*2+1,Y1⟩=Y2 a.2/\w.cell? ⟨g,j*2,Y1⟩=Y2 b.1/\w.cell? ⟨g,j*2+1,Y1⟩=Y2 b.2)/\
     dB T ((((w.setCell ⟨g,i*2,Y1⟩ b.1).setCell ⟨g,i*2+1,Y1⟩ b.2).setCell ⟨g,j*2,Y1⟩ a.1).setCell ⟨g,j*2+1,Y1⟩ a.2) g (A++b::(B++a::C))/\
     dB T ((((w.setCell ⟨g,j*2,Y1⟩ a.1).setCell ⟨g,j*2+1,Y1⟩ a.2).setCell ⟨g,i*2,Y1⟩ b.1).setCell ⟨g,i*2+1,Y1⟩ b.2) g (A++b::(B++a::C)):=by
 subst hi;subst hj;have h1:=h.at A.length (by simp);have h2:=h.at (A.length+1+B.length) (by simp;omega);have e1:(A++a::(B++b::C))[A.length]'(by simp)=a:=get_at _ _ _ _
 have e2:(A++a::(B++b::C))[A.length+1+B.length]'(by simp;omega)=b:=by
  have h3:=get_at (A++a::B) b C (by simp);simp only[laa,YI,aaN,Yw]at h3;simp only[show A.length+1+B.length=A.length+(B.length+1) by omega];exact h3
 rw[e1]at h1;rw[e2]at h2;refine⟨⟨h1.1,h1.2,h2.1,h2.2⟩,?_,?_⟩
 · have h3:=(h.put A.length b.1 b.2).put (A.length+1+B.length) a.1 a.2;rw[show(b.1,b.2)=b from rfl,show(a.1,a.2)=a from rfl,Ev]at h3;exact h3
 have h3:=(h.put (A.length+1+B.length) a.1 a.2).put A.length b.1 b.2;rw[show(b.1,b.2)=b from rfl,show(a.1,a.2)=a from rfl,List.set_comm _ _ (by omega),Ev]at h3;exact h3
theorem Ma{wr:Y4}(h:ax [g] w wr)(a b c d:Nat)(x y z u:Y3):ax [g] w ((((wr.setCell ⟨g,a,Y1⟩ x).setCell ⟨g,b,Y1⟩ y).setCell ⟨g,c,Y1⟩ z).setCell ⟨g,d,Y1⟩ u):=
 (((h.set ⟨g,a,Y1⟩ x (.inl (by simp))).set ⟨g,b,Y1⟩ y (.inl (by simp))).set ⟨g,c,Y1⟩ z (.inl (by simp))).set ⟨g,d,Y1⟩ u (.inl (by simp))
end So
end
section
namespace So
open Bt
def Two(e:Y3×Y3):Prop:=∃a n c b m d,e=(Yp a n c,Yp b m d)
theorem lQ(p x q y s:List (Y3×Y3))(pn bn xn:Nat)(hP:p.length=pn)(hX:x.length=xn)(hY:y.length=xn)(hb:bn=pn+xn+q.length)(g N cap:Nat)(fv:Y3)(w:Y4)(hL:dB 195 w g (p++x++q++y++s))(hN:N=(p++x++q++y++s).length)(hm:N<=1000000)(h2x:∀e∈x,Two e)(h2y:∀e∈y,Two e):
   aaT Zc 321 #[Yp (Y2 ⟨g,0,Y1⟩) N cap,Yg Yh pn,Yg Yh bn,Yg Yh xn,fv] w fun e w'=>e=Yl (Yn #[])/\ax [g] w w'/\dB 195 w' g (p++y++q++x++s):=by
 have HL:=hd hL;have H2X:=hd h2x;have H2Y:=hd h2y
 have hlen:N=bn+xn+s.length:=by rw[hN];simp;omega
 have HP:=hd hP;have HX:=hd hX;have HY:=hd hY;have HN:=hd hN;have HLN:=hd hlen;have HBN:=hd hb;clear h2x h2y hL hP hX hN hY hlen hb;go_enter Tryz.func321,Tryz.ntmps321;go_wp2_with fail;go_loopw [10] (fun i wr=>∃k:Nat,k<=xn/\i=Yg Yh k/\Yf (ax [g] w wr)/\Yf (dB 195 wr g (p++(y.take k++x.drop k)++q++(x.take k++y.drop k)++s))) (fun i _=>xn-(aeJ i).toNat)
 case atStart=>exact⟨0,by omega,rfl,ax.refl _ _,by show dB _ _ _ _;simpa using HL.o⟩
 case round=>
  obtain⟨k,hk,rfl,HT,HK⟩:=hrel;by_cases hlt:k<xn
  · have hkx:k<x.length:=by rw[HX.o];exact hlt
    have hky:k<y.length:=by rw[HY.o];omega
    have he:p++(y.take k++x.drop k)++q++(x.take k++y.drop k)++s=(p++y.take k)++x[k]::((x.drop (k+1)++q++x.take k)++y[k]::(y.drop (k+1)++s)):=by
     rw[YM hkx,YM hky];simp only[laa,YI]
    have hA:(p++y.take k).length=pn+k:=by rw[aaN,adO,HP.o,HY.o];omega
    have hB:(p++y.take k).length+1+(x.drop (k+1)++q++x.take k).length=bn+k:=by
     rw[hA];simp only[aaN,adO,Yv];have:=HBN.o;rw[HX.o];omega
    rw[he]at HK
    have hen:p++y.take k++y[k]::(x.drop (k+1)++q++x.take k++x[k]::(y.drop (k+1)++s))=p++(y.take (k+1)++x.drop (k+1))++q++(x.take (k+1)++y.drop (k+1))++s:=by
     rw[aeq hkx,aeq hky];simp only[laa,YI,YK]
    obtain⟨⟨a0,a1,b0,b1⟩,l1,l2⟩:=HK.o.two (j:=bn+k) hA (by rw[<-hA];exact hB);rw[hen]at l1 l2;have HL1:=hd l1;have HL2:=hd l2;have hg:=HK.o.lt
    have hpb:pn<bn:=by have:=HBN.o;omega
    have hi1:pn+k<N:=by have:=HLN.o;have:=HBN.o;omega
    have hi2:bn+k<N:=by have:=HLN.o;omega
    have f0:=HK.o.free ((pn+k)*2);have f1:=HK.o.free ((pn+k)*2+1);have f2:=HK.o.free ((bn+k)*2);have f3:=HK.o.free ((bn+k)*2+1);have t1:=H2X.o _ (acw hkx);have t2:=H2Y.o _ (acw hky);generalize x[k]=a at*;generalize y[k]=b at*;obtain⟨q1,q2,q3,q4,q5,q6,rfl⟩:=t1;obtain⟨r1,r2,r3,r4,r5,r6,rfl⟩:=t2;simp only at a0 a1 b0 b1;clear l1 l2 he hen hA hB hkx hky;go_wp2_with fail
    go_region
    all_goals
     go_wp2_with fail;go_roundw
     case rel=>exact⟨k+1,by omega,by go_num,(Ma HT.o _ _ _ _ _ _ _ _).drew,HL1.o⟩
     case measure=>simp[aeJ];omega
  go_wp2_with fail
  go_end0
  have hkx:k=xn:=by omega
  refine⟨rfl,HT.o,?_⟩;have h:=HK.o;rw[acU (by rw[HY.o];omega),aer (by rw[HX.o];omega),acU (by rw[HX.o];omega),aer (by rw[HY.o];omega)]at h;simpa using h
end So
end
section
namespace So
open Bt
structure JN(w wr:Y4)(g N m i j:Nat)(F:List (Y3×Y3)):Prop where
 gP:ax [g] w wr
 ex:∃P U V S:List (Y3×Y3),U.length=i/\V.length=j/\P.length+i=m/\dB 195 wr g (P++U++V++S)/\P++V++U++S=F/\N=(P++U++V++S).length/\∀e∈P++U++V++S,Two e
theorem I5(p u v s:List (Y3×Y3))(an mn bn:Nat)(hP:p.length=an)(hm:mn=an+u.length)(hb:bn=mn+v.length)(hu:u≠[])(hv:v≠[])(g N cap:Nat)(fv:Y3)(w:Y4)(hL:dB 195 w g (p++u++v++s))(hN:N=(p++u++v++s).length)(hNm:N<=1000000)(h2:∀e∈p++u++v++s,Two e):
   aaT Zc 273 #[Yp (Y2 ⟨g,0,Y1⟩) N cap,Yg Yh an,Yg Yh mn,Yg Yh bn,fv] w fun e w'=>e=Yl (Yn #[])/\ax [g] w w'/\dB 195 w' g (p++v++u++s):=by
 have hul:0<u.length:=List.length_pos_iff.2 hu;have hvl:0<v.length:=List.length_pos_iff.2 hv
 have hbN:bn<=N:=by rw[hN];simp;omega
 have HST:Yf (JN w w g N mn u.length v.length (p++v++u++s)):=⟨ax.refl _ _,p,u,v,s,rfl,rfl,by omega,hL,rfl,hN,h2⟩;generalize Xu:u.length=ul at*;generalize Wt:v.length=vl at*;generalize p++v++u++s=F at*
 have ha:(mn:Int)-(an:Int)=(ul:Int):=by omega
 have hb':(bn:Int)-(mn:Int)=(vl:Int):=by omega
 have hum:ul<=mn:=by omega
 have hvm:mn+vl<=N:=by omega
 clear hP hb hm hL hN h2 Xu Wt hu hv hbN;go_enter Tryz.func273,Tryz.ntmps273;go_wp2_with fail;go_loopw [10,11] (fun i j wr=>∃a b:Nat,i=Yg Yh a/\j=Yg Yh b/\0<a/\0<b/\a<=mn/\mn+b<=N/\Yf (JN w wr g N mn a b F)) (fun i j _=>(aeJ i).toNat+(aeJ j).toNat)
 case atStart=>exact⟨ul,vl,rfl,rfl,hul,hvl,hum,hvm,HST⟩
 case round=>
  obtain⟨a,b,rfl,rfl,ha0,hb0,hap,hbp,HR⟩:=hrel;rcases Nat.lt_trichotomy a b with hab|hab|hab
  · have e1:(mn:Int)-(a:Int)=((mn-a:Nat):Int):=by omega
    have e2:(mn:Int)+(b:Int)-(a:Int)=((mn+b-a:Nat):Int):=by omega
    have e3:(b:Int)-(a:Int)=((b-a:Nat):Int):=by omega
    have h1:¬((a:Int)=(b:Int)):=by omega
    have h2:¬((b:Int)<(a:Int)):=by omega
    generalize hpa:mn-a=pa at*;generalize hba:mn+b-a=ba at*;generalize hda:b-a=da at*
    have HE:Yf (pa+a=mn/\ba+a=mn+b/\da+a=b/\da<b/\0<da):=by refine⟨?_,?_,?_,?_,?_⟩<;>omega
    clear hpa hba hda;go_wp2_with fail;obtain⟨P,U,V,S,hU,hV,hPm,hLs,hF,hNN,hT2⟩:=HR.o.ex;have hVt:V.take da++V.drop da=V:=aej _ _;have HE':=HE.o;refine(lQ P U (V.take da) (V.drop da) S pa ba a (by omega) hU (by rw[Yv];omega) (by rw[adO];omega) g N cap fv wr (by rw[laa (P++U),hVt];exact hLs) (by rw[laa (P++U),hVt];exact hNN) hNm (fun e he=>hT2 e (by simp[he])) (fun e he=>hT2 e (by simp[ZP he]))).mono ?_;rintro x w1 ⟨rfl,ht,hl⟩
    have HR1:Yf (JN w w1 g N mn a da F):=⟨HR.o.gP.trans ht (by simp),P,V.drop da,V.take da,U++S,by rw[Yv];omega,by rw[adO];omega,by omega,by simpa only[laa]using hl,by rw[<-hF];simp only[laa];rw[<-laa (V.take da),hVt],by rw[hNN];simp only[aaN,adO,Yv];omega,fun e he=>hT2 e (by
     simp only[YW]at he⊢;rcases he with((h|h)|h)|h|h
     · simp[h]
     · simp[ZP h]
     · simp[aes h]
     · simp[h]
     simp[h])⟩
    have hd1:da<b:=HE.o.2.2.2.1;have hd2:0<da:=HE.o.2.2.2.2;clear ht hl hU hV hPm hLs hF hNN hT2 hVt HE' HE HR;go_wp2_with fail;go_roundw
    case rel=>exact⟨a,da,rfl,rfl,ha0,hd2,hap,by omega,HR1⟩
    case measure=>simp[aeJ];omega
  · subst hab
    have e1:(mn:Int)-(a:Int)=((mn-a:Nat):Int):=by omega
    generalize hpa:mn-a=pa at*
    have HE:Yf (pa+a=mn):=by show _=_;omega
    clear hpa;go_wp2_with fail;obtain⟨P,U,V,S,hU,hV,hPm,hLs,hF,hNN,hT2⟩:=HR.o.ex;have HE':=HE.o;refine(lQ P U [] V S pa mn a (by omega) hU hV (by simp;omega) g N cap fv wr (by simpa using hLs) (by simpa using hNN) hNm (fun e he=>hT2 e (by simp[he])) (fun e he=>hT2 e (by simp[he]))).mono ?_;rintro x w1 ⟨rfl,ht,hl⟩;have HR1:Yf (ax [g] w w1/\dB 195 w1 g F):=⟨HR.o.gP.trans ht (by simp),by rw[<-hF];simpa using hl⟩;clear ht hl hU hV hPm hLs hF hNN hT2 HE' HE HR;go_wp2_with fail
    go_end0
    exact⟨rfl,HR1.o⟩
  have e1:(mn:Int)-(a:Int)=((mn-a:Nat):Int):=by omega
  have e3:(a:Int)-(b:Int)=((a-b:Nat):Int):=by omega
  have h1:¬((a:Int)=(b:Int)):=by omega
  have h2:(b:Int)<(a:Int):=by omega
  generalize hpa:mn-a=pa at*;generalize hda:a-b=da at*
  have HE:Yf (pa+a=mn/\da+b=a/\0<da):=by refine⟨?_,?_,?_⟩<;>omega
  clear hpa hda;go_wp2_with fail;obtain⟨P,U,V,S,hU,hV,hPm,hLs,hF,hNN,hT2⟩:=HR.o.ex;have hUt:U.take b++U.drop b=U:=aej _ _;have HE':=HE.o;refine(lQ P (U.take b) (U.drop b) V S pa mn b (by omega) (by rw[adO];omega) hV (by rw[Yv];omega) g N cap fv wr (by rw[laa P,hUt];exact hLs) (by rw[laa P,hUt];exact hNN) hNm (fun e he=>hT2 e (by simp[aes he])) (fun e he=>hT2 e (by simp[he]))).mono ?_;rintro x w1 ⟨rfl,ht,hl⟩
  have HR1:Yf (JN w w1 g N mn da b F):=⟨HR.o.gP.trans ht (by simp),P++V,U.drop b,U.take b,S,by rw[Yv];omega,by rw[adO];omega,by rw[aaN];omega,by simpa only[laa]using hl,by rw[<-hF];simp only[laa];rw[<-laa (U.take b),hUt],by rw[hNN];simp only[aaN,adO,Yv];omega,fun e he=>hT2 e (by
   simp only[YW]at he⊢;rcases he with(((h|h)|h)|h)|h
   · simp[h]
   · simp[h]
   · simp[ZP h]
   · simp[aes h]
   simp[h])⟩
  have hd1:da+b=a:=HE.o.2.1;have hd2:0<da:=HE.o.2.2;clear ht hl hU hV hPm hLs hF hNN hT2 hUt HE' HE HR;have HD1:=hd hd1;clear hd1;go_wp2_with fail;go_roundw
  case rel=>exact⟨da,b,rfl,rfl,hd2,hb0,by have:=HD1.o;omega,hbp,HR1⟩
  case measure=>have:=HD1.o;simp[aeJ];omega
end So
end
section
namespace So
open Bt
variable {α:Type}
def BA(enc:α->Y3×Y3)(c:α->α->Int)(K:α->Prop)(cb:Y3)(g:Nat)(w:Y4):Prop:=
 ∀W,ax [g] w W->∀a b,K a->K b->aaT Zc 95 #[Yj #[(enc a).1,(enc a).2],Yj #[(enc b).1,(enc b).2],cb] W fun e W'=>e=Yl (Yg Yh (c a b))/\aaS W.heap.size W W'
def ed(c:α->α->Int)(a b:α):Bool:=decide (c a b<0)
theorem BA.gP{enc:α->Y3×Y3}{c:α->α->Int}{K:α->Prop}(h:BA enc c K cb g w)(ht:ax [g] w w'):BA enc c K cb g w':=
 fun W hW a b ha hb=>h W (ht.trans hW (fun _ hx=> .inl hx)) a b ha hb
structure Ez(enc:α->Y3×Y3)(c:α->α->Int)(p x s:List α)(w wr:Y4)(g k:Nat):Prop where
 gP:ax [g] w wr
 ex:∃y,dR (ed c) y/\eP (ed c) (x.take k) y/\dB 195 wr g ((p++y++x.drop k++s).map enc)
structure FI(enc:α->Y3×Y3)(c:α->α->Int)(p x s:List α)(w wr:Y4)(g k j:Nat)(e:α):Prop where
 gP:ax [g] w wr
 ex:∃y1 y2,dR (ed c) (y1++y2)/\eP (ed c) (x.take k) (y1++y2)/\(∀a∈y2,ed c e a=true)/\p.length+y1.length=j/\dB 195 wr g ((p++y1++e::y2++x.drop (k+1)++s).map enc)
theorem FI.done{enc:α->Y3×Y3}{c:α->α->Int}(o:sM (ed c)){p x s:List α}{w wr:Y4}{g k:Nat}{e:α}(he:x[k]? =Y2 e)(ht:ax [g] w wr){y1 y2:List α}(h1:dR (ed c) (y1++y2))(h2:eP (ed c) (x.take k) (y1++y2))(h3:∀a∈y2,ed c e a=true)(h4:∀a∈y1,ed c e a=false)
   (hl:dB 195 wr g ((p++y1++e::y2++x.drop (k+1)++s).map enc)):Ez enc c p x s w wr g (k+1):=by
 obtain⟨a1,a2⟩:=Pw o h1 h2 h4 h3;refine⟨ht,y1++e::y2,a1,?_,by simpa only[laa]using hl⟩;rw[List.take_add_one,he];exact a2
theorem qD(enc:α->Y3×Y3)(c:α->α->Int)(K:α->Prop)(o:sM (ed c))(p x s:List α)(an bn:Nat)(hP:p.length=an)(hb:bn=an+x.length)(g N cap:Nat)(cb:Y3)(w:Y4)(hcb:∃a,cb=Ym (Y2 a))(hL:dB 195 w g ((p++x++s).map enc))(hN:N=(p++x++s).length)(hNm:N<=1000000)(hK:∀a∈p++x++s,K a)(hT:∀a,K a->Two (enc a))(hC:BA enc c K cb g w):
   aaT Zc 214 #[Yp (Y2 ⟨g,0,Y1⟩) N cap,Yg Yh an,Yg Yh bn,.func (.func 95) #[] #[cb]] w fun e w'=>e=Yl (Yn #[])/\ax [g] w w'/\∃y,dR (ed c) y/\eP (ed c) x y/\dB 195 w' g ((p++y++s).map enc):=by
 obtain⟨ca,rfl⟩:=hcb
 have HST:Yf (Ez enc c p x s w w g 1):=by
  refine⟨ax.refl _ _,x.take 1,?_,eP.refl _ _,?_⟩
  · cases x with
    |nil=>simpa using dR.nil _
    |cons a r=>simpa using dR.one _ a
  have:p++x.take 1++x.drop 1++s=p++x++s:=by rw[laa p,aej]
  rw[this];exact hL
 have HC:=hd hC;have HK:=hd hK;have HT:=hd hT;have HO:=hd o;have HP:=hd hP
 have hlen:N=an+x.length+s.length:=by rw[hN];simp;omega
 have HLN:=hd hlen;have HBN:=hd hb
 have hbN:bn<=N:=by omega
 have hab:an<=bn:=by omega
 clear hC hK hT o hP hlen hb hL hN;go_enter aet,aeu;go_wp2_with fail;go_loopw [8] (fun i wr=>∃k:Nat,i=Yg Yh (an+k:Nat)/\1<=k/\(k<=x.length\/(k=1/\x.length=0))/\Yf (Ez enc c p x s w wr g k)) (fun i _=>an+x.length+1-(aeJ i).toNat)
 case atStart=>exact⟨1,by go_num,by omega,by omega,HST⟩
 case round=>
  obtain⟨k,rfl,hk1,hk2,HI⟩:=hrel;generalize hik:an+k=ik at*;have HIK:=hd hik;clear hik;by_cases hlt:ik<bn
  · have hkx:k<x.length:=by have:=HBN.o;have:=HIK.o;omega
    have HIN:Yf (FI enc c p x s w wr g k ik x[k]):=by
     obtain⟨y,hy,sy,hl⟩:=HI.o.ex;refine⟨HI.o.gP,y,[],by simpa using hy,by simpa using sy,by simp,?_,?_⟩
     · have:=sy.len;rw[adO]at this;have:=HP.o;have:=HIK.o;omega
     rw[YM hkx]at hl;simpa using hl
    have HKE:Yf (K x[k]):=HK.o _ (by simp);have HXE:=hd (YP hkx);generalize x[k]=e at*;clear HI;go_wp2_with fail;go_loopw [9] (fun j wr=>∃jn:Nat,j=Yg Yh jn/\an<=jn/\jn<=ik/\Yf (FI enc c p x s w wr g k jn e)) (fun j _=>(aeJ j).toNat)
    case atStart=>exact⟨ik,rfl,by have:=HIK.o;omega,nlr _,HIN⟩
    case round=>
     obtain⟨jn,rfl,hj1,hj2,HJ⟩:=hrel
     have z1:(0:Int)<=(jn:Int):=by omega
     by_cases hja:jn=an
     · have hdec:decide (an<jn)=false:=by simp;omega
       have HD:Yf (Ez enc c p x s w wr g (k+1)):=by
        obtain⟨y1,y2,h1,h2,h3,h4,h5⟩:=HJ.o.ex;have hy:y1=[]:=aed (by have:=HP.o;omega);subst hy;exact FI.done HO.o HXE.o HJ.o.gP h1 h2 h3 (by simp) h5
       have HJA:=hd hja;clear hja hj1;go_wp2_with fail
       go_quiet (fail)
       all_goals
        go_wp2_with fail;go_roundw
        case rel=>exact⟨k+1,by rw[<-YT,HIK.o];simp,by omega,by omega,⟨HD.o.gP.drewN _,HD.o.ex⟩⟩
        case measure=>have:=HIK.o;simp[aeJ];omega
     have hjl:an<jn:=by omega
     have hdec:decide (an<jn)=true:=by simp;omega
     obtain⟨j1,hj⟩:∃j1,jn=j1+1:=⟨jn-1,by omega⟩
     have e1:(jn:Int)-1=(j1:Int):=by omega
     obtain⟨y1,y2,h1,h2,h3,h4,h5⟩:=HJ.o.ex
     obtain⟨z,d,rfl⟩:∃z d,y1=z++[d]:=by
      rcases List.eq_nil_or_concat y1 with h|⟨z,d,h⟩
      · subst h;have:=HP.o;simp at h4;omega
      exact⟨z,d,by simpa using h⟩
     have hlist:p++(z++[d])++e::y2++x.drop (k+1)++s=(p++z)++d::([]++e::(y2++x.drop (k+1)++s)):=by simp
     have hl6:=h5;rw[hlist,aev,YZ,YK,YZ]at hl6
     have hzl:((p++z).map enc).length=j1:=by have:=HP.o;simp at h4⊢;omega
     have HKD:Yf (K d):=by
      show K d
      have hm:d∈x.take k:=by rw[<-h2.mem];simp
      exact HK.o _ (by simp[aes hm])
     have hte:=HT.o e HKE.o;have htd:=HT.o d HKD.o
     have HCC:Yf (∀W,ax [g] wr W->aaT Zc 95 #[Yj #[(enc e).1,(enc e).2],Yj #[(enc d).1,(enc d).2],Ym (Y2 ca)] W fun x W'=>x=Yl (Yg Yh (c e d))/\aaS W.heap.size W W'):=
      fun W hW=>HC.o W (HJ.o.gP.trans hW (fun _ hx=> .inl hx)) e d HKE.o HKD.o
     have H1:=hd h1;have H2:=hd h2;have H3:=hd h3;have H4:=hd h4;have H5:=hd h5;have HTE:=hd hte;have HTD:=hd htd;obtain⟨q1,q2,q3,q4,q5,q6,hde⟩:=hte;obtain⟨r1,r2,r3,r4,r5,r6,hdd⟩:=htd;rw[hde,hdd]at HCC hl6;obtain⟨⟨a0,a1,b0,b1⟩,_,_⟩:=dB.two (A:=(p++z).map enc) (B:=[]) hl6 (i:=j1) (j:=jn) hzl (by simp;omega);have HL6:=hd hl6;have HTW:=hd HJ.o.gP;have HDE:=hd hde;have HDD:=hd hdd;have HHJ:=hd hj;have HZL:=hd hzl
     have hj1N:jn<N:=by have:=HLN.o;have:=HBN.o;omega
     have hj0:j1<N:=by omega
     have hgl:=hl6.lt
     have i1:(jn:Int)<(N:Int):=by omega
     have i2:(j1:Int)<(N:Int):=by omega
     have i3:(0:Int)<=(j1:Int):=by omega
     have w1:IntKind.i64.wrap ((jn:Int)-1)=(j1:Int):=by rw[e1];exact J5 _ (by omega) (by omega)
     have HE1:=hd e1;clear e1;simp only at a0 a1 b0 b1 HCC;clear h1 h2 h3 h4 h5 hlist hl6 hj hja HJ hde hdd hzl
     have hcd:c e d<0\/¬c e d<0:=by omega
     generalize hco:c e d=co at*;have HCO:=hd hco;clear hco;rcases hcd with hcd|hcd
     · have hcx:decide (co<0)=true:=by simpa using hcd
       go_wp2_with fail
       go_region_held3 (fun w'=>w'.cell? ⟨g,jn*2,Y1⟩=Y2 (Yp q1 q2 q3)/\w'.cell? ⟨g,jn*2+1,Y1⟩=Y2 (Yp q4 q5 q6)/\w'.cell? ⟨g,j1*2,Y1⟩=Y2 (Yp r1 r2 r3)/\w'.cell? ⟨g,j1*2+1,Y1⟩=Y2 (Yp r4 r5 r6)) (go_keep)
         (first
          |(go_at_call 95
            refine(HCC.o _ ((ax.refl _ _).drew)).mono ?_;rintro x W1 ⟨rfl,hb1⟩;have c1:=(hb1.cell (p:=⟨g,jn*2,Y1⟩) hgl).trans b0;have c2:=(hb1.cell (p:=⟨g,jn*2+1,Y1⟩) hgl).trans b1;have c3:=(hb1.cell (p:=⟨g,j1*2,Y1⟩) hgl).trans a0
            have c4:=(hb1.cell (p:=⟨g,j1*2+1,Y1⟩) hgl).trans a1))
       have HL7:=hd (HL6.o.drew.below hb1);have HT7:=hd (HTW.o.trans (ax.of (F:=[g]) hb1).bW (fun _ h=> .inl h));obtain⟨⟨d0,d1,d2,d3⟩,_,l2⟩:=dB.two (A:=(p++z).map enc) (B:=[]) HL7.o (i:=j1) (j:=jn) HZL.o (by have:=HHJ.o;simp;omega);have HL8:=hd l2;have hgl7:=HL7.o.lt;have f0:=HL7.o.free (jn*2);have f1:=HL7.o.free (jn*2+1);have f2:=HL7.o.free (j1*2);have f3:=HL7.o.free (j1*2+1)
       have hjne:j1<jn:=by have:=HHJ.o;omega
       clear l2 a0 a1 b0 b1 c1 c2 c3 c4 hb1;simp only at d0 d1 d2 d3 HL8;go_wp2_with fail
       go_region
       all_goals
        go_wp2_with fail;go_roundw
        case rel=>
         refine⟨j1,rfl,by have:=HHJ.o;omega,by omega,(Ma HT7.o _ _ _ _ _ _ _ _).drew,z,d::y2,by simpa using H1.o,by simpa using H2.o,?_,?_,?_⟩
         · intro a ha;rcases List.mem_cons.1 ha with rfl|ha
           · unfold ed;rw[HCO.o];exact hcx
           exact H3.o a ha
         · have h4:=H4.o;have:=HHJ.o;simp at h4;omega
         have h8:=HL8.o;rw[<-HDE.o,<-HDD.o]at h8
         have he:(p++z++e::(d::y2)++x.drop (k+1)++s)=(p++z)++e::([]++d::(y2++x.drop (k+1)++s)):=by simp
         rw[he,aev,YZ,YK,YZ];exact h8
        case measure=>have:=HHJ.o;simp[aeJ];omega
     have hcx:decide (co<0)=false:=by simpa using hcd
     go_wp2_with fail
     go_region_held3 (fun w'=>w'.cell? ⟨g,jn*2,Y1⟩=Y2 (Yp q1 q2 q3)/\w'.cell? ⟨g,jn*2+1,Y1⟩=Y2 (Yp q4 q5 q6)/\w'.cell? ⟨g,j1*2,Y1⟩=Y2 (Yp r1 r2 r3)/\w'.cell? ⟨g,j1*2+1,Y1⟩=Y2 (Yp r4 r5 r6)) (go_keep)
       (first
        |(go_at_call 95
          refine(HCC.o _ ((ax.refl _ _).drew)).mono ?_;rintro x W1 ⟨rfl,hb1⟩;have c1:=(hb1.cell (p:=⟨g,jn*2,Y1⟩) hgl).trans b0;have c2:=(hb1.cell (p:=⟨g,jn*2+1,Y1⟩) hgl).trans b1;have c3:=(hb1.cell (p:=⟨g,j1*2,Y1⟩) hgl).trans a0
          have c4:=(hb1.cell (p:=⟨g,j1*2+1,Y1⟩) hgl).trans a1))
     have HT7:=hd (HTW.o.trans (ax.of (F:=[g]) hb1).bW (fun _ h=> .inl h))
     have HD:Yf (Ez enc c p x s w W1 g (k+1)):=by
      refine FI.done HO.o HXE.o HT7.o H1.o H2.o H3.o ?_ (H5.o.drew.below hb1)
      refine Uo HO.o H1.o.left fun a ha=> ?_
      rw[List.getLast?_concat]at ha;injection ha with ha;subst ha;unfold ed;rw[HCO.o];exact hcx
     clear a0 a1 b0 b1 c1 c2 c3 c4 hb1;go_wp2_with fail;go_roundw
     case rel=>exact⟨k+1,by rw[<-YT,HIK.o];simp,by omega,by omega,HD⟩
     case measure=>have:=HIK.o;simp[aeJ];omega
  go_wp2_with fail
  go_end0
  obtain⟨y,h1,h2,h3⟩:=HI.o.ex
  have hkl:x.length<=k:=by have:=HBN.o;have:=HIK.o;omega
  rw[acU hkl]at h2;rw[aer hkl]at h3;exact⟨rfl,HI.o.gP,y,h1,h2,by simpa using h3⟩
end So
end
section
namespace So
open Bt
variable {α:Type}
structure Data(enc:α->Y3×Y3)(c:α->α->Int)(K:α->Prop)(cb:Y3)(g N:Nat)(w:Y4)(l:List α):Prop where
 lies:dB 195 w g (l.map enc)
 len:N=l.length
 small:N<=1000000
 ok:∀a∈l,K a
 two:∀a,K a->Two (enc a)
 cmp:BA enc c K cb g w
theorem Data.next{enc:α->Y3×Y3}{c:α->α->Int}{K:α->Prop}{l l':List α}(h:Data enc c K cb g N w l)(ht:ax [g] w w')(hl:dB 195 w' g (l'.map enc))(hp:l'.Perm l):Data enc c K cb g N w' l':=
 ⟨hl,by rw[hp.length_eq];exact h.len,h.small,fun a ha=>h.ok a (hp.mem_iff.1 ha),h.two,h.cmp.gP ht⟩
theorem Data.pair{enc:α->Y3×Y3}{c:α->α->Int}{K:α->Prop}{l:List α}(h:Data enc c K cb g N w l)(i j:Nat)(hi:i<l.length)(hj:j<l.length):
   ∃q1 q2 q3 q4 q5 q6 r1 r2 r3 r4 r5 r6,w.cell? ⟨g,i*2,Y1⟩=Y2 (Yp q1 q2 q3)/\w.cell? ⟨g,i*2+1,Y1⟩=Y2 (Yp q4 q5 q6)/\w.cell? ⟨g,j*2,Y1⟩=Y2 (Yp r1 r2 r3)/\w.cell? ⟨g,j*2+1,Y1⟩=Y2 (Yp r4 r5 r6)/\
     (∀W,ax [g] w W->aaT Zc 95 #[Yj #[Yp q1 q2 q3,Yp q4 q5 q6],Yj #[Yp r1 r2 r3,Yp r4 r5 r6],cb] W fun x W'=>x=Yl (Yg Yh (c l[i] l[j]))/\aaS W.heap.size W W'):=by
 have k1:=h.ok _ (acw hi);have k2:=h.ok _ (acw hj);obtain⟨q1,q2,q3,q4,q5,q6,e1⟩:=h.two _ k1;obtain⟨r1,r2,r3,r4,r5,r6,e2⟩:=h.two _ k2;have a:=h.lies.at i (by simpa using hi);have b:=h.lies.at j (by simpa using hj)
 have hc:=fun W hW=>h.cmp W hW _ _ k1 k2
 simp only[List.getElem_map]at a b;rw[e1]at a;rw[e2]at b;simp only[e1,e2]at hc;exact⟨q1,q2,q3,q4,q5,q6,r1,r2,r3,r4,r5,r6,a.1,a.2,b.1,b.2,hc⟩
theorem Data.XX{enc:α->Y3×Y3}{c:α->α->Int}{K:α->Prop}{A C:List α}{a b:α}(h:Data enc c K cb g N w (A++a::b::C)){i j:Nat}(hi:A.length=i)(hj:j=i+1):
   ∃q1 q2 q3 q4 q5 q6 r1 r2 r3 r4 r5 r6,(w.cell? ⟨g,i*2,Y1⟩=Y2 (Yp q1 q2 q3)/\w.cell? ⟨g,i*2+1,Y1⟩=Y2 (Yp q4 q5 q6)/\w.cell? ⟨g,j*2,Y1⟩=Y2 (Yp r1 r2 r3)/\w.cell? ⟨g,j*2+1,Y1⟩=Y2 (Yp r4 r5 r6))/\
     Data enc c K cb g N ((((w.setCell ⟨g,i*2,Y1⟩ (Yp r1 r2 r3)).setCell ⟨g,i*2+1,Y1⟩ (Yp r4 r5 r6)).setCell ⟨g,j*2,Y1⟩ (Yp q1 q2 q3)).setCell ⟨g,j*2+1,Y1⟩ (Yp q4 q5 q6)) (A++b::a::C)/\
     Data enc c K cb g N ((((w.setCell ⟨g,j*2,Y1⟩ (Yp q1 q2 q3)).setCell ⟨g,j*2+1,Y1⟩ (Yp q4 q5 q6)).setCell ⟨g,i*2,Y1⟩ (Yp r1 r2 r3)).setCell ⟨g,i*2+1,Y1⟩ (Yp r4 r5 r6)) (A++b::a::C):=by
 obtain⟨q1,q2,q3,q4,q5,q6,e1⟩:=h.two a (h.ok a (by simp));obtain⟨r1,r2,r3,r4,r5,r6,e2⟩:=h.two b (h.ok b (by simp));have hl:=h.lies;rw[aev,YZ,YZ]at hl;obtain⟨h1,h2,h3⟩:=dB.two (A:=A.map enc) (B:=[]) (a:=enc a) (b:=enc b) (C:=C.map enc) hl (i:=i) (j:=j) (by simpa using hi) (by simp;omega);have hp:(A++b::a::C).Perm (A++a::b::C):=List.Perm.append_left _ (List.Perm.swap _ _ _);rw[e1,e2]at h1
 have hm:(A++b::a::C).map enc=A.map enc++enc b::([]++enc a::C.map enc):=by simp
 rw[<-hm,e1,e2]at h2 h3;exact⟨q1,q2,q3,q4,q5,q6,r1,r2,r3,r4,r5,r6,h1,h.next (Ma (ax.refl _ _) _ _ _ _ _ _ _ _) h2 hp,h.next (Ma (ax.refl _ _) _ _ _ _ _ _ _ _) h3 hp⟩
theorem KL{lt:α->α->Bool}(o:sM lt){v:List α}{e:α}(hv:dR lt v){t:Nat}(ht:t<=v.length)(A:∀h:t<v.length,lt v[t] e=false)(B:∀h:0<t,lt (v[t-1]'(by omega)) e=true):
   dR lt (v.take t++e::v.drop t)/\eP lt ([e]++v) (v.take t++e::v.drop t):=by
 have hy:dR lt (e::v.drop t):=by
  refine List.Pairwise.cons ?_ (hv.drop t);intro a ha;obtain⟨y,hy,hty,rfl⟩:=lH ha;exact o.EM (A (by omega)) (oK o hv hty hy)
 have h:=merged o (u:=[e]) (v:=v) (x:=v.take t) (y:=e::v.drop t) (dR.one _ _) hv (i:=0) (j:=t) (by simp) ht (fun h1=>absurd h1 (by omega)) (fun _ h2=>B h2) (hv.take t) (by simpa using eP.refl lt (v.take t)) hy (by simpa using eP.refl lt (e::v.drop t));exact h
theorem MK{lt:α->α->Bool}(o:sM lt){u:List α}{e:α}(hu:dR lt u){t:Nat}(ht:t<=u.length)(A:∀h:0<t,lt e (u[t-1]'(by omega))=false)(B:∀h:t<u.length,lt e u[t]=true):
   dR lt (u.take t++e::u.drop t)/\eP lt (u++[e]) (u.take t++e::u.drop t):=by
 refine Pw o (by rw[aej];exact hu) (by rw[aej];exact eP.refl _ _) ?_ ?_
 · intro a ha;obtain⟨y,hy,hty,rfl⟩:=oG ha;exact o.EM (oK o hu (i:=y) (j:=t-1) (by omega) (by omega)) (A (by omega))
 intro a ha;obtain⟨y,hy,hty,rfl⟩:=lH ha;exact o.Sr (B (by omega)) (oK o hu hty hy)
end So
end
section
namespace So
open Bt
variable {α:Type}
def Merged(enc:α->Y3×Y3)(c:α->α->Int)(g:Nat)(w:Y4)(p u v s:List α)(e:Ending)(w':Y4):Prop:=
 e=Yl (Yn #[])/\ax [g] w w'/\∃x,dR (ed c) x/\eP (ed c) (u++v) x/\dB 195 w' g ((p++x++s).map enc)
theorem Gt(enc:α->Y3×Y3)(c:α->α->Int)(K:α->Prop)(o:sM (ed c))(p v s:List α)(e:α)(an mn bn:Nat)(hP:p.length=an)(hm:mn=an+1)(hb:bn=mn+v.length)(hv0:0<v.length)(hv:dR (ed c) v)(g N cap:Nat)(ca:abR)(w:Y4)(hD:Data enc c K (Ym (Y2 ca)) g N w (p++([e]++v)++s)):
   aaT Zc 215 #[Yp (Y2 ⟨g,0,Y1⟩) N cap,Yg Yh an,Yg Yh mn,Yg Yh bn,.func (.func 95) #[] #[Ym (Y2 ca)]] w (Merged enc c g w p [e] v s):=by
 have HP:=hd hP;have HM:=hd hm;have HB:=hd hb;have HV:=hd hv;have HO:=hd o;have HD:=hd hD;have hN:=hD.len;have hNs:=hD.small
 have hbN:bn<=N:=by rw[hN];simp;omega
 have hma:(mn:Int)-(an:Int)=1:=by omega
 have ha0:an<N:=by omega
 have hmb:mn<bn:=by omega
 have hle:an<mn:=by omega
 clear hP hm hb hv o hD hN hv0;go_enter aew,aex;go_wp2_with fail;go_loopw [10,11] (fun i j wr=>∃a b:Nat,i=Yg Yh a/\j=Yg Yh b/\mn<=a/\a<=b/\b<=bn/\Yf ((mn<a->∀y,v[a-1-mn]? =Y2 y->ed c y e=true)/\(∀y,v[b-mn]? =Y2 y->ed c y e=false))/\Yf (ax [g] w wr/\Data enc c K (Ym (Y2 ca)) g N wr (p++([e]++v)++s))) (fun i j _=>(aeJ j).toNat-(aeJ i).toNat)
 case atStart=>exact⟨mn,bn,rfl,rfl,nlr _,by omega,nlr _,⟨fun h=>absurd h (by omega),fun y hy=>by rw[YY (by have:=HB.o;omega)]at hy;cases hy⟩,ax.refl _ _,HD.o⟩
 case round=>
  obtain⟨a,b,rfl,rfl,ha,hab,hbb,HA,HW⟩:=hrel;by_cases hlt:a<b
  · have hhm:mn<=(a+b)/2:=by omega
    have hhb:(a+b)/2<bn:=by omega
    have hhv:(a+b)/2-mn<v.length:=by have:=HB.o;omega
    generalize hh:(a+b)/2=h at*;have HH:=hd hh
    have hhN:h<N:=by omega
    have i1:(h:Int)<(N:Int):=by omega
    have i2:(an:Int)<(N:Int):=by omega
    have i3:(0:Int)<=(h:Int):=by omega
    have i4:(0:Int)<=(an:Int):=by omega
    have hii:((a:Int)+(b:Int))/2=(h:Int):=by omega
    obtain⟨q1,q2,q3,q4,q5,q6,r1,r2,r3,r4,r5,r6,a0,a1,b0,b1,hc⟩:=HW.o.2.pair h an (by rw[<-HW.o.2.len];exact hhN) (by rw[<-HW.o.2.len];exact ha0)
    have g1:(p++([e]++v)++s)[h]'(by rw[<-HW.o.2.len];exact hhN)=v[h-mn]:=by
     have hp:=HP.o;have hm:=HM.o;rw[ael (by simp;omega),aem (by omega),aem (by simp;omega)];simp only[List.length_singleton]
     congr 1
     omega
    have g2:(p++([e]++v)++s)[an]'(by rw[<-HW.o.2.len];exact ha0)=e:=by
     have hp:=HP.o;rw[ael (by simp;omega),aem (by omega),ael (by simp;omega)];simp
    rw[g1,g2]at hc;have HC:=hd hc;have hgl:=HW.o.2.lies.lt;have HYE:=hd (YP hhv);generalize v[h-mn]=y at*;clear hc g1 g2 hhv hh
    have hcd:c y e<0\/¬c y e<0:=by omega
    generalize hco:c y e=co at*;have HCO:=hd hco;clear hco;rcases hcd with hcd|hcd
    · have hcx:decide (co<0)=true:=by simpa using hcd
      go_wp2_with fail
      go_region_held3 (fun w'=>w'.cell? ⟨g,h*2,Y1⟩=Y2 (Yp q1 q2 q3)/\w'.cell? ⟨g,h*2+1,Y1⟩=Y2 (Yp q4 q5 q6)/\w'.cell? ⟨g,an*2,Y1⟩=Y2 (Yp r1 r2 r3)/\w'.cell? ⟨g,an*2+1,Y1⟩=Y2 (Yp r4 r5 r6)) (go_keep)
        (first
         |(go_at_call 95
           refine(HC.o _ ((ax.refl _ _).drew)).mono ?_;rintro x W1 ⟨rfl,hb1⟩;have c1:=(hb1.cell (p:=⟨g,h*2,Y1⟩) hgl).trans a0;have c2:=(hb1.cell (p:=⟨g,h*2+1,Y1⟩) hgl).trans a1;have c3:=(hb1.cell (p:=⟨g,an*2,Y1⟩) hgl).trans b0
           have c4:=(hb1.cell (p:=⟨g,an*2+1,Y1⟩) hgl).trans b1))
      have HW1:Yf (ax [g] w W1/\Data enc c K (Ym (Y2 ca)) g N W1 (p++([e]++v)++s)):=
       ⟨HW.o.1.trans (ax.of (F:=[g]) hb1).bW (fun _ h=> .inl h),HW.o.2.next (ax.of (F:=[g]) hb1).bW (HW.o.2.lies.drew.below hb1) (List.Perm.refl _)⟩
      clear a0 a1 b0 b1 c1 c2 c3 c4 hb1;go_wp2_with fail;go_roundw
      case rel=>
       refine⟨h+1,b,by go_num,rfl,by omega,by have:=HH.o;omega,hbb,⟨fun _ z hz=> ?_,HA.o.2⟩,HW1⟩;rw[show h+1-1-mn=h-mn by omega,HYE.o]at hz;injection hz with hz;subst hz;unfold ed;rw[HCO.o];exact hcx
      case measure=>have:=HH.o;simp[aeJ];omega
    have hcx:decide (co<0)=false:=by simpa using hcd
    go_wp2_with fail
    go_region_held3 (fun w'=>w'.cell? ⟨g,h*2,Y1⟩=Y2 (Yp q1 q2 q3)/\w'.cell? ⟨g,h*2+1,Y1⟩=Y2 (Yp q4 q5 q6)/\w'.cell? ⟨g,an*2,Y1⟩=Y2 (Yp r1 r2 r3)/\w'.cell? ⟨g,an*2+1,Y1⟩=Y2 (Yp r4 r5 r6)) (go_keep)
      (first
       |(go_at_call 95
         refine(HC.o _ ((ax.refl _ _).drew)).mono ?_;rintro x W1 ⟨rfl,hb1⟩;have c1:=(hb1.cell (p:=⟨g,h*2,Y1⟩) hgl).trans a0;have c2:=(hb1.cell (p:=⟨g,h*2+1,Y1⟩) hgl).trans a1;have c3:=(hb1.cell (p:=⟨g,an*2,Y1⟩) hgl).trans b0
         have c4:=(hb1.cell (p:=⟨g,an*2+1,Y1⟩) hgl).trans b1))
    have HW1:Yf (ax [g] w W1/\Data enc c K (Ym (Y2 ca)) g N W1 (p++([e]++v)++s)):=
     ⟨HW.o.1.trans (ax.of (F:=[g]) hb1).bW (fun _ h=> .inl h),HW.o.2.next (ax.of (F:=[g]) hb1).bW (HW.o.2.lies.drew.below hb1) (List.Perm.refl _)⟩
    clear a0 a1 b0 b1 c1 c2 c3 c4 hb1;go_wp2_with fail;go_roundw
    case rel=>
     refine⟨a,h,rfl,rfl,ha,by have:=HH.o;omega,by omega,⟨HA.o.1,fun z hz=> ?_⟩,HW1⟩;rw[HYE.o]at hz;injection hz with hz;subst hz;unfold ed;rw[HCO.o];exact hcx
    case measure=>have:=HH.o;simp[aeJ];omega
  obtain rfl:b=a:=by omega
  obtain⟨t,ht⟩:∃t,b=mn+t:=⟨b-mn,by omega⟩
  have htv:t<=v.length:=by have:=HB.o;omega
  obtain⟨z,hz⟩:∃z,z=an+t:=⟨_,rfl⟩
  have hbz:(b:Int)-1=(z:Int):=by have:=HM.o;omega
  have HT:=hd ht;have HZ:=hd hz;have HTV:=hd htv;have HX:=hd (KL HO.o HV.o (e:=e) (t:=t) htv (fun h=>HA.o.2 _ (by rw[show b-mn=t by omega];exact YP h)) (fun h=>HA.o.1 (by omega) _ (by rw[show b-1-mn=t-1 by omega];exact YP (by omega))))
  have hzN:z<N:=by have:=HM.o;have:=HB.o;omega
  have hza:an<=z:=by omega
  have HW0:Yf (ax [g] w wr/\Data enc c K (Ym (Y2 ca)) g N wr (p++(v.take 0++e::v.drop 0)++s)):=by simpa using HW
  clear ht hz htv HA HW hlt;go_wp2_with fail;go_loopw [13] (fun k wr=>∃kn:Nat,k=Yg Yh kn/\an<=kn/\kn<=z/\Yf (ax [g] w wr/\Data enc c K (Ym (Y2 ca)) g N wr (p++(v.take (kn-an)++e::v.drop (kn-an))++s))) (fun k _=>z-(aeJ k).toNat)
  case atStart=>exact⟨an,rfl,nlr _,hza,by rw[Nat.sub_self];exact HW0⟩
  case round=>
   obtain⟨kn,rfl,hk1,hk2,HW⟩:=hrel;by_cases hkz:kn<z
   · have htl:kn-an<v.length:=by have:=HZ.o;have:=HTV.o;omega
     have he:p++(v.take (kn-an)++e::v.drop (kn-an))++s=(p++v.take (kn-an))++e::v[kn-an]::(v.drop (kn-an+1)++s):=by
      rw[YM htl];simp only[laa,YI]
     have he2:(p++v.take (kn-an))++v[kn-an]::e::(v.drop (kn-an+1)++s)=p++(v.take (kn+1-an)++e::v.drop (kn+1-an))++s:=by
      rw[show kn+1-an=kn-an+1 by omega,aeq htl];simp only[laa,YI,YK]
     have hA:(p++v.take (kn-an)).length=kn:=by have:=HP.o;rw[aaN,adO];omega
     have hD1:=HW.o.2;rw[he]at hD1;obtain⟨k1,Ag⟩:∃k1,k1=kn+1:=⟨_,rfl⟩;obtain⟨q1,q2,q3,q4,q5,q6,r1,r2,r3,r4,r5,r6,⟨a0,a1,b0,b1⟩,D1,D2⟩:=hD1.XX hA Ag;rw[he2]at D1 D2;have HD1:=hd D1;have HD2:=hd D2;have HK1:=hd Ag
     have w1:IntKind.i64.wrap ((kn:Int)+1)=(k1:Int):=by rw[J5 _ (by omega) (by omega)];omega
     have i1:(kn:Int)<(N:Int):=by omega
     have i2:(k1:Int)<(N:Int):=by omega
     have i3:(0:Int)<=(k1:Int):=by omega
     have hkk:kn<k1:=by omega
     have hgl:=hD1.lies.lt;have f0:=hD1.lies.free (kn*2);have f1:=hD1.lies.free (kn*2+1);have f2:=hD1.lies.free (k1*2);have f3:=hD1.lies.free (k1*2+1);clear D1 D2 hD1 hA he he2 htl Ag;go_wp2_with fail
     go_region
     all_goals
      go_wp2_with fail;go_roundw
      case rel=>exact⟨kn+1,by first|(rw[HK1.o];done)|go_num,by omega,by omega,(Ma HW.o.1 _ _ _ _ _ _ _ _).drew,HD1.o.next ((ax.refl _ _).drew) HD1.o.lies.drew (List.Perm.refl _)⟩
      case measure=>simp[aeJ];omega
   have hke:kn-an=t:=by have:=HZ.o;omega
   rw[hke]at HW;go_wp2_with fail
   go_end0
   exact⟨rfl,HW.o.1,_,HX.o.1,HX.o.2,HW.o.2.lies⟩
end So
end
section
namespace So
open Bt
variable {α:Type}
theorem Iz(enc:α->Y3×Y3)(c:α->α->Int)(K:α->Prop)(o:sM (ed c))(p u s:List α)(e:α)(an mn bn:Nat)(hP:p.length=an)(hm:mn=an+u.length)(hb:bn=mn+1)(hu2:2<=u.length)(hu:dR (ed c) u)(g N cap:Nat)(ca:abR)(w:Y4)(hD:Data enc c K (Ym (Y2 ca)) g N w (p++(u++[e])++s)):
   aaT Zc 215 #[Yp (Y2 ⟨g,0,Y1⟩) N cap,Yg Yh an,Yg Yh mn,Yg Yh bn,.func (.func 95) #[] #[Ym (Y2 ca)]] w (Merged enc c g w p u [e] s):=by
 have HP:=hd hP;have HM:=hd hm;have HB:=hd hb;have HV:=hd hu;have HO:=hd o;have HD:=hd hD;have hN:=hD.len;have hNs:=hD.small
 have hbN:bn<=N:=by rw[hN];simp;omega
 obtain⟨ul,hul⟩:∃ul,ul=u.length:=⟨_,rfl⟩
 have hma:(mn:Int)-(an:Int)=(ul:Int):=by omega
 have hu1:((ul:Int)==1)=false:=by simp;omega
 have hbm:(bn:Int)-(mn:Int)=1:=by omega
 have ha0:mn<N:=by omega
 have hmb:mn<bn:=by omega
 have hle:an<mn:=by omega
 clear hP hm hb hu o hD hN hu2 hul;go_enter aew,aex;go_wp2_with fail;go_loopw [14,15] (fun i j wr=>∃a b:Nat,i=Yg Yh a/\j=Yg Yh b/\an<=a/\a<=b/\b<=mn/\Yf ((an<a->∀y,u[a-1-an]? =Y2 y->ed c e y=false)/\(∀y,u[b-an]? =Y2 y->ed c e y=true))/\Yf (ax [g] w wr/\Data enc c K (Ym (Y2 ca)) g N wr (p++(u++[e])++s))) (fun i j _=>(aeJ j).toNat-(aeJ i).toNat)
 case atStart=>exact⟨an,mn,rfl,rfl,nlr _,by omega,nlr _,⟨fun h=>absurd h (by omega),fun y hy=>by rw[YY (by have:=HM.o;omega)]at hy;cases hy⟩,ax.refl _ _,HD.o⟩
 case round=>
  obtain⟨a,b,rfl,rfl,ha,hab,hbb,HA,HW⟩:=hrel;by_cases hlt:a<b
  · have hhm:an<=(a+b)/2:=by omega
    have hhb:(a+b)/2<mn:=by omega
    have hhv:(a+b)/2-an<u.length:=by have:=HM.o;omega
    generalize hh:(a+b)/2=h at*;have HH:=hd hh
    have hhN:h<N:=by omega
    have i1:(h:Int)<(N:Int):=by omega
    have i2:(mn:Int)<(N:Int):=by omega
    have i3:(0:Int)<=(h:Int):=by omega
    have i4:(0:Int)<=(mn:Int):=by omega
    have hii:((a:Int)+(b:Int))/2=(h:Int):=by omega
    obtain⟨q1,q2,q3,q4,q5,q6,r1,r2,r3,r4,r5,r6,a0,a1,b0,b1,hc⟩:=HW.o.2.pair mn h (by rw[<-HW.o.2.len];exact ha0) (by rw[<-HW.o.2.len];exact hhN)
    have g1:(p++(u++[e])++s)[h]'(by rw[<-HW.o.2.len];exact hhN)=u[h-an]:=by
     have hp:=HP.o;have hm:=HM.o;rw[ael (by simp;omega),aem (by omega),ael (by omega)]
     congr 1
     omega
    have g2:(p++(u++[e])++s)[mn]'(by rw[<-HW.o.2.len];exact ha0)=e:=by
     have hp:=HP.o;have hm:=HM.o;rw[ael (by simp;omega),aem (by omega),aem (by omega)];simp
    rw[g1,g2]at hc;have HC:=hd hc;have hgl:=HW.o.2.lies.lt;have HYE:=hd (YP hhv);generalize u[h-an]=y at*;clear hc g1 g2 hhv hh
    have hcd:c e y<0\/¬c e y<0:=by omega
    generalize hco:c e y=co at*;have HCO:=hd hco;clear hco;rcases hcd with hcd|hcd
    · have hcx:decide (co<0)=true:=by simpa using hcd
      go_wp2_with fail
      go_region_held3 (fun w'=>w'.cell? ⟨g,mn*2,Y1⟩=Y2 (Yp q1 q2 q3)/\w'.cell? ⟨g,mn*2+1,Y1⟩=Y2 (Yp q4 q5 q6)/\w'.cell? ⟨g,h*2,Y1⟩=Y2 (Yp r1 r2 r3)/\w'.cell? ⟨g,h*2+1,Y1⟩=Y2 (Yp r4 r5 r6)) (go_keep)
        (first
         |(go_at_call 95
           refine(HC.o _ ((ax.refl _ _).drew)).mono ?_;rintro x W1 ⟨rfl,hb1⟩;have c1:=(hb1.cell (p:=⟨g,mn*2,Y1⟩) hgl).trans a0;have c2:=(hb1.cell (p:=⟨g,mn*2+1,Y1⟩) hgl).trans a1;have c3:=(hb1.cell (p:=⟨g,h*2,Y1⟩) hgl).trans b0
           have c4:=(hb1.cell (p:=⟨g,h*2+1,Y1⟩) hgl).trans b1))
      have HW1:Yf (ax [g] w W1/\Data enc c K (Ym (Y2 ca)) g N W1 (p++(u++[e])++s)):=
       ⟨HW.o.1.trans (ax.of (F:=[g]) hb1).bW (fun _ h=> .inl h),HW.o.2.next (ax.of (F:=[g]) hb1).bW (HW.o.2.lies.drew.below hb1) (List.Perm.refl _)⟩
      clear a0 a1 b0 b1 c1 c2 c3 c4 hb1;go_wp2_with fail;go_roundw
      case rel=>
       refine⟨a,h,rfl,rfl,ha,by have:=HH.o;omega,by omega,⟨HA.o.1,fun z hz=> ?_⟩,HW1⟩;rw[HYE.o]at hz;injection hz with hz;subst hz;unfold ed;rw[HCO.o];exact hcx
      case measure=>have:=HH.o;simp[aeJ];omega
    have hcx:decide (co<0)=false:=by simpa using hcd
    go_wp2_with fail
    go_region_held3 (fun w'=>w'.cell? ⟨g,mn*2,Y1⟩=Y2 (Yp q1 q2 q3)/\w'.cell? ⟨g,mn*2+1,Y1⟩=Y2 (Yp q4 q5 q6)/\w'.cell? ⟨g,h*2,Y1⟩=Y2 (Yp r1 r2 r3)/\w'.cell? ⟨g,h*2+1,Y1⟩=Y2 (Yp r4 r5 r6)) (go_keep)
      (first
       |(go_at_call 95
         refine(HC.o _ ((ax.refl _ _).drew)).mono ?_;rintro x W1 ⟨rfl,hb1⟩;have c1:=(hb1.cell (p:=⟨g,mn*2,Y1⟩) hgl).trans a0;have c2:=(hb1.cell (p:=⟨g,mn*2+1,Y1⟩) hgl).trans a1;have c3:=(hb1.cell (p:=⟨g,h*2,Y1⟩) hgl).trans b0
         have c4:=(hb1.cell (p:=⟨g,h*2+1,Y1⟩) hgl).trans b1))
    have HW1:Yf (ax [g] w W1/\Data enc c K (Ym (Y2 ca)) g N W1 (p++(u++[e])++s)):=
     ⟨HW.o.1.trans (ax.of (F:=[g]) hb1).bW (fun _ h=> .inl h),HW.o.2.next (ax.of (F:=[g]) hb1).bW (HW.o.2.lies.drew.below hb1) (List.Perm.refl _)⟩
    clear a0 a1 b0 b1 c1 c2 c3 c4 hb1;go_wp2_with fail;go_roundw
    case rel=>
     refine⟨h+1,b,by go_num,rfl,by omega,by have:=HH.o;omega,hbb,⟨fun _ z hz=> ?_,HA.o.2⟩,HW1⟩;rw[show h+1-1-an=h-an by omega,HYE.o]at hz;injection hz with hz;subst hz;unfold ed;rw[HCO.o];exact hcx
    case measure=>have:=HH.o;simp[aeJ];omega
  obtain rfl:b=a:=by omega
  obtain⟨t,ht⟩:∃t,b=an+t:=⟨b-an,by omega⟩
  have htv:t<=u.length:=by have:=HM.o;omega
  have HT:=hd ht;have HTV:=hd htv;have HX:=hd (MK HO.o HV.o (e:=e) (t:=t) htv (fun h=>HA.o.1 (by omega) _ (by rw[show b-1-an=t-1 by omega];exact YP (by omega))) (fun h=>HA.o.2 _ (by rw[show b-an=t by omega];exact YP h)))
  have HW0:Yf (ax [g] w wr/\Data enc c K (Ym (Y2 ca)) g N wr (p++(u.take (mn-an)++e::u.drop (mn-an))++s)):=by
   rw[show mn-an=u.length by have:=HM.o;omega];simpa using HW
  clear ht htv HA HW hlt;go_wp2_with fail;go_loopw [17] (fun k wr=>∃kn:Nat,k=Yg Yh kn/\b<=kn/\kn<=mn/\Yf (ax [g] w wr/\Data enc c K (Ym (Y2 ca)) g N wr (p++(u.take (kn-an)++e::u.drop (kn-an))++s))) (fun k _=>(aeJ k).toNat)
  case atStart=>exact⟨mn,rfl,by omega,nlr _,HW0⟩
  case round=>
   obtain⟨kn,rfl,hk1,hk2,HW⟩:=hrel;by_cases hkz:b<kn
   · obtain⟨k1,Ag⟩:∃k1,kn=k1+1:=⟨kn-1,by omega⟩
     have htl:k1-an<u.length:=by have:=HM.o;omega
     have hkA:an<=k1:=by omega
     have he:p++(u.take (kn-an)++e::u.drop (kn-an))++s=(p++u.take (k1-an))++u[k1-an]::e::(u.drop (kn-an)++s):=by
      rw[show kn-an=k1-an+1 by omega,aeq htl];simp only[laa,YI,YK]
     have he2:(p++u.take (k1-an))++e::u[k1-an]::(u.drop (kn-an)++s)=p++(u.take (k1-an)++e::u.drop (k1-an))++s:=by
      rw[show kn-an=k1-an+1 by omega,YM htl];simp only[laa,YI,YK]
     have hA:(p++u.take (k1-an)).length=k1:=by have:=HP.o;rw[aaN,adO];omega
     have hD1:=HW.o.2;rw[he]at hD1;obtain⟨q1,q2,q3,q4,q5,q6,r1,r2,r3,r4,r5,r6,⟨a0,a1,b0,b1⟩,D1,D2⟩:=hD1.XX hA Ag;rw[he2]at D1 D2;have HD1:=hd D1;have HD2:=hd D2;have HK1:=hd Ag
     have w1:IntKind.i64.wrap ((kn:Int)-1)=(k1:Int):=by rw[J5 _ (by omega) (by omega)];omega
     have i1:(kn:Int)<(N:Int):=by omega
     have i2:(k1:Int)<(N:Int):=by omega
     have i3:(0:Int)<=(k1:Int):=by omega
     have hkk:k1<kn:=by omega
     have hgl:=hD1.lies.lt;have f0:=hD1.lies.free (kn*2);have f1:=hD1.lies.free (kn*2+1);have f2:=hD1.lies.free (k1*2);have f3:=hD1.lies.free (k1*2+1);clear D1 D2 hD1 hA he he2 htl Ag hkA;go_wp2_with fail
     go_region
     all_goals
      go_wp2_with fail;go_roundw
      case rel=>exact⟨k1,by first|rfl|(have:=HK1.o;go_num),by have:=HK1.o;omega,by omega,(Ma HW.o.1 _ _ _ _ _ _ _ _).drew,HD2.o.next ((ax.refl _ _).drew) HD2.o.lies.drew (List.Perm.refl _)⟩
      case measure=>have:=HK1.o;simp[aeJ];omega
   have hke:kn-an=t:=by have:=HT.o;omega
   rw[hke]at HW;go_wp2_with fail
   go_end0
   exact⟨rfl,HW.o.1,_,HX.o.1,HX.o.2,HW.o.2.lies⟩
end So
end
section
namespace So
open Bt
variable {α:Type}
def nH(c:α->α->Int)(l:List α)(lo hi p a b:Nat):Prop:=
 lo<=a/\a<=b/\b<=hi/\(lo<a->∀x y,l[p-(a-1)]? =Y2 x->l[a-1]? =Y2 y->ed c x y=false)/\(b<hi->∀x y,l[p-b]? =Y2 x->l[b]? =Y2 y->ed c x y=true)
theorem nH.start{c:α->α->Int}{l:List α}{p:Nat}(h:lo<=hi):nH c l lo hi p lo hi:=⟨nlr _,h,nlr _,fun h=>absurd h (by omega),fun h=>absurd h (by omega)⟩
theorem nH.less{c:α->α->Int}{l:List α}{a b h ph:Nat}{x y:α}(k:nH c l lo hi pm a b)(h1:a<=h)(h2:h<b)(hp:ph+h=pm)(e1:l[ph]? =Y2 x)(e2:l[h]? =Y2 y)(hc:ed c x y=true):nH c l lo hi pm a h:=by
 obtain⟨k1,k2,k3,k4,k5⟩:=k;refine⟨k1,h1,by omega,k4,fun _ x' y' e1' e2'=> ?_⟩;rw[show pm-h=ph by omega,e1]at e1';rw[e2]at e2';injection e1' with e1';injection e2' with e2';subst e1' e2';exact hc
theorem nH.more{c:α->α->Int}{l:List α}{a b h ph:Nat}{x y:α}(k:nH c l lo hi pm a b)(h1:a<=h)(h2:h<b)(hp:ph+h=pm)(e1:l[ph]? =Y2 x)(e2:l[h]? =Y2 y)(hc:ed c x y=false):nH c l lo hi pm (h+1) b:=by
 obtain⟨k1,k2,k3,k4,k5⟩:=k;refine⟨by omega,by omega,k3,fun _ x' y' e1' e2'=> ?_,k5⟩;rw[show pm-(h+1-1)=ph by omega,e1]at e1';rw[show h+1-1=h by omega,e2]at e2';injection e1' with e1';injection e2' with e2';subst e1' e2';exact hc
theorem U2{p u v s:List α}{an:Nat}(hP:p.length=an)(hk:k<u.length):(p++(u++v)++s)[an+k]? =Y2 u[k]:=by
 subst hP;rw[laa,aey (by omega),laa,aez (by omega),Nat.add_sub_cancel_left];exact YP hk
theorem VQ{p u v s:List α}{mn:Nat}(hP:mn=p.length+u.length)(hk:k<v.length):(p++(u++v)++s)[mn+k]? =Y2 v[k]:=by
 subst hP;rw[laa,aey (by omega),laa,aey (by omega),aez (by omega),show p.length+u.length+k-p.length-u.length=k by omega];exact YP hk
theorem nH.ab{c:α->α->Int}{p u v s:List α}{st an mn nn i j:Nat}(k:nH c (p++(u++v)++s) lo hi pm st st)(hP:p.length=an)(hm:mn=an+u.length)(hn:pm+1=nn)(hi':an+i=st)(hj':mn+j+st=nn)
   (hlo:lo=an\/lo+(mn+v.length)=nn) (hhi:hi=mn\/hi+mn=nn) (h8:i<=u.length) (h9:j<=v.length):
   i<=u.length/\j<=v.length/\(∀(h1:0<i) (h2:j<v.length),ed c v[j] (u[i-1]'(by omega))=false)/\(∀(h1:i<u.length) (h2:0<j),ed c (v[j-1]'(by omega)) u[i]=true):=by
 obtain⟨k1,k2,k3,k4,k5⟩:=k;refine⟨h8,h9,fun h1 h2=> ?_,fun h1 h2=> ?_⟩
 · refine k4 (by omega) _ _ ?_ ?_
   · rw[show pm-(st-1)=mn+j by omega];exact VQ (by omega) h2
   rw[show st-1=an+(i-1) by omega];exact U2 hP (by omega)
 refine k5 (by omega) _ _ ?_ ?_
 · rw[show pm-st=mn+(j-1) by omega];exact VQ (by omega) (by omega)
 rw[<-hi'];exact U2 hP h1
end So
end
section
namespace So
open Bt
variable {α:Type}
def Ef(enc:α->Y3×Y3)(c:α->α->Int)(K:α->Prop)(g N cap:Nat)(ca:abR)(n:Nat):Prop:=
 ∀(p u v s:List α) (an mn bn:Nat),p.length=an->mn=an+u.length->bn=mn+v.length->0<u.length->0<v.length->u.length+v.length<n->dR (ed c) u->dR (ed c) v->∀w,Data enc c K (Ym (Y2 ca)) g N w (p++(u++v)++s)->
   aaT Zc 215 #[Yp (Y2 ⟨g,0,Y1⟩) N cap,Yg Yh an,Yg Yh mn,Yg Yh bn,.func (.func 95) #[] #[Ym (Y2 ca)]] w (Merged enc c g w p u v s)
structure Xy(c:α->α->Int)(u v:List α)(an mn bn md st en i j:Nat):Prop where
 iu:i<=u.length
 jv:j<=v.length
 A:∀(h1:0<i) (h2:j<v.length),ed c v[j] (u[i-1]'(by omega))=false
 B:∀(h1:i<u.length) (h2:0<j),ed c (v[j-1]'(by omega)) u[i]=true
 ar:an+i=st/\mn+j=en/\st+en=md+mn/\an+u.length=mn/\mn+v.length=bn/\2*md<=an+bn/\an+bn<2*md+2/\2<=u.length/\2<=v.length
theorem Jj(enc:α->Y3×Y3)(c:α->α->Int)(K:α->Prop)(o:sM (ed c))(p u v s:List α)(an mn bn:Nat)(hP:p.length=an)(hm:mn=an+u.length)(hb:bn=mn+v.length)(hu2:2<=u.length)(hv2:2<=v.length)(hu:dR (ed c) u)(hv:dR (ed c) v)(g N cap:Nat)(ca:abR)(w:Y4)(hD:Data enc c K (Ym (Y2 ca)) g N w (p++(u++v)++s))(ih:Ef enc c K g N cap ca (u.length+v.length)):
   aaT Zc 215 #[Yp (Y2 ⟨g,0,Y1⟩) N cap,Yg Yh an,Yg Yh mn,Yg Yh bn,.func (.func 95) #[] #[Ym (Y2 ca)]] w (Merged enc c g w p u v s):=by
 have HP:=hd hP;have HU:=hd hu;have HV:=hd hv;have HO:=hd o;have HD:=hd hD;have IH:=hd ih;have hN:=hD.len;have hNs:=hD.small
 have hbN:bn<=N:=by rw[hN];simp;omega
 obtain⟨ul,hul⟩:∃ul,ul=u.length:=⟨_,rfl⟩;obtain⟨vl,hvl⟩:∃vl,vl=v.length:=⟨_,rfl⟩;obtain⟨md,hmd⟩:∃md,md=(an+bn)/2:=⟨_,rfl⟩;obtain⟨nn,hnn⟩:∃nn,nn=md+mn:=⟨_,rfl⟩;obtain⟨pm,hpm⟩:∃pm,pm+1=nn:=⟨nn-1,by omega⟩
 have hma:(mn:Int)-(an:Int)=(ul:Int):=by omega
 have hu1:((ul:Int)==1)=false:=by simp;omega
 have hbm:(bn:Int)-(mn:Int)=(vl:Int):=by omega
 have hv1:((vl:Int)==1)=false:=by simp;omega
 have hmid:((an:Int)+(bn:Int))/2=(md:Int):=by omega
 have hnI:(md:Int)+(mn:Int)=(nn:Int):=by omega
 have hpI:(nn:Int)-1=(pm:Int):=by omega
 have HF0:Yf (mn=an+u.length/\bn=mn+v.length/\2*md<=an+bn/\an+bn<2*md+2/\nn=md+mn/\pm+1=nn/\bn<=N/\2<=u.length/\2<=v.length):=by refine⟨hm,hb,?_,?_,hnn,hpm,hbN,hu2,hv2⟩<;>omega
 have hanN:an<=N:=by omega
 have hmnN:mn<=N:=by omega
 have hmdN:md<=N:=by omega
 clear hP hm hb hu hv o hD hN hu2 hv2 hul hvl hmd hnn hpm ih;go_enter aew,aex
 go_upto_if 140 with fail
 go_cut[20,21]from 138 (fun s20 s21 wc=>∃lo hi:Nat,s20=Yg Yh lo/\s21=Yg Yh hi/\Yf (lo<=hi/\((lo=an/\hi=mn/\mn<=md)\/(lo+bn=nn/\hi=md/\md<mn)))/\w=wc)
 case first=>
  by_cases hgt:md<mn
  · obtain⟨lo,hlo⟩:∃lo,lo+bn=nn:=⟨nn-bn,by have:=HF0.o;omega⟩
    have hloI:(nn:Int)-(bn:Int)=(lo:Int):=by omega
    have HLO:=hd hlo;clear hlo;go_wp2_with fail;go_meet;exact⟨lo,md,rfl,rfl,⟨by have:=HF0.o;have:=HLO.o;omega,.inr ⟨HLO.o,rfl,hgt⟩⟩,rfl⟩
  go_wp2_with fail;go_meet;exact⟨an,mn,rfl,rfl,⟨by have:=HF0.o;omega,.inl ⟨rfl,rfl,by omega⟩⟩,rfl⟩
 case rest=>
  obtain⟨lo,hi,rfl,rfl,HLH,rfl⟩:=hcut;have Sn:=HLH.o.1;go_wp2_with fail;go_loopw [20,21] (fun i j wr=>∃a b:Nat,i=Yg Yh a/\j=Yg Yh b/\lo<=a/\a<=b/\b<=hi/\Yf (nH c (p++(u++v)++s) lo hi pm a b)/\Yf (ax [g] w wr/\Data enc c K (Ym (Y2 ca)) g N wr (p++(u++v)++s))) (fun i j _=>(aeJ j).toNat-(aeJ i).toNat)
  case atStart=>exact⟨lo,hi,rfl,rfl,nlr _,Sn,nlr _,nH.start Sn,ax.refl _ _,HD.o⟩
  case round=>
   obtain⟨a,b,rfl,rfl,ha,hab,hbb,HA,HW⟩:=hrel;by_cases hlt:a<b
   · obtain⟨h,hh⟩:∃h,h=(a+b)/2:=⟨_,rfl⟩
     have hh1:lo<=h:=by omega
     have hh2:h<hi:=by omega
     obtain⟨ph,hph⟩:∃ph,ph+h=pm:=⟨pm-h,by have:=HF0.o;have:=HLH.o;omega⟩
     have Uk:ph<N:=by have:=HF0.o;have:=HLH.o;omega
     have hhN:h<N:=by have:=HF0.o;have:=HLH.o;omega
     have i1:(h:Int)<(N:Int):=by omega
     have i2:(ph:Int)<(N:Int):=by omega
     have i3:(0:Int)<=(h:Int):=by omega
     have i4:(0:Int)<=(ph:Int):=by omega
     have hii:((a:Int)+(b:Int))/2=(h:Int):=by omega
     have w1:IntKind.i64.wrap ((pm:Int)-(h:Int))=(ph:Int):=by rw[show(pm:Int)-(h:Int)=(ph:Int) by omega];exact J5 _ (by omega) (by omega)
     obtain⟨q1,q2,q3,q4,q5,q6,r1,r2,r3,r4,r5,r6,a0,a1,b0,b1,hc⟩:=HW.o.2.pair ph h (by rw[<-HW.o.2.len];exact Uk) (by rw[<-HW.o.2.len];exact hhN);have HY1:Yf ((p++(u++v)++s)[ph]? =Y2 ((p++(u++v)++s)[ph]'(by rw[<-HW.o.2.len];exact Uk))):=YP _;have HY2:Yf ((p++(u++v)++s)[h]? =Y2 ((p++(u++v)++s)[h]'(by rw[<-HW.o.2.len];exact hhN))):=YP _;generalize (p++(u++v)++s)[ph]'(by rw[<-HW.o.2.len];exact Uk)=yp at*;generalize (p++(u++v)++s)[h]'(by rw[<-HW.o.2.len];exact hhN)=yh at*;have HC:=hd hc;have hgl:=HW.o.2.lies.lt;have HH:=hd hh;have HPH:=hd hph;clear hc hh hph
     have hcd:c yp yh<0\/¬c yp yh<0:=by omega
     generalize hco:c yp yh=co at*;have HCO:=hd hco;clear hco;rcases hcd with hcd|hcd
     · have hcx:decide (co<0)=true:=by simpa using hcd
       go_wp2_with fail
       go_region_held3 (fun w'=>w'.cell? ⟨g,ph*2,Y1⟩=Y2 (Yp q1 q2 q3)/\w'.cell? ⟨g,ph*2+1,Y1⟩=Y2 (Yp q4 q5 q6)/\w'.cell? ⟨g,h*2,Y1⟩=Y2 (Yp r1 r2 r3)/\w'.cell? ⟨g,h*2+1,Y1⟩=Y2 (Yp r4 r5 r6)) (go_keep)
         (first
          |(go_at_call 95
            refine(HC.o _ ((ax.refl _ _).drew)).mono ?_;rintro x W1 ⟨rfl,hb1⟩;have c1:=(hb1.cell (p:=⟨g,ph*2,Y1⟩) hgl).trans a0;have c2:=(hb1.cell (p:=⟨g,ph*2+1,Y1⟩) hgl).trans a1;have c3:=(hb1.cell (p:=⟨g,h*2,Y1⟩) hgl).trans b0
            have c4:=(hb1.cell (p:=⟨g,h*2+1,Y1⟩) hgl).trans b1))
       have HW1:Yf (ax [g] w W1/\Data enc c K (Ym (Y2 ca)) g N W1 (p++(u++v)++s)):=
        ⟨HW.o.1.trans (ax.of (F:=[g]) hb1).bW (fun _ h=> .inl h),HW.o.2.next (ax.of (F:=[g]) hb1).bW (HW.o.2.lies.drew.below hb1) (List.Perm.refl _)⟩
       clear a0 a1 b0 b1 c1 c2 c3 c4 hb1;go_wp2_with fail;go_roundw
       case rel=>exact⟨a,h,rfl,rfl,ha,by have:=HH.o;omega,by omega,HA.o.less (by have:=HH.o;omega) (by have:=HH.o;omega) HPH.o HY1.o HY2.o (by unfold ed;rw[HCO.o];exact hcx),HW1⟩
       case measure=>have:=HH.o;simp[aeJ];omega
     have hcx:decide (co<0)=false:=by simpa using hcd
     go_wp2_with fail
     go_region_held3 (fun w'=>w'.cell? ⟨g,ph*2,Y1⟩=Y2 (Yp q1 q2 q3)/\w'.cell? ⟨g,ph*2+1,Y1⟩=Y2 (Yp q4 q5 q6)/\w'.cell? ⟨g,h*2,Y1⟩=Y2 (Yp r1 r2 r3)/\w'.cell? ⟨g,h*2+1,Y1⟩=Y2 (Yp r4 r5 r6)) (go_keep)
       (first
        |(go_at_call 95
          refine(HC.o _ ((ax.refl _ _).drew)).mono ?_;rintro x W1 ⟨rfl,hb1⟩;have c1:=(hb1.cell (p:=⟨g,ph*2,Y1⟩) hgl).trans a0;have c2:=(hb1.cell (p:=⟨g,ph*2+1,Y1⟩) hgl).trans a1;have c3:=(hb1.cell (p:=⟨g,h*2,Y1⟩) hgl).trans b0
          have c4:=(hb1.cell (p:=⟨g,h*2+1,Y1⟩) hgl).trans b1))
     have HW1:Yf (ax [g] w W1/\Data enc c K (Ym (Y2 ca)) g N W1 (p++(u++v)++s)):=
      ⟨HW.o.1.trans (ax.of (F:=[g]) hb1).bW (fun _ h=> .inl h),HW.o.2.next (ax.of (F:=[g]) hb1).bW (HW.o.2.lies.drew.below hb1) (List.Perm.refl _)⟩
     clear a0 a1 b0 b1 c1 c2 c3 c4 hb1;go_wp2_with fail;go_roundw
     case rel=>exact⟨h+1,b,by go_num,rfl,by omega,by have:=HH.o;omega,hbb,HA.o.more (by have:=HH.o;omega) (by have:=HH.o;omega) HPH.o HY1.o HY2.o (by unfold ed;rw[HCO.o];exact hcx),HW1⟩
     case measure=>have:=HH.o;simp[aeJ];omega
   obtain rfl:b=a:=by omega
   obtain⟨en,hen⟩:∃en,en+b=nn:=⟨nn-b,by have:=HF0.o;have:=HLH.o;omega⟩;obtain⟨i,hi'⟩:∃i,an+i=b:=⟨b-an,by have:=HF0.o;have:=HLH.o;omega⟩;obtain⟨j,hj⟩:∃j,mn+j=en:=⟨en-mn,by have:=HF0.o;have:=HLH.o;omega⟩
   have e1:(nn:Int)-(b:Int)=(en:Int):=by omega
   have HF:Yf (Xy c u v an mn bn md b en i j):=by
    have h0:=HF0.o;have h1:=HLH.o;have hq:=HA.o.ab (p:=p) (u:=u) (v:=v) (s:=s) (an:=an) (mn:=mn) (nn:=nn) (i:=i) (j:=j) HP.o h0.1 (by omega) hi' (by omega) (by omega) (by omega) (by omega) (by omega);exact⟨hq.1,hq.2.1,hq.2.2.1,hq.2.2.2,hi',hj,by omega,by omega,by omega,by omega,by omega,by omega,by omega⟩
   have hbN2:b<=N:=by have:=HF0.o;have:=HLH.o;omega
   have henN:en<=N:=by have:=HF0.o;have:=HLH.o;omega
   go_upto_region 39 with fail
   go_cut[185]from 178 (fun XA wc=>XA=.bool (decide (b<mn)&&decide (mn<en))/\wr=wc)
   case first=>
    by_cases hr:b<mn
    · have t1:decide (b<mn)=true:=decide_eq_true hr;go_wp2_with fail;go_meet;exact⟨by simp[t1],rfl⟩
    have t1:decide (b<mn)=false:=decide_eq_false hr;go_wp2_with fail;go_meet;exact⟨by simp[t1],rfl⟩
   case rest=>
    obtain⟨rfl,rfl⟩:=hcut
    go_upto_if 185 with fail
    go_cut[]from 178 (fun wc=>Yf (ax [g] w wc/\Data enc c K (Ym (Y2 ca)) g N wc (p++(u.take i++v.take j)++(u.drop i++v.drop j++s))))
    case first=>
     have hF:=HF.o.ar;have hFi:=HF.o.iu;have hFj:=HF.o.jv;have HFA:=hd hF;by_cases hr:b<mn/\mn<en
     · have t1:(decide (b<mn)&&decide (mn<en))=true:=by simp[hr.1,hr.2]
       go_wp2_with fail;have hF:=HFA.o;have hD:=HW.o.2
       have he:(p++(u++v)++s)=(p++u.take i)++u.drop i++v.take j++(v.drop j++s):=by
        conv=>lhs;rw[<-aej i u,<-aej j v]
        simp only[laa]
       rw[he]at hD
       refine(I5 ((p++u.take i).map enc) ((u.drop i).map enc) ((v.take j).map enc) ((v.drop j++s).map enc) b mn en (by have:=HP.o;simp;omega) (by simp;omega) (by simp;omega) (by intro h;have:=congrArg aeA h;simp only[aeB,Yv,aeC]at this;omega) (by intro h;have:=congrArg aeA h;simp only[aeB,adO,aeC]at this;omega) g N cap _ _ (by have:=hD.lies;simpa only[aev,laa]using this) (by rw[hD.len];simp only[aaN,aeB]) hD.small (by
        intro z hz;simp only[<-aev]at hz;obtain⟨a,ha,rfl⟩:=List.mem_map.1 hz
        exact hD.two a (hD.ok a ha))).mono ?_
       rintro z w3 ⟨rfl,ht3,hl3⟩
       have HR1:Yf (ax [g] w w3/\Data enc c K (Ym (Y2 ca)) g N w3 (p++(u.take i++v.take j)++(u.drop i++v.drop j++s))):=⟨HW.o.1.trans ht3 (fun _ h=> .inl h),by
        refine hD.next ht3 (by simpa only[aev,laa]using hl3) ?_;simp only[laa];refine List.Perm.append_left _ (List.Perm.append_left _ ?_);simp only[<-laa]
        exact(List.perm_append_comm.append_right _).append_right _⟩
       go_wp2_with fail;go_meet;exact HR1
     have t1:(decide (b<mn)&&decide (mn<en))=false:=by rw[<-aeD];simpa using hr
     have HR1:Yf (ax [g] w wr/\Data enc c K (Ym (Y2 ca)) g N wr (p++(u.take i++v.take j)++(u.drop i++v.drop j++s))):=⟨HW.o.1,by
      have hD:=HW.o.2
      have he:u++v=u.take i++v.take j++(u.drop i++v.drop j):=by
       rcases(show u.length<=i\/j=0 by omega)with h|h
       · rw[acU h,aer h,YK,laa,aej]
       subst h;simp only[List.take_zero,List.drop_zero,aaK];rw[<-laa,aej]
      rw[he]at hD
      simpa only[laa]using hD⟩
     go_wp2_with fail;go_meet;exact HR1
    case rest=>
     have HR1:=hcut
     go_upto_region 41 with fail
     go_cut[199]from 192 (fun Wo wd=>Wo=.bool (decide (an<b)&&decide (b<md))/\wc=wd)
     case first=>
      by_cases hr:an<b
      · have t1:decide (an<b)=true:=decide_eq_true hr;go_wp2_with fail;go_meet;exact⟨by simp[t1],rfl⟩
      have t1:decide (an<b)=false:=decide_eq_false hr;go_wp2_with fail;go_meet;exact⟨by simp[t1],rfl⟩
     case rest=>
      obtain⟨rfl,rfl⟩:=hcut
      go_upto_if 199 with fail
      go_cut[]from 192 (fun we=>∃x,Yf (dR (ed c) x/\eP (ed c) (u.take i++v.take j) x/\ax [g] w we/\Data enc c K (Ym (Y2 ca)) g N we (p++x++(u.drop i++v.drop j)++s)))
      case first=>
       have HFA:=hd HF.o.ar;have hFi:=HF.o.iu;have hFj:=HF.o.jv;by_cases hr:an<b/\b<md
       · have t1:(decide (an<b)&&decide (b<md))=true:=by simp[hr.1,hr.2]
         go_wp2_with fail;have hF:=HFA.o;refine(IH.o p (u.take i) (v.take j) (u.drop i++v.drop j++s) an b md HP.o (by simp;omega) (by simp;omega) (by simp;omega) (by simp;omega) (by simp;omega) (HU.o.take _) (HV.o.take _) _ HR1.o.2).mono ?_;rintro z w4 ⟨rfl,ht4,x,hx1,hx2,hx3⟩
         have HX3:Yf (dR (ed c) x/\eP (ed c) (u.take i++v.take j) x/\ax [g] w w4/\Data enc c K (Ym (Y2 ca)) g N w4 (p++x++(u.drop i++v.drop j)++s)):=⟨hx1,hx2,HR1.o.1.trans ht4 (fun _ h=> .inl h),by
          refine HR1.o.2.next ht4 (by simpa only[laa]using hx3) ?_;simp only[laa];refine List.Perm.append_left _ ?_;have:=hx2.perm.append_right (u.drop i++(v.drop j++s))
          simpa only[laa]using this⟩
         go_wp2_with fail;go_meet;exact⟨x,HX3⟩
       have t1:(decide (an<b)&&decide (b<md))=false:=by rw[<-aeD];simpa using hr
       have HX3:Yf (dR (ed c) (u.take i++v.take j)/\eP (ed c) (u.take i++v.take j) (u.take i++v.take j)/\ax [g] w wc/\Data enc c K (Ym (Y2 ca)) g N wc (p++(u.take i++v.take j)++(u.drop i++v.drop j)++s)):=by
        have hF:=HFA.o;refine⟨?_,eP.refl _ _,HR1.o.1,?_⟩
        · rcases(show i=0\/j=0 by omega)with h|h
          · subst h;simpa using HV.o.take j
          subst h;simpa using HU.o.take i
        have:=HR1.o.2;simpa only[laa]using this
       go_wp2_with fail;go_meet;exact⟨_,HX3⟩
      case rest=>
       obtain⟨x,HX3⟩:=hcut
       go_upto_region 43 with fail
       go_cut[213]from 206 (fun Xb wf=>Xb=.bool (decide (md<en)&&decide (en<bn))/\wc=wf)
       case first=>
        by_cases hr:md<en
        · have t1:decide (md<en)=true:=decide_eq_true hr;go_wp2_with fail;go_meet;exact⟨by simp[t1],rfl⟩
        have t1:decide (md<en)=false:=decide_eq_false hr;go_wp2_with fail;go_meet;exact⟨by simp[t1],rfl⟩
       case rest=>
        obtain⟨rfl,rfl⟩:=hcut;have HFA:=hd HF.o.ar;have hFi:=HF.o.iu;have hFj:=HF.o.jv;by_cases hr:md<en/\en<bn
        · have t1:(decide (md<en)&&decide (en<bn))=true:=by simp[hr.1,hr.2]
          go_wp2_with fail;have hF:=HFA.o;obtain⟨hx1,hx2,hx3,hx4⟩:=HX3.o;refine(IH.o (p++x) (u.drop i) (v.drop j) s md en bn (by have h1:=hx2.len;have h2:=HP.o;simp at h1⊢;omega) (by simp;omega) (by simp;omega) (by simp;omega) (by simp;omega) (by simp;omega) (HU.o.drop _) (HV.o.drop _) _ hx4).mono ?_;rintro z w5 ⟨rfl,ht5,y,hy1,hy2,hy3⟩;have HM5:=hd (merged HO.o HU.o HV.o HF.o.iu HF.o.jv HF.o.A HF.o.B hx1 hx2 hy1 hy2);have HL5:Yf (ax [g] w w5/\dB 195 w5 g ((p++(x++y)++s).map enc)):=⟨hx3.trans ht5 (fun _ h=> .inl h),by simpa only[laa]using hy3⟩;go_wp2_with fail
          go_end0
          exact⟨rfl,HL5.o.1,_,HM5.o.1,HM5.o.2,HL5.o.2⟩
        have t1:(decide (md<en)&&decide (en<bn))=false:=by rw[<-aeD];simpa using hr
        have HM5:Yf (dR (ed c) (x++(u.drop i++v.drop j))/\eP (ed c) (u++v) (x++(u.drop i++v.drop j))):=by
         obtain⟨hx1,hx2,hx3,hx4⟩:=HX3.o;have hF:=HFA.o;refine merged HO.o HU.o HV.o HF.o.iu HF.o.jv HF.o.A HF.o.B hx1 hx2 ?_ (eP.refl _ _);rcases(show u.length<=i\/v.length<=j by omega)with h|h
         · rw[aer h];exact HV.o.drop _
         rw[aer h,aaK];exact HU.o.drop _
        go_wp2_with fail
        go_end0
        exact⟨rfl,HX3.o.2.2.1,_,HM5.o.1,HM5.o.2,by have:=HX3.o.2.2.2.lies;simpa only[laa]using this⟩
end So
end
section
namespace So
open Bt
variable {α:Type}
theorem Jz{l:List α}(h:l.length=1):∃e,l=[e]:=by
 match l,h with
 |[e],_=>exact⟨e,rfl⟩
theorem KM(enc:α->Y3×Y3)(c:α->α->Int)(K:α->Prop)(o:sM (ed c))(g N cap:Nat)(ca:abR):∀n,Ef enc c K g N cap ca n:=by
 intro n
 induction n with
 |zero=>intro p u v s an mn bn _ _ _ _ _ h;omega
 |succ n ih=>
  intro p u v s an mn bn hP hm hb hu0 hv0 hn hu hv w hD;by_cases h1:u.length=1
  · obtain⟨e,rfl⟩:=Jz h1;exact Gt enc c K o p v s e an mn bn hP (by simpa using hm) hb hv0 hv g N cap ca w hD
  by_cases h2:v.length=1
  · obtain⟨e,rfl⟩:=Jz h2;exact Iz enc c K o p u s e an mn bn hP hm (by simpa using hb) (by omega) hu g N cap ca w hD
  exact Jj enc c K o p u v s an mn bn hP hm hb (by omega) (by omega) hu hv g N cap ca w hD (fun p' u' v' s' an' mn' bn' a1 a2 a3 a4 a5 a6=>ih p' u' v' s' an' mn' bn' a1 a2 a3 a4 a5 (by omega))
theorem parts(l:List α)(a n m:Nat):l=l.take a++((l.drop a).take n++(l.drop (a+n)).take m)++l.drop (a+n+m):=by
 have h1:(l.drop (a+n)).take m++l.drop (a+n+m)=l.drop (a+n):=by
  rw[show l.drop (a+n+m)=(l.drop (a+n)).drop m by rw[Yx]];exact aej _ _
 have h2:(l.drop a).take n++l.drop (a+n)=l.drop a:=by
  rw[<-Yx];exact aej _ _
 rw[laa,laa,h1,h2,aej]
theorem DX(l:List α)(a n:Nat):l=l.take a++(l.drop a).take n++l.drop (a+n):=by
 have h2:(l.drop a).take n++l.drop (a+n)=l.drop a:=by
  rw[<-Yx];exact aej _ _
 rw[laa,h2,aej]
theorem take_at(P X S:List α)(n:Nat)(h:n=P.length+X.length):(P++X++S).take n=P++X:=by
 rw[h,<-aaN,List.take_left']
 rfl
theorem Nj(P X S:List α)(n:Nat)(h:n=P.length+X.length):(P++X++S).drop n=S:=by
 rw[h,<-aaN,List.drop_left']
 rfl
theorem NZ{lt:α->α->Bool}{l0 l X:List α}(hb:0<bs)(hs:eP lt l0 l)(hB:BS lt bs (l.take (bs*k)))(hl:bs*k+bs<=l.length)(hX:dR lt X)(sX:eP lt ((l.drop (bs*k)).take bs) X):
   eP lt l0 (l.take (bs*k)++X++l.drop (bs*k+bs))/\BS lt bs ((l.take (bs*k)++X++l.drop (bs*k+bs)).take (bs*(k+1))):=by
 have hlen:X.length=bs:=by rw[sX.len,adO,Yv];omega
 constructor
 · refine hs.trans ?_
   conv=>lhs;rw[DX l (bs*k) bs]
   exact((eP.refl _ _).app sX).app (eP.refl _ _)
 rw[take_at _ _ _ _ (by rw[adO,hlen,aeE];omega)];exact hB.app (k:=k) hb (by rw[adO];omega) hX (by omega)
theorem Pm{lt:α->α->Bool}{l0 l X:List α}(hb:0<bs)(hs:eP lt l0 l)(hB:BS lt bs (l.take (bs*k)))(h1:bs*k<=l.length)(hl:l.length<bs*k+bs)(hX:dR lt X)(sX:eP lt (l.drop (bs*k)) X):
   eP lt l0 (l.take (bs*k)++X)/\BS lt bs (l.take (bs*k)++X):=by
 have hlen:X.length=l.length-bs*k:=by rw[sX.len,Yv]
 constructor
 · refine hs.trans ?_
   conv=>lhs;rw[<-aej (bs*k) l]
   exact(eP.refl _ _).app sX
 exact hB.app (k:=k) hb (by rw[adO];omega) hX (by omega)
theorem Pn{lt:α->α->Bool}{l0 l X:List α}(hb:0<bs)(hs:eP lt l0 l)(hB:BS lt (2*bs) (l.take (2*bs*k)))(hR:BS lt bs (l.drop (2*bs*k)))(hl:2*bs*k+bs+bs<=l.length)(hX:dR lt X)(sX:eP lt ((l.drop (2*bs*k)).take bs++(l.drop (2*bs*k+bs)).take bs) X):
   eP lt l0 (l.take (2*bs*k)++X++l.drop (2*bs*k+bs+bs))/\BS lt (2*bs) ((l.take (2*bs*k)++X++l.drop (2*bs*k+bs+bs)).take (2*bs*(k+1)))/\BS lt bs ((l.take (2*bs*k)++X++l.drop (2*bs*k+bs+bs)).drop (2*bs*(k+1))):=by
 have hlen:X.length=bs+bs:=by rw[sX.len];simp only[aaN,adO,Yv];omega
 have hk:2*bs*(k+1)=2*bs*k+2*bs:=aeE _ _;refine⟨?_,?_,?_⟩
 · refine hs.trans ?_
   conv=>lhs;rw[parts l (2*bs*k) bs bs]
   exact((eP.refl _ _).app sX).app (eP.refl _ _)
 · rw[take_at _ _ _ _ (by rw[adO,hlen];omega)];exact hB.app (k:=k) (by omega) (by rw[adO];omega) hX (by omega)
 rw[Nj _ _ _ _ (by rw[adO,hlen];omega)];have:=(hR.drop hb).drop hb
 rwa [Yx,Yx,<-YT]at this
theorem Ph{lt:α->α->Bool}{l0 l X:List α}(hb:0<bs)(hs:eP lt l0 l)(hB:BS lt (2*bs) (l.take (2*bs*k)))(h1:2*bs*k+bs<l.length)(hl:l.length<2*bs*k+2*bs)(hX:dR lt X)(sX:eP lt ((l.drop (2*bs*k)).take bs++l.drop (2*bs*k+bs)) X):
   eP lt l0 (l.take (2*bs*k)++X)/\BS lt (2*bs) (l.take (2*bs*k)++X):=by
 have hlen:X.length=l.length-2*bs*k:=by rw[sX.len];simp only[aaN,adO,Yv];omega
 constructor
 · refine hs.trans ?_
   conv=>lhs;rw[DX l (2*bs*k) bs,laa]
   exact(eP.refl _ _).app sX
 exact hB.app (k:=k) (by omega) (by rw[adO];omega) hX (by omega)
theorem Ni{lt:α->α->Bool}{l:List α}(hb:0<bs)(hB:BS lt (2*bs) (l.take (2*bs*k)))(hR:BS lt bs (l.drop (2*bs*k)))(h1:2*bs*k<=l.length)(hl:l.length<=2*bs*k+bs):BS lt (2*bs) l:=by
 have:=hB.app (by omega) (k:=k) (by rw[adO];omega) (hR.Ws (by rw[Yv];omega)) (by rw[Yv];omega)
 rwa [aej]at this
end So
end
section
namespace So
open Bt
variable {α:Type}
def Now(enc:α->Y3×Y3)(c:α->α->Int)(K:α->Prop)(cb:Y3)(g N:Nat)(w:Y4)(l0:List α)(Q:List α->Prop)(wr:Y4):Prop:=
 ∃l,ax [g] w wr/\Data enc c K cb g N wr l/\eP (ed c) l0 l/\Q l
theorem Hm(enc:α->Y3×Y3)(c:α->α->Int)(K:α->Prop)(o:sM (ed c))(g N cap:Nat)(ca:abR)(w:Y4)(l0:List α)(hD:Data enc c K (Ym (Y2 ca)) g N w l0):
   aaT Zc 159 #[Yp (Y2 ⟨g,0,Y1⟩) N cap,Yg Yh N,.func (.func 95) #[] #[Ym (Y2 ca)]] w fun e w'=>e=Yl (Yn #[])/\ax [g] w w'/\∃x,dR (ed c) x/\eP (ed c) l0 x/\Data enc c K (Ym (Y2 ca)) g N w' x:=by
 have HO:=hd o;have hNs:=hD.small;have HST:Yf (Now enc c K (Ym (Y2 ca)) g N w l0 (fun l=>BS (ed c) 20 (l.take (20*0))) w):=⟨l0,ax.refl _ _,hD,eP.refl _ _,by simpa using BS.nil _ _⟩;have HM:=hd (KM enc c K o g N cap ca);clear hD o;go_enter aeF,aeG;go_wp2_with fail;go_loopw [7,8] (fun a b wr=>∃k an bn:Nat,a=Yg Yh an/\b=Yg Yh bn/\Yf (an=20*k/\bn=an+20)/\an<=N/\bn<=N+20/\Yf (Now enc c K (Ym (Y2 ca)) g N w l0 (fun l=>BS (ed c) 20 (l.take (20*k))) wr)) (fun a _ _=>N+1-(aeJ a).toNat)
 case atStart=>exact⟨0,0,20,rfl,rfl,⟨rfl,rfl⟩,by omega,by omega,HST⟩
 case round=>
  obtain⟨k,an,bn,rfl,rfl,HA,haN,hbN,HW⟩:=hrel;by_cases hlt:bn<=N
  · have hli:(bn:Int)<=(N:Int):=by omega
    go_wp2_with fail;obtain⟨l,ht,hD,hs,hq⟩:=HW.o;have hA:=HA.o;have hlen:=hD.len;have he:=DX l an 20;have hD':=hD;rw[he]at hD';refine(qD enc c K HO.o (l.take an) ((l.drop an).take 20) (l.drop (an+20)) an bn (by rw[adO];omega) (by rw[adO,Yv];omega) g N cap (Ym (Y2 ca)) _ ⟨_,rfl⟩ hD'.lies hD'.len hD'.small hD'.ok hD'.two hD'.cmp).mono ?_;rintro x w1 ⟨rfl,ht1,y,hy1,hy2,hy3⟩
    have HW1:Yf (Now enc c K (Ym (Y2 ca)) g N w l0 (fun l=>BS (ed c) 20 (l.take (20*(k+1)))) w1):=by
     rw[hA.1]at hy2 hy3 he hD';have hst:=NZ (bs:=20) (by omega) hs hq (by omega) hy1 hy2;exact⟨_,ht.trans ht1 (fun _ h=> .inl h),hD'.next ht1 hy3 (((hy2.perm.append_left _)).append_right _),hst.1,hst.2⟩
    have HA1:Yf (bn=20*(k+1)):=by show _=_;omega
    have hgt:an<bn:=by omega
    clear ht hD hs hq hlen he hD' ht1 hy1 hy2 hy3 HW hA HA;go_wp2_with fail;go_roundw
    case rel=>exact⟨k+1,bn,bn+20,rfl,by go_num,⟨HA1.o,rfl⟩,hlt,by omega,HW1⟩
    case measure=>simp[aeJ];omega
  have hli:¬(bn:Int)<=(N:Int):=by omega
  go_wp2_with fail;obtain⟨l,ht,hD,hs,hq⟩:=HW.o;have hA:=HA.o;have hlen:=hD.len;have hD':=hD;rw[<-aej an l]at hD';refine(qD enc c K HO.o (l.take an) (l.drop an) [] an N (by rw[adO];omega) (by rw[Yv];omega) g N cap (Ym (Y2 ca)) _ ⟨_,rfl⟩ (by simpa using hD'.lies) (by simpa using hD'.len) hD'.small (by simpa using hD'.ok) hD'.two hD'.cmp).mono ?_;rintro x w1 ⟨rfl,ht1,y,hy1,hy2,hy3⟩
  have HW1:Yf (Now enc c K (Ym (Y2 ca)) g N w l0 (fun l=>BS (ed c) 20 l) w1):=by
   rw[hA.1]at hy2 hy3 hD';have hst:=Pm (bs:=20) (by omega) hs hq (by omega) (by omega) hy1 hy2;exact⟨_,ht.trans ht1 (fun _ h=> .inl h),hD'.next ht1 (by simpa using hy3) (hy2.perm.append_left _),hst.1,hst.2⟩
  clear ht hD hs hq hlen hD' ht1 hy1 hy2 hy3 HW hA HA HST hlt hli haN hbN;go_wp2_with fail;go_loopw [6] (fun b wr=>∃bs:Nat,b=Yg Yh bs/\20<=bs/\bs<=2*N+20/\Yf (Now enc c K (Ym (Y2 ca)) g N w l0 (fun l=>BS (ed c) bs l) wr)) (fun b _=>2*N+21-(aeJ b).toNat)
  case atStart=>exact⟨20,rfl,by omega,by omega,HW1⟩
  case round=>
   obtain⟨bs,rfl,hb1,hb2,HW⟩:=hrel;by_cases hlt:bs<N
   · obtain⟨bs2,Vz⟩:∃bs2,bs2=2*bs:=⟨_,rfl⟩
     have e2:(2:Int)*(bs:Int)=(bs2:Int):=by omega
     have e3:(bs:Int)*2=(bs2:Int):=by omega
     have HB2:=hd Vz
     have hb2N:bs2<2*N:=by omega
     have hb2b:bs<bs2:=by omega
     clear Vz
     have XD:Yf (Now enc c K (Ym (Y2 ca)) g N w l0 (fun l=>BS (ed c) (2*bs) (l.take (2*bs*0))/\BS (ed c) bs (l.drop (2*bs*0))) wr):=by
      obtain⟨l,h1,h2,h3,h4⟩:=HW.o;exact⟨l,h1,h2,h3,by simpa using BS.nil _ _,by simpa using h4⟩
     clear HW;go_wp2_with fail;go_loopw [7,8] (fun a b wr=>∃k an bn:Nat,a=Yg Yh an/\b=Yg Yh bn/\Yf (an=2*bs*k/\bn=an+bs2)/\an<=N/\bn<=3*N/\Yf (Now enc c K (Ym (Y2 ca)) g N w l0 (fun l=>BS (ed c) (2*bs) (l.take (2*bs*k))/\BS (ed c) bs (l.drop (2*bs*k))) wr)) (fun a _ _=>N+1-(aeJ a).toNat)
     case atStart=>exact⟨0,0,bs2,rfl,rfl,⟨rfl,by omega⟩,by omega,by omega,XD⟩
     case round=>
      obtain⟨k,an,bn,rfl,rfl,HA,haN,hbN,HW⟩:=hrel;obtain⟨mn,hmn⟩:∃mn,mn=an+bs:=⟨_,rfl⟩
      have e1:(an:Int)+(bs:Int)=(mn:Int):=by omega
      have HMN:=hd hmn
      have hmN:mn<=2*N:=by omega
      clear hmn;by_cases hle:bn<=N
      · have hli:(bn:Int)<=(N:Int):=by omega
        go_wp2_with fail;obtain⟨l,ht,hD,hs,hq1,hq2⟩:=HW.o;have hA:=HA.o;have hmn:=HMN.o;have hbb:=HB2.o;have hlen:=hD.len;have he:=parts l an bs bs;have hD':=hD;rw[he]at hD'
        have hu:dR (ed c) ((l.drop an).take bs):=by rw[hA.1];exact hq2.take
        have hv:dR (ed c) ((l.drop (an+bs)).take bs):=by
         have:=(hq2.drop (by omega)).take
         rwa [Yx,<-hA.1]at this
        refine(HM.o (N+1) (l.take an) ((l.drop an).take bs) ((l.drop (an+bs)).take bs) (l.drop (an+bs+bs)) an mn bn (by rw[adO];omega) (by rw[adO,Yv];omega) (by rw[adO,Yv];omega) (by rw[adO,Yv];omega) (by rw[adO,Yv];omega) (by rw[adO,Yv,adO,Yv];omega) hu hv _ hD').mono ?_;rintro x w1 ⟨rfl,ht1,y,hy1,hy2,hy3⟩
        have HW1:Yf (Now enc c K (Ym (Y2 ca)) g N w l0 (fun l=>BS (ed c) (2*bs) (l.take (2*bs*(k+1)))/\BS (ed c) bs (l.drop (2*bs*(k+1)))) w1):=by
         rw[hA.1]at hy2 hy3 he hD';have hst:=Pn (bs:=bs) (by omega) hs hq1 hq2 (by omega) hy1 hy2;exact⟨_,ht.trans ht1 (fun _ h=> .inl h),hD'.next ht1 hy3 (((hy2.perm.append_left _)).append_right _),hst.1,hst.2⟩
        have HA1:Yf (bn=2*bs*(k+1)):=by show _=_;rw[aeE];omega
        have hgt:an<bn:=by omega
        have Wi:bn+bs2<=3*N:=by omega
        clear ht hD hs hq1 hq2 hlen he hD' ht1 hy1 hy2 hy3 HW hA HA hu hv hmn hbb;go_wp2_with fail;go_roundw
        case rel=>exact⟨k+1,bn,bn+bs2,rfl,by go_num,⟨HA1.o,rfl⟩,hle,Wi,HW1⟩
        case measure=>simp[aeJ];omega
      have hli:¬(bn:Int)<=(N:Int):=by omega
      by_cases hml:mn<N
      · have hmi:(mn:Int)<(N:Int):=by omega
        go_wp2_with fail;obtain⟨l,ht,hD,hs,hq1,hq2⟩:=HW.o;have hA:=HA.o;have hmn:=HMN.o;have hbb:=HB2.o;have hlen:=hD.len
        have he:l=l.take an++((l.drop an).take bs++l.drop (an+bs))++[]:=by
         rw[aaK,<-laa];exact DX l an bs
        have hD':=hD;rw[he]at hD'
        have hu:dR (ed c) ((l.drop an).take bs):=by rw[hA.1];exact hq2.take
        have hv:dR (ed c) (l.drop (an+bs)):=by
         have:=(hq2.drop (by omega)).Ws (by rw[Yx,Yv];omega)
         rwa [Yx,<-hA.1]at this
        refine(HM.o (N+1) (l.take an) ((l.drop an).take bs) (l.drop (an+bs)) [] an mn N (by rw[adO];omega) (by rw[adO,Yv];omega) (by rw[Yv];omega) (by rw[adO,Yv];omega) (by rw[Yv];omega) (by rw[adO,Yv,Yv];omega) hu hv _ hD').mono ?_;rintro x w1 ⟨rfl,ht1,y,hy1,hy2,hy3⟩
        have HW1:Yf (Now enc c K (Ym (Y2 ca)) g N w l0 (fun l=>BS (ed c) bs2 l) w1):=by
         rw[hA.1]at hy2 hy3 hD';have hst:=Ph (bs:=bs) (by omega) hs hq1 (by omega) (by omega) hy1 hy2;rw[hbb];exact⟨_,ht.trans ht1 (fun _ h=> .inl h),hD'.next ht1 (by simpa using hy3) (by simpa using hy2.perm.append_left _),hst.1,hst.2⟩
        clear ht hD hs hq1 hq2 hlen he hD' ht1 hy1 hy2 hy3 HW hA HA hu hv hmn hbb;go_wp2_with fail;go_roundw
        case rel=>exact⟨bs2,rfl,by omega,by omega,HW1⟩
        case measure=>simp[aeJ];omega
      have hmi:¬(mn:Int)<(N:Int):=by omega
      have HW1:Yf (Now enc c K (Ym (Y2 ca)) g N w l0 (fun l=>BS (ed c) bs2 l) wr):=by
       obtain⟨l,ht,hD,hs,hq1,hq2⟩:=HW.o;have hA:=HA.o;have hmn:=HMN.o;have hlen:=hD.len;rw[HB2.o];exact⟨l,ht,hD,hs,Ni (by omega) hq1 hq2 (by omega) (by omega)⟩
      go_wp2_with fail;go_roundw
      case rel=>exact⟨bs2,rfl,by omega,by omega,HW1⟩
      case measure=>simp[aeJ];omega
   go_wp2_with fail
   go_end0
   obtain⟨l,h1,h2,h3,h4⟩:=HW.o;exact⟨rfl,h1,l,h4.Ws (by rw[<-h2.len];omega),h3,h2⟩
end So
end
section
namespace So
open Bt
variable {α:Type}
theorem Qa(enc:α->Y3×Y3)(c:α->α->Int)(K:α->Prop)(o:sM (ed c))(g N cap:Nat)(ca:abR)(w:Y4)(l0:List α)(hD:Data enc c K (Ym (Y2 ca)) g N w l0):
   aaT Zc 94 #[Yp (Y2 ⟨g,0,Y1⟩) N cap,.func (.func 95) #[] #[Ym (Y2 ca)]] w fun e w'=>e=Yl (Yn #[])/\ax [g] w w'/\∃x,dR (ed c) x/\eP (ed c) l0 x/\Data enc c K (Ym (Y2 ca)) g N w' x:=by
 have HS:=hd (Hm enc c K o g N cap ca w l0 hD);have hNs:=hD.small;clear hD;go_enter aeH,aeI;go_wp2_with fail;refine HS.o.mono ?_;rintro x w1 ⟨rfl,h⟩;have H:=hd h;clear h;go_wp2_with fail
 go_end0
 exact⟨rfl,H.o⟩
theorem Ac(fv:Y3)(w:Y4):aaT Zc 214 #[Yp Y1 0 0,Yg Yh 0,Yg Yh 0,fv] w fun e w'=>e=Yl (Yn #[])/\w'=w:=by
 go_enter aet,aeu;go_wp2_with fail;go_loopw [8] (fun i wr=>i=Yg Yh 1/\wr=w) (fun _ _=>0)
 case atStart=>exact⟨rfl,rfl⟩
 case round=>
  obtain⟨rfl,rfl⟩:=hrel;go_wp2_with fail
  go_end0
  exact⟨rfl,rfl⟩
theorem G8(fv:Y3)(w:Y4):aaT Zc 159 #[Yp Y1 0 0,Yg Yh 0,fv] w fun e w'=>e=Yl (Yn #[])/\w'=w:=by
 go_enter aeF,aeG;go_wp2_with fail;go_loopw [7,8] (fun a b wr=>a=Yg Yh 0/\b=Yg Yh 20/\wr=w) (fun _ _ _=>0)
 case atStart=>exact⟨rfl,rfl,rfl⟩
 case round=>
  obtain⟨rfl,rfl,rfl⟩:=hrel;go_wp2_with fail;refine(Ac _ _).mono ?_;rintro x w1 ⟨rfl,rfl⟩;go_wp2_with fail;go_loopw [6] (fun b w'=>b=Yg Yh 20/\w'=w1) (fun _ _=>0)
  case atStart=>exact⟨rfl,rfl⟩
  case round=>
   obtain⟨rfl,rfl⟩:=hrel;go_wp2_with fail
   go_end0
   exact⟨rfl,rfl⟩
theorem M6(fv:Y3)(w:Y4):aaT Zc 94 #[Yp Y1 0 0,fv] w fun e w'=>e=Yl (Yn #[])/\w'=w:=by
 go_enter aeH,aeI;go_wp2_with fail;refine(G8 _ _).mono ?_;rintro x w1 ⟨rfl,rfl⟩;go_wp2_with fail
 go_end0
 exact⟨rfl,rfl⟩
end So
end
end Go.Proofs.YthhhfcdakfbpkaaGreatDoor
