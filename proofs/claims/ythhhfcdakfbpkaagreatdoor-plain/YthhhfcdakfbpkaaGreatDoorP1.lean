/- Parts of the proof -/
import GoSem.Claim
import Derived.Test.YthhhfcdakfbpkaaGreatDoorRows
import Derived.WalkKit
import Derived.WalkSpells
import Derived.WalkLawsBesides
import Derived.Deep.Light
import Derived.Lib.Strings
import Derived.Lib.IndexBytes
import Derived.Laws.IdiomStrings
import Derived.BigQuiet
import Derived.Deep.QuietTactic
import Derived.Handy
import Derived.Lib.DecodeN
import Derived.Lib.RuneBytes
namespace Go.Proofs.YthhhfcdakfbpkaaGreatDoor
set_option linter.unusedSimpArgs false
set_option linter.unusedVariables false
set_option maxRecDepth 100000
set_option maxHeartbeats 16000000
open Go.RowKit
theorem laa{α:Type}(a b c:List α):a++b++c=a++(b++c):=List.append_assoc a b c
theorem nlr(n:Nat):n<=n:=Nat.le_refl n
theorem siA{α:Type}(l:List α)(i:Nat)(a:α):l.toArray.setIfInBounds i a=(l.set i a).toArray:=List.setIfInBounds_toArray l i a
theorem szA{α:Type}{x y:α}{l:List α}:(x::l).set 0 y=y::l:=rfl
theorem ssA{α:Type}{x y:α}{l:List α}{n:Nat}:(x::l).set (n+1) y=x::l.set n y:=rfl
theorem nlA{a b c:Nat}:a<b->b<=c->a<c:=Nat.lt_of_lt_of_le
theorem geA{α:Type}{xs:Array α}{i:Nat}{b:α}:xs[i]? =some b↔∃h:i<xs.size,xs[i]=b:=Array.getElem?_eq_some_iff
variable {b d e k m n sz:Nat}{w:World}{cs:Array Value}{t:TypeId}
namespace Lx
abbrev Bs:=List UInt8
def aH(b:UInt8):Bool:=decide (48<=b.toNat/\b.toNat<=57)
def isLet(b:UInt8):Bool:=decide ((97<=b.toNat/\b.toNat<=122)\/(65<=b.toNat/\b.toNat<=90)\/b.toNat=95)
def isSp(b:UInt8):Bool:=decide (b.toNat=9\/b.toNat=10\/b.toNat=13\/b.toNat=32)
def dn(b:UInt8):Bool:=aH b||isLet b
def fo(b:UInt8):Bool:=decide (b.toNat≠10)
def cnt(p:UInt8->Bool):Bs->Nat
 |[]=>0
 |b::r=>if p b then cnt p r+1 else 0
theorem qh(p:UInt8->Bool):∀l:Bs,cnt p l<=l.length
 |[]=>by simp[cnt]
 |b::r=>by
  have:=qh p r;unfold cnt;split<;>simp<;>omega
def skipM:Bool->Bs->Nat
 |_,[]=>0
 |true,b::r=>if fo b then 1+skipM true r else 1+skipM false r
 |false,b::r=>if b.toNat=45/\r.head? =some 45 then 1+skipM true r else if isSp b then 1+skipM false r else 0
def bJ(l:Bs):Nat:=skipM false l
def folB(l:Bs)(i lo hi:Nat):Bool:=
 match l[i]? with
 |some b=>decide (lo<=b.toNat/\b.toNat<=hi)
 |none=>false
def jC(b:Nat):Nat:=if b=224 then 160 else if b=240 then 144 else 128
def lZ(b:Nat):Nat:=if b=237 then 159 else if b=244 then 143 else 191
def aD(l:Bs):Nat:=
 match l with
 |[]=>0
 |b::_=>
  if b.toNat<128 then 1
  else if(194<=b.toNat/\b.toNat<=223)/\folB l 1 128 191=true then 2
  else if(224<=b.toNat/\b.toNat<=239)/\folB l 1 (jC b.toNat) (lZ b.toNat)=true/\folB l 2 128 191=true then 3
  else if(240<=b.toNat/\b.toNat<=244)/\folB l 1 (jC b.toNat) (lZ b.toNat)=true/\folB l 2 128 191=true/\folB l 3 128 191=true then 4
  else 0
def validM:Nat->Bs->Bool
 |_,[]=>true
 |n+1,_::r=>validM n r
 |0,b::r=>if aD (b::r)=0\/b.toNat=0 then false else validM (aD (b::r)-1) r
def bH(l:Bs):Bool:=validM 0 l
def betw(m:UInt8):Bs->Option (Bs×Nat)
 |[]=>none
 |[b]=>if b=m then some ([],1)else none
 |b::c::r=>
  if b=m then
    if c=m then(betw m r).map (fun x=>(m::x.1,x.2+2))else some ([],1)
  else(betw m (c::r)).map (fun x=>(b::x.1,x.2+1))
def leastB:Bs->Bs
 |b::c::r=>if b.toNat=48 then leastB (c::r)else b::c::r
 |l=>l
def top:Bs:=[57,50,50,51,51,55,50,48,51,54,56,53,52,55,55,53,56,48,56]
def dR(t:Bs):Bool:=decide (19<t.length)||(decide (t.length=19)&&(!Op.bytesLess t top&& !(t==top)))
def LJ(b:UInt8):UInt8:=if 97<=b.toNat/\b.toNat<=122 then b-32 else b
def yQ(b:UInt8):UInt8:=if 65<=b.toNat/\b.toNat<=90 then b+32 else b
def keys:List Bs:=[[65,78,68],[65,83,67],[66,79,79,76,69,65,78],[66,89],[67,82,69,65,84,69],[68,69,76,69,84,69],[68,69,83,67],[68,82,79,80],[70,65,76,83,69],[70,82,79,77],[73,78,83,69,82,84],[73,78,84,69,71,69,82],[73,78,84,79],[73,83],[76,73,77,73,84],[78,79,84],[78,85,76,76],[79,82],[79,82,68,69,82],[83,69,76,69,67,84],[83,69,84],[84,65,66,76,69],[84,69,88,84],[84,82,85,69],[85,80,68,65,84,69],[86,65,76,85,69,83],[87,72,69,82,69]]
def De:List Bs:=[[60,62],[60,61],[62,61],[124,124]]
def ones:List Bs:=[[40],[41],[44],[59],[42],[43],[45],[47],[37],[61],[60],[62]]
def hasB:List Bs->Bs->Bool
 |[],_=>false
 |a::r,x=>a==x||hasB r x
def oneT(l:Bs):Except Nat (Nat×Bs×Nat):=
 match l with
 |[]=> .error 2
 |b::r=>
  if isLet b then
    if hasB keys ((l.take (cnt dn l)).map LJ)then .ok (50,(l.take (cnt dn l)).map LJ,cnt dn l)else .ok (18,(l.take (cnt dn l)).map yQ,cnt dn l)
  else if aH b then
    if cnt aH l<cnt dn l then .error 2
    else if dR (leastB (l.take (cnt aH l)))then .error 3
    else .ok (16,leastB (l.take (cnt aH l)),cnt aH l)
  else if b.toNat=39\/b.toNat=34 then
    match betw b r with
    |none=> .error 2
    |some (t,n)=>
     if bH t=false\/(b.toNat=34/\t=[])then .error 2
     else .ok (if b.toNat=34 then 18 else 17,t,n+1)
  else if 2<=l.length/\hasB De (l.take 2)=true then .ok (51,l.take 2,2)
  else if hasB ones (l.take 1)=true then .ok (51,l.take 1,1)
  else .error 2
structure Tok where
 kind:Nat
 text:Bs
 pos:Nat
theorem nT{p:UInt8->Bool}{b:UInt8}{r:Bs}(h:p b=true):0<cnt p (b::r):=by
 simp[cnt,h]
def lexM:Nat->Nat->Bs->Except (Nat×Nat) (List Tok)
 |_,_,[]=> .ok []
 |n+1,pos,_::r=>lexM n (pos+1) r
 |0,pos,b::r=>
  match oneT (b::r)with
  |.error e=> .error (pos,e)
  |.ok (k,t,n)=>
   match lexM (n+bJ ((b::r).drop n)-1) (pos+1) r with
   |.ok ts=> .ok (⟨k,t,pos⟩::ts)
   |.error e=> .error e
def lex(l:Bs):Except (Nat×Nat) (List Tok):=
 if 2000<l.length then .error (0,1)else lexM 0 (bJ l) (l.drop (bJ l))
theorem lM:∀(m:Bool) (l:Bs),skipM m l<=l.length
 |_,[]=>by simp[skipM]
 |true,b::r=>by
  have h1:=lM true r;have h2:=lM false r;unfold skipM;split<;>simp<;>omega
 |false,b::r=>by
  have h1:=lM true r;have h2:=lM false r;unfold skipM;split
  · simp;omega
  split<;>simp<;>omega
theorem vD(l:Bs):bJ l<=l.length:=lM false l
theorem gF:∀l:Bs,aD l<=l.length
 |[]=>by simp[aD]
 |b::r=>by
  have f1:∀i lo hi,folB (b::r) i lo hi=true->i<(b::r).length:=by
   intro i lo hi h;unfold folB at h
   split at h
   · rename_i x hx;exact(List.getElem?_eq_some_iff.1 hx).1
   simp at h
  simp only[aD]
  split
  · simp
  split
  · rename_i h;have:=f1 _ _ _ h.2;omega
  split
  · rename_i h;have:=f1 _ _ _ h.2.2;omega
  split
  · rename_i h;have:=f1 _ _ _ h.2.2.2;omega
  omega
theorem qx:∀(n:Nat) (l:Bs),n<=l.length->validM n l=validM 0 (l.drop n)
 |0,l,_=>by simp
 |n+1,[],h=>by simp at h
 |n+1,b::r,h=>by
  simp only[validM,List.drop_succ_cons];exact qx n r (by simpa using h)
theorem kI(b:UInt8)(r:Bs):bH (b::r)=if aD (b::r)=0\/b.toNat=0 then false else bH ((b::r).drop (aD (b::r))):=by
 have hle:=gF (b::r);simp only[bH]
 conv=>lhs;unfold validM
 split
 · rfl
 rename_i h;rw[qx _ _ (by simp at hle;omega)];obtain⟨n,hn⟩:∃n,aD (b::r)=n+1:=⟨aD (b::r)-1,by omega⟩;rw[hn];simp
theorem xB:∀(n pos:Nat) (l:Bs),n<=l.length->lexM n pos l=lexM 0 (pos+n) (l.drop n)
 |0,pos,l,_=>by simp
 |n+1,pos,[],h=>by simp at h
 |n+1,pos,b::r,h=>by
  simp only[lexM,List.drop_succ_cons];rw[xB n (pos+1) r (by simpa using h)]
  congr 1;omega
theorem zx(m:UInt8):∀(l t:Bs) (n:Nat),betw m l=some (t,n)->0<n/\n<=l.length/\t.length<n
 |[],t,n,h=>by simp[betw]at h
 |[b],t,n,h=>by
  simp only[betw]at h
  split at h
  · simp at h;obtain⟨rfl,rfl⟩:=h;simp
  simp at h
 |b::c::r,t,n,h=>by
  unfold betw at h
  split at h
  · split at h
    · simp only[Option.map_eq_some_iff,Prod.exists,Prod.mk.injEq]at h;obtain⟨t',n',h1,rfl,rfl⟩:=h;have:=zx m r t' n' h1;simp;omega
    simp at h;obtain⟨rfl,rfl⟩:=h;simp
  simp only[Option.map_eq_some_iff,Prod.exists,Prod.mk.injEq]at h;obtain⟨t',n',h1,rfl,rfl⟩:=h;have:=zx m (c::r) t' n' h1;simp at this⊢;omega
theorem xy:∀l:Bs,(leastB l).length<=l.length
 |[]=>by simp[leastB]
 |[b]=>by simp[leastB]
 |b::c::r=>by
  have:=xy (c::r);unfold leastB;split
  · simp at this⊢;omega
  simp
theorem iB{l:Bs}{t:Bs}(h:oneT l=.ok (k,t,n)):0<n/\n<=l.length/\t.length<=n:=by
 unfold oneT at h
 split at h
 · simp at h
 rename_i b r;have h1:=qh dn (b::r);have h2:=qh aH (b::r)
 split at h
 · rename_i hl;have:0<cnt dn (b::r):=nT (by simp[dn,hl])
   split at h
   · simp only[Except.ok.injEq,Prod.mk.injEq]at h;obtain⟨-,rfl,rfl⟩:=h;exact⟨this,h1,by simp;omega⟩
   simp only[Except.ok.injEq,Prod.mk.injEq]at h;obtain⟨-,rfl,rfl⟩:=h;exact⟨this,h1,by simp;omega⟩
 split at h
 · rename_i hd;have:0<cnt aH (b::r):=nT hd;have h3:=xy ((b::r).take (cnt aH (b::r)))
   split at h
   · simp at h
   split at h
   · simp at h
   simp only[Except.ok.injEq,Prod.mk.injEq]at h;obtain⟨-,rfl,rfl⟩:=h;refine⟨this,h2,?_⟩;have:=List.length_take_le (cnt aH (b::r)) (b::r);omega
 split at h
 · split at h
   · simp at h
   rename_i t' n' hb;have:=zx _ _ _ _ hb
   split at h
   · simp at h
   simp only[Except.ok.injEq,Prod.mk.injEq]at h;obtain⟨-,rfl,rfl⟩:=h;simp;omega
 split at h
 · rename_i h3;simp only[Except.ok.injEq,Prod.mk.injEq]at h;obtain⟨-,rfl,rfl⟩:=h;exact⟨by omega,h3.1,List.length_take_le _ _⟩
 split at h
 · simp only[Except.ok.injEq,Prod.mk.injEq]at h;obtain⟨-,rfl,rfl⟩:=h;exact⟨by omega,by simp,List.length_take_le _ _⟩
 simp at h
theorem jo(pos:Nat)(b:UInt8)(r:Bs):lexM 0 pos (b::r)=
   match oneT (b::r)with
   |.error e=> .error (pos,e)
   |.ok (k,t,n)=>
    match lexM 0 (pos+n+bJ ((b::r).drop n)) (((b::r).drop n).drop (bJ ((b::r).drop n)))with
    |.ok ts=> .ok (⟨k,t,pos⟩::ts)
    |.error e=> .error e:=by
 conv=>lhs;unfold lexM
 split
 · rfl
 rename_i k t n h;have hl:=iB h;have hs:=vD ((b::r).drop n);simp only[List.length_drop,List.length_cons]at hs hl;rw[xB _ _ _ (by omega)];rw[List.drop_drop]
 have e1:n+bJ ((b::r).drop n)=(n+bJ ((b::r).drop n)-1)+1:=by omega
 rw[show(b::r).drop (n+bJ ((b::r).drop n))=r.drop (n+bJ ((b::r).drop n)-1)from by conv=>lhs;rw[e1];simp];rw[show pos+1+(n+bJ ((b::r).drop n)-1)=pos+n+bJ ((b::r).drop n)from by omega]
end Lx
section
namespace Px
open Lx (Bs Tok)
structure Nd where
 kind:Int
 text:Bs
 num:Int
 kids:Int
abbrev Out(α:Type):=Option (Except (Nat×Nat) (α×List Tok))
def obind{α β:Type}(x:Out α)(f:α->List Tok->Out β):Out β:=
 match x with
 |none=>none
 |some (.error e)=>some (.error e)
 |some (.ok (a,ts))=>f a ts
def plc(sz:Nat):List Tok->Nat
 |[]=>sz
 |t::_=>t.pos
def sees(s:Bs):List Tok->Bool
 |[]=>false
 |t::_=>(decide (t.kind=50)||decide (t.kind=51))&&t.text==s
def must(sz:Nat)(s:Bs)(ts:List Tok):Out Unit:=
 if sees s ts=true then some (.ok ((),ts.tail))else some (.error (plc sz ts,4))
def name(sz:Nat):List Tok->Out Bs
 |[]=>some (.error (sz,4))
 |t::r=>if t.kind≠18 then some (.error (t.pos,4))else if 30<t.text.length then some (.error (t.pos,5))else some (.ok (t.text,r))
def QQ:Bs:=[79,82]
def M3:Bs:=[65,78,68]
def jq:Bs:=[78,79,84]
def Gs:Bs:=[73,83]
def aX:Bs:=[78,85,76,76]
def fB:Bs:=[84,82,85,69]
def dE:Bs:=[70,65,76,83,69]
def kZ:Bs:=[84,65,66,76,69]
def kG:Bs:=[73,78,84,69,71,69,82]
def mI:Bs:=[84,69,88,84]
def iD:Bs:=[66,79,79,76,69,65,78]
def DZ:Bs:=[73,78,84,79]
def rG:Bs:=[86,65,76,85,69,83]
def KH:Bs:=[83,69,84]
def uy:Bs:=[87,72,69,82,69]
def qC:Bs:=[70,82,79,77]
def qf:Bs:=[79,82,68,69,82]
def NQ:Bs:=[66,89]
def Ni:Bs:=[65,83,67]
def Ab:Bs:=[68,69,83,67]
def jc:Bs:=[76,73,77,73,84]
def eP:Bs:=[67,82,69,65,84,69]
def kz:Bs:=[68,82,79,80]
def gz:Bs:=[73,78,83,69,82,84]
def gP:Bs:=[68,69,76,69,84,69]
def iP:Bs:=[85,80,68,65,84,69]
def jK:Bs:=[83,69,76,69,67,84]
def mD:Bs:=[40]
def kE:Bs:=[41]
def iK:Bs:=[44]
def kH:Bs:=[45]
def JA:Bs:=[42]
def QX:Bs:=[61]
def bP:List (Nat×Bs×Nat):=[(1,QQ,23),(2,M3,24),(4,[61],25),(4,[60,62],26),(4,[60],27),(4,[60,61],28),(4,[62],29),(4,[62,61],30),(5,[124,124],31),(6,[43],32),(6,[45],33),(7,[42],34),(7,[47],35),(7,[37],36)]
def opIn:List (Nat×Bs×Nat)->Nat->Bs->Nat
 |[],_,_=>0
 |x::r,l,s=>if x.1=l/\x.2.1=s then x.2.2 else opIn r l s
def oper(l:Nat):List Tok->Nat
 |[]=>0
 |t::_=>if t.kind=50\/t.kind=51 then opIn bP l t.text else 0
def aO(k:Int)(a:List Nd):List Nd:=⟨k,[],0,1⟩::a
def bI(k:Int)(a b:List Nd):List Nd:=⟨k,[],0,2⟩::(a++b)
def leaf(k:Int)(t:Bs)(n:Int):List Nd:=[⟨k,t,n,0⟩]
def iM(s:Bs):Nat:=s.foldl (fun n c=>10*n+(c.toNat-48)) 0
def bot:Int:= -9223372036854775808
def negate(at_:Nat)(a:List Nd)(r:List Tok):Out (List Nd):=
 match a with
 |[]=>some (.ok (aO 19 a,r))
 |x::_=>if x.kind≠16 then some (.ok (aO 19 a,r))else if x.num=bot then some (.error (at_,3))else some (.ok (leaf 16 [] (-x.num),r))
def atom(sz:Nat):List Tok->Out (List Nd)
 |[]=>some (.error (sz,4))
 |t::r=>
  if t.kind=16 then if t.text=Lx.top then some (.error (t.pos,3))else some (.ok (leaf 16 [] (iM t.text),r))
  else if t.kind=17 then some (.ok (leaf 17 t.text 0,r))
  else if t.kind=18 then if 30<t.text.length then some (.error (t.pos,5))else some (.ok (leaf 18 t.text 0,r))
  else if t.kind=50 then
    if t.text=aX then some (.ok (leaf 14 [] 0,r))else if t.text=fB then some (.ok (leaf 15 [] 1,r))else if t.text=dE then some (.ok (leaf 15 [] 0,r))
    else some (.error (t.pos,4))
  else some (.error (t.pos,4))
def xL:List Tok->Bool
 |[]=>false
 |t::_=>decide (t.kind=16)&&t.text==Lx.top
def gD(sz:Nat)(rec5:List Tok->Out (List Nd))(a:List Nd)(r:List Tok):Out (List Nd):=
 if sees Gs r=true then
   if sees jq r.tail=true then obind (must sz aX r.tail.tail) fun _ q=>some (.ok (aO 22 a,q))
   else obind (must sz aX r.tail) fun _ q=>some (.ok (aO 21 a,q))
 else if oper 4 r=0 then some (.ok (a,r))
 else obind (rec5 r.tail) fun b q=>some (.ok (bI (oper 4 r) a b,q))
def ex(sz:Nat):Nat->Nat->List Nd->List Tok->Out (List Nd)
 |0,_,_,_=>none
 |n+1,m,a,ts=>
  if 10<=m then
    if oper (m-10) ts=0 then some (.ok (a,ts))
    else obind (ex sz n (m-9) [] ts.tail) fun b q=>ex sz n m (bI (oper (m-10) ts) a b) q
  else if m=3 then
    if sees jq ts=true then obind (ex sz n 3 [] ts.tail) fun b q=>some (.ok (aO 20 b,q))
    else ex sz n 4 [] ts
  else if m=4 then obind (ex sz n 5 [] ts) fun b q=>gD sz (ex sz n 5 []) b q
  else if m=8 then
    if sees kH ts=true then
      if xL ts.tail=true then some (.ok (leaf 16 [] bot,ts.tail.tail))
      else obind (ex sz n 8 [] ts.tail) fun b q=>negate (plc sz ts) b q
    else ex sz n 9 [] ts
  else if m=9 then
    if sees mD ts=true then obind (ex sz n 1 [] ts.tail) fun b q=>obind (must sz kE q) fun _ q=>some (.ok (b,q))
    else atom sz ts
  else obind (ex sz n (m+1) [] ts) fun b q=>ex sz n (m+10) b q
def sep{α:Type}(item:Nat->α->List Tok->Out α):Nat->α->List Tok->Out α
 |0,_,_=>none
 |n+1,a,ts=>obind (item n a ts) fun b q=>if sees iK q=true then sep item n b q.tail else some (.ok (b,q))
def Eh(sz:Nat)(ts:List Tok):Out Int:=
 if sees kG ts=true then if sees mI ts.tail=true then some (.error (plc sz ts.tail,4))else some (.ok (1,ts.tail))
 else if sees mI ts=true then some (.ok (2,ts.tail))
 else obind (must sz iD ts) fun _ q=>some (.ok (3,q))
def Aq(sz:Nat)(l:List Nd)(ts:List Tok):Out (List Nd):=
 obind (name sz ts) fun nm q=>
 if l.length=6 then some (.error (plc sz ts,4))
 else obind (Eh sz q) fun k q=>
 if sees jq q=true then obind (must sz aX q.tail) fun _ q=>some (.ok (l++[⟨2,nm,k+4,0⟩],q))
 else some (.ok (l++[⟨2,nm,k,0⟩],q))
def create(sz n:Nat)(ts:List Tok):Out (List Nd):=
 obind (must sz kZ ts) fun _ q=>obind (name sz q) fun t q=>obind (must sz mD q) fun _ q=>
 obind (sep (fun _ l q=>Aq sz l q) n [] q) fun l q=>obind (must sz kE q) fun _ q=>
 some (.ok (⟨1,t,0,l.length⟩::l,q))
def item(sz n:Nat)(x:List Nd×Nat)(ts:List Tok):Out (List Nd×Nat):=
 obind (ex sz n 1 [] ts) fun e q=>some (.ok ((x.1++e,x.2+1),q))
def row(sz n:Nat)(x:List Nd×Nat)(ts:List Tok):Out (List Nd×Nat):=
 obind (must sz mD ts) fun _ q=>obind (sep (item sz) n ([],0) q) fun y q=>obind (must sz kE q) fun _ q=>
 some (.ok ((x.1++(⟨5,[],0,y.2⟩::y.1),x.2+1),q))
def insert(sz n:Nat)(ts:List Tok):Out (List Nd):=
 obind (must sz DZ ts) fun _ q=>obind (name sz q) fun t q=>obind (must sz rG q) fun _ q=>
 obind (sep (row sz) n ([],0) q) fun x q=>some (.ok (⟨4,t,0,x.2⟩::x.1,q))
def eU(sz n:Nat)(ts:List Tok):Out (List Nd×Nat):=
 if sees uy ts=true then obind (ex sz n 1 [] ts.tail) fun e q=>some (.ok ((aO 11 e,1),q))else some (.ok (([],0),ts))
def zi(sz n:Nat)(x:List Nd×Nat)(ts:List Tok):Out (List Nd×Nat):=
 obind (name sz ts) fun nm q=>obind (must sz QX q) fun _ q=>obind (ex sz n 1 [] q) fun e q=>
 some (.ok ((x.1++(⟨8,nm,0,1⟩::e),x.2+1),q))
def update(sz n:Nat)(ts:List Tok):Out (List Nd):=
 obind (name sz ts) fun t q=>obind (must sz KH q) fun _ q=>obind (sep (zi sz) n ([],0) q) fun x q=>
 obind (eU sz n q) fun y q=>some (.ok (⟨7,t,0,x.2+y.2⟩::(x.1++y.1),q))
def pick(sz n:Nat)(x:List Nd×Nat)(ts:List Tok):Out (List Nd×Nat):=
 if sees JA ts=true then some (.ok ((x.1++[⟨10,[],0,0⟩],x.2+1),ts.tail))else item sz n x ts
def order(sz n:Nat)(x:List Nd×Nat)(ts:List Tok):Out (List Nd×Nat):=
 obind (ex sz n 1 [] ts) fun e q=>
 if sees Ni q=true then some (.ok ((x.1++(⟨12,[],0,1⟩::e),x.2+1),q.tail))
 else if sees Ab q=true then some (.ok ((x.1++(⟨12,[],1,1⟩::e),x.2+1),q.tail))
 else some (.ok ((x.1++(⟨12,[],0,1⟩::e),x.2+1),q))
def limit(sz:Nat):List Tok->Out Nat
 |[]=>some (.error (sz,4))
 |t::r=>if t.kind≠16 then some (.error (t.pos,4))else if t.text=Lx.top\/1000000000<iM t.text then some (.error (t.pos,3))else some (.ok (iM t.text,r))
def orders(sz n:Nat)(x:List Nd×Nat)(ts:List Tok):Out (List Nd×Nat):=
 if sees qf ts=true then obind (must sz NQ ts.tail) fun _ q=>sep (order sz) n x q else some (.ok (x,ts))
def limits(sz:Nat)(x:List Nd×Nat)(ts:List Tok):Out (List Nd×Nat):=
 if sees jc ts=true then obind (limit sz ts.tail) fun m q=>some (.ok ((x.1++[⟨13,[],m,0⟩],x.2+1),q))else some (.ok (x,ts))
def choose(sz n:Nat)(ts:List Tok):Out (List Nd):=
 obind (sep (pick sz) n ([],0) ts) fun x q=>obind (must sz qC q) fun _ q=>obind (name sz q) fun t q=>
 obind (eU sz n q) fun y q=>obind (orders sz n (x.1++y.1,x.2+y.2) q) fun z q=>obind (limits sz z q) fun u q=>
 some (.ok (⟨9,t,0,u.2⟩::u.1,q))
def drop(sz:Nat)(ts:List Tok):Out (List Nd):=
 obind (must sz kZ ts) fun _ q=>obind (name sz q) fun t q=>some (.ok ([⟨3,t,0,0⟩],q))
def delete(sz n:Nat)(ts:List Tok):Out (List Nd):=
 obind (must sz qC ts) fun _ q=>obind (name sz q) fun t q=>obind (eU sz n q) fun y q=>some (.ok (⟨6,t,0,y.2⟩::y.1,q))
def stmt(sz n:Nat):List Tok->Out (List Nd)
 |[]=>some (.error (sz,4))
 |t::r=>
  if t.kind≠50 then some (.error (t.pos,4))
  else if t.text=eP then create sz n r
  else if t.text=kz then drop sz r
  else if t.text=gz then insert sz n r
  else if t.text=gP then delete sz n r
  else if t.text=iP then update sz n r
  else if t.text=jK then choose sz n r
  else some (.error (t.pos,4))
def whole(sz n:Nat)(ts:List Tok):Out (List Nd):=
 obind (stmt sz n ts) fun a q=>if q=[]then some (.ok (a,[]))else some (.error (plc sz q,4))
def cO{α:Type}(f:Nat->Out α):Prop:=∀n m r,n<=m->f n=some r->f m=some r
theorem tF{α β:Type}{x:Out α}{f:α->List Tok->Out β}{r:Except (Nat×Nat) (β×List Tok)}(h:obind x f=some r):
   (∃e,x=some (.error e)/\r=.error e)\/∃a ts,x=some (.ok (a,ts))/\f a ts=some r:=by
 unfold obind at h
 split at h
 · cases h
 · rename_i e;cases h;exact Or.inl ⟨_,rfl,rfl⟩
 rename_i a ts;exact Or.inr ⟨a,ts,rfl,h⟩
theorem ag{α:Type}(x:Out α):cO fun _=>x:=fun _ _ _ _ h=>h
theorem aI{α β:Type}{x:Nat->Out α}{f:Nat->α->List Tok->Out β}(hx:cO x)(hf:∀a ts,cO fun n=>f n a ts):cO fun n=>obind (x n) (f n):=by
 intro n m r hnm h;rcases tF h with⟨e,h1,rfl⟩|⟨a,ts,h1,h2⟩
 · show obind (x m) (f m)=_;rw[hx n m _ hnm h1];rfl
 show obind (x m) (f m)=_;rw[hx n m _ hnm h1];exact hf a ts n m r hnm h2
theorem aR{α:Type}{c:Prop}[Decidable c]{x y:Nat->Out α}(hx:cO x)(hy:cO y):cO fun n=>if c then x n else y n:=by
 intro n m r hnm h;by_cases hc:c
 · simp only[if_pos hc]at h⊢;exact hx n m r hnm h
 simp only[if_neg hc]at h⊢;exact hy n m r hnm h
theorem bB(sz:Nat):∀m a ts,cO fun n=>ex sz n m a ts:=by
 have key:∀n k m a ts r,n<=k->ex sz n m a ts=some r->ex sz k m a ts=some r:=by
  intro n
  induction n with
  |zero=>intro k m a ts r _ h;cases h
  |succ n ih=>
   intro k m a ts r hk h
   cases k with
   |zero=>omega
   |succ k=>
    have hk':n<=k:=by omega
    have B:∀{m a ts r} {g:Nat->List Nd->List Tok->Out (List Nd)},(∀b q r,g n b q=some r->g k b q=some r)->obind (ex sz n m a ts) (g n)=some r->obind (ex sz k m a ts) (g k)=some r:=by
     intro m a ts r g hg hh;rcases tF hh with⟨e,h1,rfl⟩|⟨b,q,h1,h2⟩
     · rw[ih k _ _ _ _ hk' h1];rfl
     rw[ih k _ _ _ _ hk' h1];exact hg b q r h2
    unfold ex at h⊢
    split at h
    · rename_i c1;rw[if_pos c1]
      split at h
      · rename_i c2;rw[if_pos c2];exact h
      rename_i c2;rw[if_neg c2];exact B (g:=fun n b q=>ex sz n m (bI (oper (m-10) ts) a b) q) (fun b q r hh=>ih k _ _ _ _ hk' hh) h
    rename_i c1;rw[if_neg c1]
    split at h
    · rename_i c2;rw[if_pos c2]
      split at h
      · rename_i c3;rw[if_pos c3];exact B (g:=fun _ b q=>some (.ok (aO 20 b,q))) (fun _ _ _ hh=>hh) h
      rename_i c3;rw[if_neg c3];exact ih k _ _ _ _ hk' h
    rename_i c2;rw[if_neg c2]
    split at h
    · rename_i c3;rw[if_pos c3];refine B (g:=fun n b q=>gD sz (ex sz n 5 []) b q) (fun b q r hh=> ?_) h;unfold gD at hh⊢
      split at hh
      · rename_i c4;rw[if_pos c4];exact hh
      rename_i c4;rw[if_neg c4]
      split at hh
      · rename_i c5;rw[if_pos c5];exact hh
      rename_i c5;rw[if_neg c5];exact B (g:=fun _ b' q'=>some (.ok (bI (oper 4 q) b b',q'))) (fun _ _ _ h3=>h3) hh
    rename_i c3;rw[if_neg c3]
    split at h
    · rename_i c4;rw[if_pos c4]
      split at h
      · rename_i c5;rw[if_pos c5]
        split at h
        · rename_i c6;rw[if_pos c6];exact h
        rename_i c6;rw[if_neg c6];exact B (g:=fun _ b q=>negate (plc sz ts) b q) (fun _ _ _ hh=>hh) h
      rename_i c5;rw[if_neg c5];exact ih k _ _ _ _ hk' h
    rename_i c4;rw[if_neg c4]
    split at h
    · rename_i c5;rw[if_pos c5]
      split at h
      · rename_i c6;rw[if_pos c6];exact B (g:=fun _ b q=>obind (must sz kE q) fun _ q=>some (.ok (b,q))) (fun _ _ _ hh=>hh) h
      rename_i c6;rw[if_neg c6];exact h
    rename_i c5;rw[if_neg c5];exact B (g:=fun n b q=>ex sz n (m+10) b q) (fun b q r hh=>ih k _ _ _ _ hk' hh) h
 intro m a ts n k r hnk h;exact key n k m a ts r hnk h
def Ex(sz m:Nat)(a:List Nd)(ts:List Tok)(r:Except (Nat×Nat) (List Nd×List Tok)):Prop:=∃n,ex sz n m a ts=some r
end Px
end
section
namespace Px
open Lx (Bs Tok)
abbrev iq(α:Type):=Except (Nat×Nat) (α×List Tok)
def Then{α β:Type}(r:iq α)(f:α->List Tok->iq β->Prop)(r':iq β):Prop:=
 match r with
 |.error e=>r'=.error e
 |.ok (b,q)=>f b q r'
theorem jS{a:List Nd}{ts:List Tok}{r r':iq (List Nd)}{g:Nat->List Nd->List Tok->Out (List Nd)}(hg:∀b q,cO fun n=>g n b q)
   (h:Ex sz m a ts r) (h':Then r (fun b q s=>∃n,g n b q=some s) r'):∃n,obind (ex sz n m a ts) (g n)=some r':=by
 obtain⟨n,hn⟩:=h
 match r,h' with
 |.error e,h'=>
  refine⟨n,?_⟩;rw[hn];simp only[Then]at h';rw[h'];rfl
 |.ok (b,q),h'=>
  obtain⟨k,hk⟩:=h';refine⟨max n k,?_⟩;rw[show ex sz (max n k) m a ts=_ from bB sz m a ts n (max n k) _ (Nat.le_max_left _ _) hn];exact hg b q k (max n k) r' (Nat.le_max_right _ _) hk
theorem Ex.not{a:List Nd}{ts:List Tok}{r r':iq (List Nd)}(hs:sees jq ts=true)(h:Ex sz 3 [] ts.tail r)(h':Then r (fun b q s=>s=.ok (aO 20 b,q)) r'):Ex sz 3 a ts r':=by
 obtain⟨n,hn⟩:=jS (g:=fun _ b q=>some (.ok (aO 20 b,q))) (fun b q=>ag _) h (r':=r') (by
  match r,h' with
  |.error e,h'=>exact h'
  |.ok (b,q),h'=>exact⟨0,by rw[show r'=_ from h']⟩)
 refine⟨n+1,?_⟩;unfold ex;rw[if_neg (by omega),if_pos rfl,if_pos hs];exact hn
theorem Ex.Rc{a:List Nd}{ts:List Tok}{r:iq (List Nd)}(hs:sees jq ts=false)(h:Ex sz 4 [] ts r):Ex sz 3 a ts r:=by
 obtain⟨n,hn⟩:=h;refine⟨n+1,?_⟩;unfold ex;rw[if_neg (by omega),if_pos rfl,if_neg (by simp[hs])];exact hn
theorem Bh(sz:Nat)(b:List Nd)(q:List Tok):cO fun n=>gD sz (ex sz n 5 []) b q:=by
 unfold gD;refine aR (ag _) (aR (ag _) (aI (bB sz 5 [] _) fun _ _=>ag _))
theorem Ex.cmp{a:List Nd}{ts:List Tok}{r r':iq (List Nd)}(h:Ex sz 5 [] ts r)(h':Then r (fun b q s=>∃n,gD sz (ex sz n 5 []) b q=some s) r'):Ex sz 4 a ts r':=by
 obtain⟨n,hn⟩:=jS (g:=fun n b q=>gD sz (ex sz n 5 []) b q) (fun b q=>Bh sz b q) h h';refine⟨n+1,?_⟩;unfold ex;rw[if_neg (by omega),if_neg (by omega),if_pos rfl];exact hn
theorem G5{b:List Nd}{q:List Tok}(hs:sees Gs q=true)(hn:sees jq q.tail=false):
   ∃n,gD sz (ex sz n 5 []) b q=some (if sees aX q.tail=true then .ok (aO 21 b,q.tail.tail)else .error (plc sz q.tail,4)):=by
 refine⟨0,?_⟩;unfold gD must;rw[if_pos hs,if_neg (by simp[hn])]
 split<;>simp[obind, *]
theorem Bo{b:List Nd}{q:List Tok}(hs:sees Gs q=true)(hn:sees jq q.tail=true):
   ∃n,gD sz (ex sz n 5 []) b q=some (if sees aX q.tail.tail=true then .ok (aO 22 b,q.tail.tail.tail)else .error (plc sz q.tail.tail,4)):=by
 refine⟨0,?_⟩;unfold gD must;rw[if_pos hs,if_pos hn]
 split<;>simp[obind, *]
theorem Dh{b:List Nd}{q:List Tok}(hs:sees Gs q=false)(ho:oper 4 q=0):∃n,gD sz (ex sz n 5 []) b q=some (.ok (b,q)):=by
 refine⟨0,?_⟩;unfold gD;rw[if_neg (by simp[hs]),if_pos ho]
theorem Bc{b:List Nd}{q:List Tok}{r r':iq (List Nd)}(hs:sees Gs q=false)(ho:oper 4 q≠0)(h:Ex sz 5 [] q.tail r)(h':Then r (fun c p s=>s=.ok (bI (oper 4 q) b c,p)) r'):
   ∃n,gD sz (ex sz n 5 []) b q=some r':=by
 obtain⟨n,hn⟩:=jS (g:=fun _ c p=>some (.ok (bI (oper 4 q) b c,p))) (fun _ _=>ag _) h (r':=r') (by
  match r,h' with
  |.error e,h'=>exact h'
  |.ok (c,p),h'=>exact⟨0,by rw[show r'=_ from h']⟩)
 refine⟨n,?_⟩;unfold gD;rw[if_neg (by simp[hs]),if_neg ho];exact hn
theorem Ex.top{a:List Nd}{ts:List Tok}(hs:sees kH ts=true)(ht:xL ts.tail=true):Ex sz 8 a ts (.ok (leaf 16 [] bot,ts.tail.tail)):=by
 refine⟨1,?_⟩;unfold ex;rw[if_neg (by omega),if_neg (by omega),if_neg (by omega),if_pos rfl,if_pos hs,if_pos ht]
theorem Ex.neg{a:List Nd}{ts:List Tok}{r r':iq (List Nd)}(hs:sees kH ts=true)(ht:xL ts.tail=false)(h:Ex sz 8 [] ts.tail r)(h':Then r (fun b q s=>negate (plc sz ts) b q=some s) r'):Ex sz 8 a ts r':=by
 obtain⟨n,hn⟩:=jS (g:=fun _ b q=>negate (plc sz ts) b q) (fun _ _=>ag _) h (r':=r') (by
  match r,h' with
  |.error e,h'=>exact h'
  |.ok (b,q),h'=>exact⟨0,h'⟩)
 refine⟨n+1,?_⟩;unfold ex;rw[if_neg (by omega),if_neg (by omega),if_neg (by omega),if_pos rfl,if_pos hs,if_neg (by simp[ht])];exact hn
theorem Ex.Q0{a:List Nd}{ts:List Tok}{r:iq (List Nd)}(hs:sees kH ts=false)(h:Ex sz 9 [] ts r):Ex sz 8 a ts r:=by
 obtain⟨n,hn⟩:=h;refine⟨n+1,?_⟩;unfold ex;rw[if_neg (by omega),if_neg (by omega),if_neg (by omega),if_pos rfl,if_neg (by simp[hs])];exact hn
theorem Ex.PI{a:List Nd}{ts:List Tok}{r r':iq (List Nd)}(hs:sees mD ts=true)(h:Ex sz 1 [] ts.tail r)
   (h':Then r (fun b q s=>s=if sees kE q=true then .ok (b,q.tail)else .error (plc sz q,4)) r'):Ex sz 9 a ts r':=by
 obtain⟨n,hn⟩:=jS (g:=fun _ b q=>obind (must sz kE q) fun _ q=>some (.ok (b,q))) (fun _ _=>ag _) h (r':=r') (by
  match r,h' with
  |.error e,h'=>exact h'
  |.ok (b,q),h'=>
   refine⟨0,?_⟩;rw[show r'=_ from h'];unfold must
   split<;>simp[obind, *])
 refine⟨n+1,?_⟩;unfold ex;rw[if_neg (by omega),if_neg (by omega),if_neg (by omega),if_neg (by omega),if_pos rfl,if_pos hs];exact hn
theorem Ex.atom{a:List Nd}{ts:List Tok}{r:iq (List Nd)}(hs:sees mD ts=false)(h:atom sz ts=some r):Ex sz 9 a ts r:=by
 refine⟨1,?_⟩;unfold ex;rw[if_neg (by omega),if_neg (by omega),if_neg (by omega),if_neg (by omega),if_pos rfl,if_neg (by simp[hs])];exact h
theorem Ex.left{a:List Nd}{ts:List Tok}{r r':iq (List Nd)}(hm:m<8)(h3:m≠3)(h4:m≠4)(h:Ex sz (m+1) [] ts r)(h':Then r (fun b q s=>Ex sz (m+10) b q s) r'):Ex sz m a ts r':=by
 obtain⟨n,hn⟩:=jS (g:=fun n b q=>ex sz n (m+10) b q) (fun b q=>bB sz _ b q) h h';refine⟨n+1,?_⟩;unfold ex;rw[if_neg (by omega),if_neg h3,if_neg h4,if_neg (by omega),if_neg (by omega)];exact hn
theorem Ex.end_{a:List Nd}{ts:List Tok}(ho:oper m ts=0):Ex sz (m+10) a ts (.ok (a,ts)):=by
 refine⟨1,?_⟩;unfold ex;rw[if_pos (by omega),if_pos (by rw[Nat.add_sub_cancel];exact ho)]
theorem Ex.more{a:List Nd}{ts:List Tok}{r r':iq (List Nd)}(ho:oper m ts≠0)(h:Ex sz (m+1) [] ts.tail r)(h':Then r (fun b q s=>Ex sz (m+10) (bI (oper m ts) a b) q s) r'):Ex sz (m+10) a ts r':=by
 obtain⟨n,hn⟩:=jS (g:=fun n b q=>ex sz n (m+10) (bI (oper m ts) a b) q) (fun b q=>bB sz _ _ q) h h';refine⟨n+1,?_⟩;unfold ex;rw[if_pos (by omega),if_neg (by rw[Nat.add_sub_cancel];exact ho)];rw[Nat.add_sub_cancel,show m+10-9=m+1 by omega];exact hn
theorem pR{s:Bs}{ts:List Tok}(h:sees s ts=true):∃t r,ts=t::r:=by
 cases ts with
 |nil=>cases h
 |cons t r=>exact⟨t,r,rfl⟩
theorem Fs{ts:List Tok}(h:oper m ts≠0):∃t r,ts=t::r:=by
 cases ts with
 |nil=>exact absurd rfl h
 |cons t r=>exact⟨t,r,rfl⟩
theorem aW{s:Bs}{ts:List Tok}(h:sees s ts=true):ts.tail.length+1=ts.length:=by
 obtain⟨t,r,rfl⟩:=pR h;rfl
theorem BD{ts:List Tok}(h:oper m ts≠0):ts.tail.length+1=ts.length:=by
 obtain⟨t,r,rfl⟩:=Fs h;rfl
theorem aK{s:Bs}{ts:List Tok}{r:iq Unit}(h:must sz s ts=some r):(sees s ts=true/\r=.ok ((),ts.tail))\/(sees s ts=false/\r=.error (plc sz ts,4)):=by
 unfold must at h
 split at h
 · rename_i c;cases h;exact Or.inl ⟨c,rfl⟩
 rename_i c;cases h;exact Or.inr ⟨by simpa using c,rfl⟩
theorem NF:∀n m a ts b q,ex sz n m a ts=some (.ok (b,q))->(m<10->b≠[]/\b.length+q.length<=ts.length)/\(10<=m->(a≠[]->b≠[])/\b.length+q.length<=a.length+ts.length):=by
 intro n
 induction n with
 |zero=>intro m a ts b q h;cases h
 |succ n ih=>
  intro m a ts b q h;unfold ex at h
  split at h
  · rename_i c1;refine⟨fun h=>by omega,fun _=> ?_⟩
    split at h
    · cases h;exact⟨fun h=>h,nlr _⟩
    rename_i c2;rcases tF h with⟨e,_,h2⟩|⟨b1,q1,h1,h2⟩
    · cases h2
    have i1:=(ih _ _ _ _ _ h1).1;have i2:=(ih _ _ _ _ _ h2).2 c1;have hl:=BD c2;by_cases hm:m-9<10
    · have:=(i1 hm).2;refine⟨fun _=>i2.1 (by simp[bI]),?_⟩;have i3:=i2.2;simp[bI]at i3;omega
    have:=((ih _ _ _ _ _ h1).2 (by omega)).2;refine⟨fun _=>i2.1 (by simp[bI]),?_⟩;have i3:=i2.2;simp[bI]at i3 this;omega
  rename_i c1;refine⟨fun _=> ?_,fun h=>by omega⟩
  split at h
  · split at h
    · rename_i c3;rcases tF h with⟨e,_,h2⟩|⟨b1,q1,h1,h2⟩
      · cases h2
      cases h2
      have i1:=(ih _ _ _ _ _ h1).1 (by omega);have hl:=aW c3;refine⟨by simp[aO],?_⟩;have:=i1.2;simp[aO];omega
    exact(ih _ _ _ _ _ h).1 (by omega)
  split at h
  · rcases tF h with⟨e,_,h2⟩|⟨b1,q1,h1,h2⟩
    · cases h2
    have i1:=(ih _ _ _ _ _ h1).1 (by omega);unfold gD at h2
    split at h2
    · rename_i c4;have hl:=aW c4
      split at h2
      · rename_i c5;have hl2:=aW c5;rcases tF h2 with⟨e,_,h3⟩|⟨b2,q2,h3,h4⟩
        · cases h3
        cases h4
        rcases aK h3 with⟨c6,h6⟩|⟨_,h6⟩
        · cases h6
          have hl3:=aW c6;refine⟨by simp[aO],?_⟩;have:=i1.2;simp[aO]at*;omega
        cases h6
      rcases tF h2 with⟨e,_,h3⟩|⟨b2,q2,h3,h4⟩
      · cases h3
      cases h4
      rcases aK h3 with⟨c6,h6⟩|⟨_,h6⟩
      · cases h6
        have hl3:=aW c6;refine⟨by simp[aO],?_⟩;have:=i1.2;simp[aO]at*;omega
      cases h6
    split at h2
    · cases h2;exact i1
    rename_i c5;have hl:=BD c5;rcases tF h2 with⟨e,_,h3⟩|⟨b2,q2,h3,h4⟩
    · cases h3
    cases h4
    have i2:=(ih _ _ _ _ _ h3).1 (by omega);refine⟨by simp[bI],?_⟩;have:=i1.2;have:=i2.2;simp[bI]at*;omega
  split at h
  · split at h
    · rename_i c5;have hl:=aW c5
      split at h
      · rename_i c6
        cases h
        have hl2:ts.tail.tail.length+1=ts.tail.length:=by
         cases h7:ts.tail with
         |nil=>rw[h7]at c6;cases c6
         |cons t r=>simp
        refine⟨by simp[leaf],?_⟩;simp[leaf]at*;omega
      rcases tF h with⟨e,_,h2⟩|⟨b1,q1,h1,h2⟩
      · cases h2
      have i1:=(ih _ _ _ _ _ h1).1 (by omega);unfold negate at h2
      split at h2
      · cases h2
        refine⟨by simp[aO],?_⟩;have:=i1.2;simp[aO]at*
      split at h2
      · cases h2
        refine⟨by simp[aO],?_⟩;have:=i1.2;simp[aO]at*;omega
      split at h2
      · cases h2
      cases h2
      refine⟨by simp[leaf],?_⟩;have:=i1.2;simp[leaf]at*;omega
    exact(ih _ _ _ _ _ h).1 (by omega)
  split at h
  · split at h
    · rename_i c6;have hl:=aW c6;rcases tF h with⟨e,_,h2⟩|⟨b1,q1,h1,h2⟩
      · cases h2
      have i1:=(ih _ _ _ _ _ h1).1 (by omega);rcases tF h2 with⟨e,_,h3⟩|⟨b2,q2,h3,h4⟩
      · cases h3
      cases h4
      rcases aK h3 with⟨c7,h7⟩|⟨_,h7⟩
      · cases h7
        have hl3:=aW c7;refine⟨i1.1,?_⟩;have:=i1.2;omega
      cases h7
    unfold Px.atom at h
    repeat' split at h
    all_goals first|(cases h;done)|(cases h;simp[leaf];omega)
  rcases tF h with⟨e,_,h2⟩|⟨b1,q1,h1,h2⟩
  · cases h2
  rename_i c2 c3 c4 c5;have i2:=(ih _ _ _ _ _ h2).2 (by omega);by_cases hm:m+1<10
  · have i1:=(ih _ _ _ _ _ h1).1 hm;exact⟨i2.1 i1.1,by have:=i1.2;have:=i2.2;omega⟩
  omega
theorem Ex.len{a b:List Nd}{ts q:List Tok}(hm:m<10)(h:Ex sz m a ts (.ok (b,q))):b≠[]/\b.length+q.length<=ts.length:=by
 obtain⟨n,hn⟩:=h;exact(NF n m a ts b q hn).1 hm
end Px
end
section
namespace Px
open Lx (Bs Tok)
def dX(k:Int):Bool:=decide (14<=k/\k<=36)
def isName(s:Bs):Bool:=Lx.bH s&& !s.isEmpty&&decide (s.length<=30)
def iJ(x:Nd)(k:Int):Bool:=x.text.isEmpty&&decide (x.num=0)&&decide (x.kids=k)
def M4(x:Nd)(r:List Nd):Bool:=
 if x.kind=14 then iJ x 0
 else if x.kind=15 then x.text.isEmpty&&(decide (x.num=0)||decide (x.num=1))&&decide (x.kids=0)
 else if x.kind=16 then x.text.isEmpty&&decide (x.kids=0)
 else if x.kind=17 then Lx.bH x.text&&decide (x.num=0)&&decide (x.kids=0)
 else if x.kind=18 then isName x.text&&decide (x.num=0)&&decide (x.kids=0)
 else if x.kind=19 then iJ x 1&&(match r with|[]=>true|y::_=>decide (y.kind≠16))
 else if x.kind=20\/x.kind=21\/x.kind=22 then iJ x 1
 else decide (23<=x.kind/\x.kind<=36)&&iJ x 2
def wex:Nat->List Nd->Option (List Nd)
 |0,_=>none
 |_+1,[]=>none
 |d+1,x::r=>if M4 x r=true then(if x.kids=0 then some r else if x.kids=1 then wex d r else(wex d r).bind (wex d))else none
def O4:Nat->List Nd->Option (List Nd)
 |0,l=>some l
 |k+1,l=>(wex 40 l).bind (O4 k)
def O1:List Nd->Option (List Nd)
 |[]=>none
 |x::r=>
  if x.kind=2 then if isName x.text=true/\x.kids=0/\1<=x.num/\x.num<=7/\x.num≠4 then some r else none
  else if x.kind=5 then if x.text=[]/\x.num=0/\1<=x.kids then O4 x.kids.toNat r else none
  else if x.kind=8 then if isName x.text=true/\x.num=0/\x.kids=1 then wex 40 r else none
  else if x.kind=10 then if iJ x 0=true then some r else none
  else if x.kind=11 then if iJ x 1=true then wex 40 r else none
  else if x.kind=12 then if x.text=[]/\0<=x.num/\x.num<=1/\x.kids=1 then wex 40 r else none
  else if x.kind=13 then if x.text=[]/\0<=x.num/\x.num<=1000000000/\x.kids=0 then some r else none
  else wex 40 (x::r)
def rank(k:Int):Nat:=if k=11 then 2 else if k=12 then 3 else if k=13 then 4 else 1
def fits(top k:Int):Bool:=
 if top=1 then decide (k=2)else if top=4 then decide (k=5)else if top=6 then decide (k=11)
 else if top=7 then decide (k=8)||decide (k=11)
 else if top=9 then dX k||decide (k=10)||decide (k=11)||decide (k=12)||decide (k=13)
 else false
def Js(top:Int):Nat->Nat->Nat->List Nd->Option Nat
 |0,_,things,l=>if l=[]then some things else none
 |_+1,_,_,[]=>none
 |k+1,last,things,x::r=>
  if fits top x.kind=false\/rank x.kind<last\/(rank x.kind=last/\(rank x.kind=2\/rank x.kind=4))then none
  else(O1 (x::r)).bind (Js top k (rank x.kind) (if rank x.kind=1 then things+1 else things))
def well:List Nd->Bool
 |[]=>false
 |x::r=>
  if isName x.text=false\/x.num≠0\/x.kids<0\/(r.length:Int)+1<x.kids then false
  else match Js x.kind x.kids.toNat 1 0 r with
   |none=>false
   |some things=>
    if x.kind=1 then decide (1<=things/\things<=6)
    else if x.kind=3 then decide (x.kids=0)
    else if x.kind=4\/x.kind=7\/x.kind=9 then decide (1<=things)
    else decide (x.kind=6)
def decF:Nat->Nat->Bs
 |0,_=>[]
 |f+1,n=>if n<10 then[(48+n).toUInt8]else decF f (n/10)++[(48+n%10).toUInt8]
def dec(z:Int):Bs:=if z<0 then 45::decF 20 z.natAbs else decF 20 z.natAbs
def Qy(m:UInt8)(s:Bs):Bs:=m::(s.flatMap fun b=>if b=m then[b,b]else[b])++[m]
def lowWord(s:Bs):Bool:=(match s with|[]=>false|b::_=>Lx.isLet b)&&decide (Lx.cnt Lx.dn s=s.length)&& !Lx.hasB Lx.keys (s.map Lx.LJ)&&s.map Lx.yQ==s
def mF(s:Bs):Bs:=if lowWord s=true then s else Qy 34 s
def OT(x:Nd):Bs:=
 if x.kind=18 then mF x.text else if x.kind=14 then aX else if x.kind=16 then dec x.num else if x.kind=17 then Qy 39 x.text else if x.num=1 then fB else dE
def brk(s:Bs)(lvl least:Nat):Bs:=if lvl<least then 40::(s++[41])else s
def ru(k:Int):Bs×Nat:=
 if k=23 then(QQ,1)else if k=24 then(M3,2)else if k=25 then([61],4)else if k=26 then([60,62],4)else if k=27 then([60],4)else if k=28 then([60,61],4)
 else if k=29 then([62],4)else if k=30 then([62,61],4)else if k=31 then([124,124],5)else if k=32 then([43],6)else if k=33 then([45],6)else if k=34 then([42],7)
 else if k=35 then([47],7)else([37],7)
def Mh(s:Bs):Bs:=match s with|45::_=>45::32::s|_=>45::s
def Qs(k:Int)(a:Bs)(lvl:Nat):Bs×Nat:=
 if k=20 then(jq++[32]++brk a lvl 3,3)
 else if k=19 then(Mh (brk a lvl 8),8)
 else if k=21 then(brk a lvl 5++[32,73,83,32,78,85,76,76],4)
 else(brk a lvl 5++[32,73,83,32,78,79,84,32,78,85,76,76],4)
def Qj(k:Int)(a:Bs)(la:Nat)(b:Bs)(lb:Nat):Bs×Nat:=
 (brk a la (if(ru k).2=4 then 5 else(ru k).2)++[32]++(ru k).1++[32]++brk b lb ((ru k).2+1),(ru k).2)
def ext:Nat->List Nd->(Bs×Nat)×List Nd
 |0,l=>(([],0),l)
 |_+1,[]=>(([],0),[])
 |d+1,x::r=>
  if x.kind<=18 then((OT x,if x.kind=16/\x.num<0 then 8 else 9),r)
  else if x.kind<=22 then(Qs x.kind (ext d r).1.1 (ext d r).1.2,(ext d r).2)
  else(Qj x.kind (ext d r).1.1 (ext d r).1.2 (ext d (ext d r).2).1.1 (ext d (ext d r).2).1.2,(ext d (ext d r).2).2)
def exts:Nat->List Nd->Bs×List Nd
 |0,l=>([],l)
 |1,l=>((ext 40 l).1.1,(ext 40 l).2)
 |k+2,l=>((ext 40 l).1.1++[44,32]++(exts (k+1) (ext 40 l).2).1,(exts (k+1) (ext 40 l).2).2)
def partT:List Nd->Bs×List Nd
 |[]=>([],[])
 |x::r=>
  if x.kind=2 then(mF x.text++[32]++(if x.num%4=1 then kG else if x.num%4=2 then mI else iD)++(if 4<x.num then[32]++jq++[32]++aX else[]),r)
  else if x.kind=5 then(40::((exts x.kids.toNat r).1++[41]),(exts x.kids.toNat r).2)
  else if x.kind=8 then(mF x.text++[32,61,32]++(ext 40 r).1.1,(ext 40 r).2)
  else if x.kind=10 then([42],r)
  else if x.kind=11 then([32]++uy++[32]++(ext 40 r).1.1,(ext 40 r).2)
  else if x.kind=12 then((ext 40 r).1.1++(if x.num=1 then[32]++Ab else[]),(ext 40 r).2)
  else if x.kind=13 then([32]++jc++[32]++dec x.num,r)
  else((ext 40 (x::r)).1.1,(ext 40 (x::r)).2)
structure Ll where
 things:Bs
 eU:Bs
 orders:Bs
 limit:Bs
def Ou(g:Ll)(k:Int)(s:Bs):Ll:=
 if rank k=1 then{g with things:=(if g.things=[]then[]else g.things++[44,32])++s}
 else if rank k=2 then{g with eU:=s}
 else if rank k=3 then{g with orders:=(if g.orders=[]then[32]++qf++[32]++NQ++[32]else g.orders++[44,32])++s}
 else{g with limit:=s}
def Ox:Nat->Ll->List Nd->Ll
 |0,g,_=>g
 |_+1,g,[]=>g
 |k+1,g,x::r=>Ox k (Ou g x.kind (partT (x::r)).1) (partT (x::r)).2
def text:List Nd->Bs
 |[]=>[]
 |x::r=>
  let g:=Ox x.kids.toNat ⟨[],[],[],[]⟩ r
  if x.kind=1 then eP++[32]++kZ++[32]++mF x.text++[32,40]++g.things++[41]
  else if x.kind=3 then kz++[32]++kZ++[32]++mF x.text
  else if x.kind=4 then gz++[32]++DZ++[32]++mF x.text++[32]++rG++[32]++g.things
  else if x.kind=6 then gP++[32]++qC++[32]++mF x.text++g.eU
  else if x.kind=7 then iP++[32]++mF x.text++[32]++KH++[32]++g.things++g.eU
  else jK++[32]++g.things++[32]++qC++[32]++mF x.text++g.eU++g.orders++g.limit
def print(l:List Nd):Bs×Nat:=if well l=false then([],7)else if 2000<(text l).length then([],1)else(text l,0)
def tr:Nat->List Nd->Option (Nat×List Nd)
 |0,_=>none
 |_+1,[]=>none
 |n+1,x::r=>
  if x.kids=0 then some (1,r)
  else if x.kids=1 then(tr n r).bind fun y=>some (y.1+1,y.2)
  else if x.kids=2 then(tr n r).bind fun y=>(tr n y.2).bind fun z=>some (max y.1 z.1+1,z.2)
  else none
def deep:Nat->List Nd->Option Nat
 |0,_=>none
 |_+1,[]=>some 0
 |n+1,x::r=>if dX x.kind=true then(tr (n+1) (x::r)).bind fun y=>(deep n y.2).bind fun d=>some (max y.1 d)else deep n r
def Parse(s:Bs)(r:Except (Nat×Nat) (List Nd)):Prop:=
 match Lx.lex s with
 |.error e=>r=.error e
 |.ok ts=>∃n q,whole s.length n ts=some q/\match q with
  |.error e=>r=.error e
  |.ok (a,_)=>∃d,deep (a.length+1) a=some d/\r=if 40<d then .error (0,6)else .ok a
end Px
end
section
namespace Lx
structure Bb(t:Tok):Prop where
 kind:t.kind=16\/t.kind=17\/t.kind=18\/t.kind=50\/t.kind=51
 digs:t.kind=16->t.text≠[]/\(∀b∈t.text,aH b=true)/\dR t.text=false
theorem sM:∀(l:Bs) (b:UInt8),b∈leastB l->b∈l
 |[],b,h=>h
 |[x],b,h=>h
 |x::c::r,b,h=>by
  unfold leastB at h
  split at h
  · exact List.mem_cons_of_mem _ (sM (c::r) b h)
  exact h
theorem xK:∀l:Bs,l≠[]->leastB l≠[]
 |[],h=>absurd rfl h
 |[x],_=>by simp[leastB]
 |x::c::r,_=>by
  unfold leastB
  split
  · exact xK (c::r) (by simp)
  simp
theorem xV(p:UInt8->Bool):∀l:Bs,∀b∈l.take (cnt p l),p b=true
 |[],b,h=>by simp at h
 |x::r,b,h=>by
  unfold cnt at h
  split at h
  · rename_i hx;rw[List.take_succ_cons]at h;rcases List.mem_cons.1 h with rfl|h
    · exact hx
    exact xV p r b h
  simp at h
theorem KM{l:Bs}{t:Bs}(h:oneT l=.ok (k,t,n))(p:Nat):Bb ⟨k,t,p⟩:=by
 unfold oneT at h
 split at h
 · simp at h
 rename_i b r
 split at h
 · split at h
   · simp only[Except.ok.injEq,Prod.mk.injEq]at h;obtain⟨rfl,rfl,rfl⟩:=h;exact⟨by simp,fun e=>by simp at e⟩
   simp only[Except.ok.injEq,Prod.mk.injEq]at h;obtain⟨rfl,rfl,rfl⟩:=h;exact⟨by simp,fun e=>by simp at e⟩
 split at h
 · rename_i hd
   split at h
   · simp at h
   split at h
   · simp at h
   rename_i h3;simp only[Except.ok.injEq,Prod.mk.injEq]at h;obtain⟨rfl,rfl,rfl⟩:=h;refine⟨by simp,fun _=>⟨xK _ ?_,fun b hb=> ?_,by simpa using h3⟩⟩
   · have:0<cnt aH (b::r):=nT hd;intro e;have:=congrArg List.length e;simp at this;omega
   exact xV aH _ b (sM _ b hb)
 split at h
 · split at h
   · simp at h
   split at h
   · simp at h
   simp only[Except.ok.injEq,Prod.mk.injEq]at h;obtain⟨rfl,rfl,rfl⟩:=h;refine⟨?_,fun e=> ?_⟩
   · dsimp only;split<;>simp
   dsimp only at e;split at e<;>simp at e
 split at h
 · simp only[Except.ok.injEq,Prod.mk.injEq]at h;obtain⟨rfl,rfl,rfl⟩:=h;exact⟨by simp,fun e=>by simp at e⟩
 split at h
 · simp only[Except.ok.injEq,Prod.mk.injEq]at h;obtain⟨rfl,rfl,rfl⟩:=h;exact⟨by simp,fun e=>by simp at e⟩
 simp at h
theorem KT:∀(m:Nat) (l:Bs) (pos:Nat) (ts:List Tok),l.length<=m->lexM 0 pos l=.ok ts->ts.length<=l.length/\∀t∈ts,Bb t/\pos<=t.pos/\t.pos<pos+l.length/\t.text.length<=l.length:=by
 intro m
 induction m with
 |zero=>
  intro l pos ts hl h;obtain rfl:=List.length_eq_zero_iff.1 (Nat.le_zero.1 hl);simp only[lexM,Except.ok.injEq]at h;subst h;exact⟨by simp,fun t ht=>by cases ht⟩
 |succ m ih=>
  intro l pos ts hl h
  cases l with
  |nil=>
   simp only[lexM,Except.ok.injEq]at h;subst h;exact⟨by simp,fun t ht=>by cases ht⟩
  |cons b r=>
   rw[jo]at h
   split at h
   · simp at h
   rename_i k t n h1;have hn:=iB h1;have hs:=vD ((b::r).drop n);simp only[List.length_drop,List.length_cons]at hs hn hl
   split at h
   · rename_i us h2;simp only[Except.ok.injEq]at h;subst h;have i:=ih _ _ _ (by simp;omega) h2;simp only[List.length_drop,List.length_cons]at i;refine⟨by simp;omega,fun x hx=> ?_⟩;rcases List.mem_cons.1 hx with rfl|hx
     · exact⟨KM h1 pos,nlr _,by simp,by simp;omega⟩
     obtain⟨j1,j2,j3,j4⟩:=i.2 x hx;exact⟨j1,by omega,by simp;omega,by simp;omega⟩
   simp at h
theorem NB{l:Bs}{ts:List Tok}(h:lex l=.ok ts):l.length<=2000/\ts.length<=l.length/\∀t∈ts,Bb t/\t.pos<l.length/\t.text.length<=l.length:=by
 unfold lex at h
 split at h
 · simp at h
 rename_i hl;have hs:=vD l;have i:=KT _ _ _ _ (nlr _) h;simp only[List.length_drop]at i;refine⟨by omega,by omega,fun t ht=> ?_⟩;obtain⟨j1,j2,j3,j4⟩:=i.2 t ht;exact⟨j1,by omega,by omega⟩
end Lx
namespace Px
open Lx (Bs Tok)
def dfold(s:Bs)(a:Nat):Nat:=s.foldl (fun n c=>10*n+(c.toNat-48)) a
theorem jD(s:Bs):iM s=dfold s 0:=by unfold iM dfold;exact Eq.refl _
theorem eQ(c:UInt8)(s:Bs)(a:Nat):dfold (c::s) a=dfold s (10*a+(c.toNat-48)):=by unfold dfold;rw[List.foldl_cons]
theorem zZ:∀(s:Bs) (a:Nat),a<=dfold s a
 |[],a=>nlr _
 |c::s,a=>by rw[eQ];exact Nat.le_trans (by omega) (zZ s _)
theorem AR:∀(s t:Bs) (a b:Nat),s.length=t.length->(∀c∈s,Lx.aH c=true)->a<b->dfold s a<dfold t b
 |[],[],a,b,_,_,h=>h
 |[],_::_,_,_,h,_,_=>by simp at h
 |_::_,[],_,_,h,_,_=>by simp at h
 |c::s,d::t,a,b,hl,hd,h=>by
  rw[eQ,eQ];have hc:=hd c (by simp);simp only[Lx.aH,decide_eq_true_eq]at hc;exact AR s t _ _ (by simpa using hl) (fun x hx=>hd x (by simp[hx])) (by omega)
theorem vg:∀(s t:Bs) (a:Nat),s.length=t.length->(∀c∈s,Lx.aH c=true)->(∀c∈t,Lx.aH c=true)->Op.bytesLess s t=true->dfold s a<dfold t a
 |[],[],_,_,_,_,h=>by simp[Op.bytesLess]at h
 |[],_::_,_,h,_,_,_=>by simp at h
 |_::_,[],_,h,_,_,_=>by simp at h
 |c::s,d::t,a,hl,hs,ht,h=>by
  rw[eQ,eQ];have hc:=hs c (by simp);have hd:=ht d (by simp);simp only[Lx.aH,decide_eq_true_eq]at hc hd;simp only[Op.bytesLess,Bool.or_eq_true,decide_eq_true_eq,Bool.and_eq_true,beq_iff_eq]at h;rcases h with h|⟨rfl,h⟩
  · have:c.toNat<d.toNat:=UInt8.lt_iff_toNat_lt.1 h;exact AR s t _ _ (by simpa using hl) (fun x hx=>hs x (by simp[hx])) (by omega)
  exact vg s t _ (by simpa using hl) (fun x hx=>hs x (by simp[hx])) (fun x hx=>ht x (by simp[hx])) h
theorem pF:∀(s:Bs) (a:Nat),(∀c∈s,Lx.aH c=true)->dfold s a+1<=(a+1)*10^s.length
 |[],a,_=>by simp[dfold]
 |c::s,a,h=>by
  rw[eQ];have hc:=h c (by simp);simp only[Lx.aH,decide_eq_true_eq]at hc;have i:=pF s (10*a+(c.toNat-48)) (fun x hx=>h x (by simp[hx]));have e:(10*a+(c.toNat-48)+1)*10^s.length<=(10*(a+1))*10^s.length:=Nat.mul_le_mul_right _ (by omega);rw[List.length_cons,Nat.pow_succ,show(a+1)*(10^s.length*10)=(10*(a+1))*10^s.length from by rw[Nat.mul_comm (10^s.length) 10,<-Nat.mul_assoc,Nat.mul_comm (a+1) 10]];omega
theorem pO:iM Lx.top=9223372036854775808:=by decide
theorem IA:∀c∈Lx.top,Lx.aH c=true:=by decide
theorem Ku{t:Bs}(hd:∀b∈t,Lx.aH b=true)(ho:Lx.dR t=false)(hne:t≠Lx.top):iM t<9223372036854775808:=by
 simp only[Lx.dR,Bool.or_eq_false_iff,Bool.and_eq_false_iff,decide_eq_false_iff_not,Bool.not_eq_eq_eq_not,Bool.not_false]at ho;obtain⟨h1,h2⟩:=ho;rcases h2 with h2|h2
 · have i:=pF t 0 hd
   have hl:t.length<=18:=by omega
   have e:10^t.length<=10^18:=Nat.pow_le_pow_right (by omega) hl;rw[jD]
   have:(10:Nat)^18=1000000000000000000:=by decide
   omega
 by_cases hl:t.length=19
 · rcases h2 with h2|h2
   · have:=vg t Lx.top 0 hl hd IA h2;rw[<-jD,<-jD,pO]at this;exact this
   exact absurd (by simpa using h2) hne
 have i:=pF t 0 hd;have e:10^t.length<=10^18:=Nat.pow_le_pow_right (by omega) (by omega);rw[jD]
 have:(10:Nat)^18=1000000000000000000:=by decide
 omega
end Px
end
section
namespace Px
open Lx (Bs Tok)
theorem oH:∀n l,∀m r,n<=m->tr n l=some r->tr m l=some r:=by
 intro n
 induction n with
 |zero=>intro l m r _ h;cases h
 |succ n ih=>
  intro l m r hm h
  cases m with
  |zero=>omega
  |succ m=>
   cases l with
   |nil=>cases h
   |cons x t=>
    unfold tr at h⊢
    split at h
    · rename_i c;rw[if_pos c];exact h
    rename_i c;rw[if_neg c]
    split at h
    · rename_i c2;rw[if_pos c2];obtain⟨y,h1,h2⟩:=Option.bind_eq_some_iff.1 h;rw[ih t m y (by omega) h1];exact h2
    rename_i c2;rw[if_neg c2]
    split at h
    · rename_i c3;rw[if_pos c3];obtain⟨y,h1,h2⟩:=Option.bind_eq_some_iff.1 h;obtain⟨z,h3,h4⟩:=Option.bind_eq_some_iff.1 h2;rw[ih t m y (by omega) h1];show(tr m y.2).bind _=_;rw[ih y.2 m z (by omega) h3];exact h4
    cases h
def Cc(b:List Nd)(d:Nat):Prop:=(∀q,∃n,n<=b.length/\tr n (b++q)=some (d,q))/\d<=b.length/\∃x r,b=x::r/\dX x.kind=true
theorem Cc.leaf(k:Int)(t:Bs)(n:Int)(h:dX k=true):Cc (leaf k t n) 1:=by
 refine⟨fun q=>⟨1,by simp[Px.leaf],?_⟩,by simp[Px.leaf],_,_,rfl,h⟩;simp[Px.leaf,tr]
theorem Cc.aO{a:List Nd}(k:Int)(hk:dX k=true)(h:Cc a d):Cc (aO k a) (d+1):=by
 refine⟨fun q=> ?_,by have:=h.2.1;simp[Px.aO];omega,_,_,rfl,hk⟩;obtain⟨n,hl,hn⟩:=h.1 q;refine⟨n+1,by simp[Px.aO];omega,?_⟩;simp only[Px.aO,List.cons_append];unfold tr;rw[if_neg (by show¬(1:Int)=0;decide),if_pos rfl,hn]
 rfl
theorem Cc.bI{a b:List Nd}(k:Int)(hk:dX k=true)(h:Cc a d)(h':Cc b e):Cc (bI k a b) (max d e+1):=by
 refine⟨fun q=> ?_,by have:=h.2.1;have:=h'.2.1;simp[Px.bI];omega,_,_,rfl,hk⟩;obtain⟨n,hl,hn⟩:=h.1 (b++q);obtain⟨m,hl',hm⟩:=h'.1 q;refine⟨max n m+1,by simp[Px.bI];omega,?_⟩;simp only[Px.bI,List.cons_append,laa];unfold tr;rw[if_neg (by show¬(2:Int)=0;decide),if_neg (by show¬(2:Int)=1;decide),if_pos rfl,oH n _ (max n m) _ (Nat.le_max_left _ _) hn];show(tr (max n m) (b++q)).bind _=_;rw[oH m _ (max n m) _ (Nat.le_max_right _ _) hm]
 rfl
theorem xe:∀(l:List (Nat×Bs×Nat)) (lv:Nat) (s:Bs),(∀x∈l,23<=x.2.2/\x.2.2<=36)->opIn l lv s≠0->23<=opIn l lv s/\opIn l lv s<=36
 |[],_,_,_,h=>absurd rfl h
 |x::r,lv,s,hx,h=>by
  unfold opIn at h⊢
  split
  · exact hx x (by simp)
  rename_i c;rw[if_neg c]at h;exact xe r lv s (fun y hy=>hx y (by simp[hy])) h
theorem BQ(m:Nat)(t:Tok)(r:List Tok):oper m (t::r)=if t.kind=50\/t.kind=51 then opIn bP m t.text else 0:=rfl
theorem vG{ts:List Tok}(h:oper m ts≠0):23<=oper m ts/\oper m ts<=36:=by
 cases ts with
 |nil=>exact absurd rfl h
 |cons t r=>
  rw[BQ]at h⊢
  split
  · rename_i c;rw[if_pos c]at h;exact xe bP m t.text (by decide) h
  rename_i c;rw[if_neg c]at h;exact absurd rfl h
def fM(l:List Nd)(d:Nat):Prop:=∀q e,(∃n,n<=q.length+1/\deep n q=some e)->∃n,n<=(l++q).length+1/\deep n (l++q)=some (max d e)
theorem uJ:∀n l,∀m r,n<=m->deep n l=some r->deep m l=some r:=by
 intro n
 induction n with
 |zero=>intro l m r _ h;cases h
 |succ n ih=>
  intro l m r hm h
  cases m with
  |zero=>omega
  |succ m=>
   cases l with
   |nil=>exact h
   |cons x t=>
    unfold deep at h⊢
    split at h
    · rename_i c;rw[if_pos c];obtain⟨y,h1,h2⟩:=Option.bind_eq_some_iff.1 h;obtain⟨z,h3,h4⟩:=Option.bind_eq_some_iff.1 h2;rw[oH (n+1) _ (m+1) y (by omega) h1];show(deep m y.2).bind _=_;rw[ih y.2 m z (by omega) h3];exact h4
    rename_i c;rw[if_neg c];exact ih t m r (by omega) h
theorem fM.nil:fM [] 0:=fun q e ⟨n,h1,h2⟩=>⟨n,h1,by simpa using h2⟩
theorem fM.append{a b:List Nd}(h:fM a d)(h':fM b e):fM (a++b) (max d e):=by
 intro q f hq;have:=h (b++q) _ (h' q f hq);rw[laa,Nat.max_assoc];exact this
theorem fM.plain(x:Nd)(h:dX x.kind=false):fM [x] 0:=by
 intro q e ⟨n,h1,h2⟩;refine⟨n+1,by simp;omega,?_⟩;simp only[List.cons_append,List.nil_append];unfold deep;rw[if_neg (by simp[h]),h2];simp
theorem fM.tree{b:List Nd}(h:Cc b d):fM b d:=by
 intro q e ⟨n,h1,h2⟩;obtain⟨n1,hl,hn⟩:=h.1 q;obtain⟨x,r,rfl,hx⟩:=h.2.2;refine⟨max n n1+1,?_,?_⟩
 · rw[List.length_append];simp only[List.length_cons]at*;omega
 simp only[List.cons_append];unfold deep;rw[if_pos hx];have:tr (max n n1+1) (x::(r++q))=some (d,q):=oH n1 _ _ _ (by omega) hn;rw[this];show(deep (max n n1) q).bind _=_;rw[uJ n q _ _ (Nat.le_max_left _ _) h2]
 rfl
theorem fM.deep{l:List Nd}(h:fM l d):Px.deep (l.length+1) l=some d:=by
 obtain⟨n,h1,h2⟩:=h [] 0 ⟨1,by simp,rfl⟩;rw[List.append_nil,Nat.max_zero]at h2;exact uJ n l _ _ (by simpa using h1) h2
theorem fM.cons{x:Nd}{l:List Nd}(hx:dX x.kind=false)(h:fM l d):fM (x::l) d:=by
 have:=(fM.plain x hx).append h
 rwa [Nat.zero_max]at this
end Px
end
theorem hd{p:Prop}(h:p):Hid p:=h
theorem fG{a b:Bool}(h:a=b):Ending.returned (.bool a)=.returned (.bool b):=by rw[h]
theorem drop_at(s:ByteArray)(k:Nat)(h:k<s.size):s.data.toList.drop k=s[k]::s.data.toList.drop (k+1):=by
 rw[List.drop_eq_getElem_cons (by simpa using h)];rfl
theorem zm(p:UInt8->Bool)(s:ByteArray)(k:Nat)(h:k<s.size):Lx.cnt p (s.data.toList.drop k)=if p s[k]=true then Lx.cnt p (s.data.toList.drop (k+1))+1 else 0:=by
 rw[drop_at s k h];rfl
theorem oo(p:UInt8->Bool)(s:ByteArray)(k:Nat)(h:s.size<=k):Lx.cnt p (s.data.toList.drop k)=0:=by
 rw[List.drop_eq_nil_of_le (by simpa using h)];rfl
theorem Ga(l:Lx.Bs)(a i lo hi:Nat):Lx.folB (l.drop a) i lo hi=Lx.folB l (a+i) lo hi:=by
 unfold Lx.folB;rw[List.getElem?_drop]
def GV(b:Nat)(two near three four:Bool):Nat:=
 if b<128 then 1
 else if(194<=b/\b<=223)/\two=true then 2
 else if(224<=b/\b<=239)/\near=true/\three=true then 3
 else if(240<=b/\b<=244)/\near=true/\three=true/\four=true then 4
 else 0
theorem Hl(s:ByteArray)(a:Nat)(h:a<s.size):Lx.aD (s.data.toList.drop a)=
   GV s[a].toNat (Lx.folB s.data.toList (a+1) 128 191) (Lx.folB s.data.toList (a+1) (Lx.jC s[a].toNat) (Lx.lZ s[a].toNat)) (Lx.folB s.data.toList (a+2) 128 191) (Lx.folB s.data.toList (a+3) 128 191):=by
 have e:=drop_at s a h
 have f:∀i lo hi,Lx.folB (s[a]::s.data.toList.drop (a+1)) i lo hi=Lx.folB s.data.toList (a+i) lo hi:=by
  intro i lo hi;rw[<-e,Ga]
 rw[e];simp only[Lx.aD,GV,f]
theorem Au(ss:List Lx.Bs)(x:Lx.Bs)(k:Nat)(h:k<ss.length):Lx.hasB (ss.drop k) x=(ss.getD k []==x||Lx.hasB (ss.drop (k+1)) x):=by
 rw[List.drop_eq_getElem_cons h,List.getD_eq_getElem?_getD,List.getElem?_eq_getElem h]
 rfl
def dY(ss:List Lx.Bs):Array Value:=(ss.map fun x=>Value.string ⟨x.toArray⟩).toArray
theorem nG(m:UInt8)(b:UInt8)(r:Lx.Bs)(h:b≠m):Lx.betw m (b::r)=(Lx.betw m r).map (fun x=>(b::x.1,x.2+1)):=by
 cases r with
 |nil=>simp[Lx.betw,h]
 |cons c r=>simp[Lx.betw,h]
def bZ(m:UInt8)(l:Lx.Bs)(k:Nat)(acc:Lx.Bs):Prop:=
 Lx.betw m l=(Lx.betw m (l.drop k)).map (fun x=>(acc++x.1,x.2+k))/\acc.length<=k
theorem bZ.start(m:UInt8)(l:Lx.Bs):bZ m l 0 []:=by
 unfold bZ;simp
theorem bZ.other{m:UInt8}{l:Lx.Bs}{acc:Lx.Bs}{b:UInt8}{r:Lx.Bs}(h:bZ m l k acc)(e:l.drop k=b::r)(hb:b≠m):bZ m l (k+1) (acc++[b]):=by
 unfold bZ at*
 have e2:l.drop (k+1)=r:=by rw[<-List.drop_drop,e];rfl
 refine⟨?_,by simp;omega⟩;rw[h.1,e,nG m b r hb,e2,Option.map_map]
 congr 1
 funext x
 simp;omega
theorem bZ.double{m:UInt8}{l:Lx.Bs}{acc:Lx.Bs}{r:Lx.Bs}(h:bZ m l k acc)(e:l.drop k=m::m::r):bZ m l (k+2) (acc++[m]):=by
 unfold bZ at*
 have e2:l.drop (k+2)=r:=by rw[<-List.drop_drop,e];rfl
 refine⟨?_,by simp;omega⟩;rw[h.1,e,e2];simp only[Lx.betw,if_true,Option.map_map]
 congr 1
 funext x
 simp;omega
theorem bZ.last{m:UInt8}{l:Lx.Bs}{acc:Lx.Bs}{r:Lx.Bs}(h:bZ m l k acc)(e:l.drop k=m::r)(hr:r.head? ≠some m):Lx.betw m l=some (acc,k+1):=by
 unfold bZ at*;rw[h.1,e]
 cases r with
 |nil=>simp[Lx.betw];omega
 |cons c r=>
  have:c≠m:=by simpa using hr
  simp[Lx.betw,this];omega
def af(w:World)(b:Nat)(cs:Array Value)(t:TypeId):Prop:=w.heap[b]? =some (.cells cs t (0,0))
theorem af.cell(h:af w b cs t)(i:Nat):w.cell? ⟨b,i,none⟩=cs[i]?:=cell_of_row w b i cs t (0,0) h
theorem af.free(h:af w b cs t)(i:Nat):w.frozen? ⟨b,i,none⟩=false:=by
 unfold af at h;simp[World.frozen?,h]
theorem af.lt(h:af w b cs t):b<w.heap.size:=(geA.1 h).1
theorem af.new(w:World)(cs:Array Value)(t:TypeId):af (w.alloc (.cells cs t)) w.heap.size cs t:=heap_alloc_new w _
theorem af.alloc(h:af w b cs t)(o:Obj):af (w.alloc o) b cs t:=by
 unfold af at*;show(w.heap.push o)[b]? =_;rw[Array.getElem?_push_lt (geA.1 h).1,<-Array.getElem?_eq_getElem];exact h
theorem af.below{W w1:World}{B:Nat}(h:af W b cs t)(hb:Below B W w1)(hlt:b<B):af w1 b cs t:=by
 unfold af at*;rw[hb.block b hlt];exact h
theorem af.drew(h:af w b cs t):af w.drew b cs t:=h
theorem af.set(h:af w b cs t)(i:Nat)(v:Value):af (w.setCell ⟨b,i,none⟩ v) b (cs.setIfInBounds i v) t:=by
 unfold af at*;simp only[World.setCell,Array.getElem?_modify,if_true,h]
 rfl
theorem af.far(h:af w b cs t)(p:Addr)(v:Value)(hp:p.block≠b):af (w.setCell p v) b cs t:=by
 unfold af at*;rw[Below.heap_setCell _ _ _ _ (Ne.symm hp)];exact h
theorem af.three{x y z:Value}(h:af w b #[x,y,z] t):
   (w.cell? ⟨b,0,none⟩=some x/\w.cell? ⟨b,1,none⟩=some y/\w.cell? ⟨b,2,none⟩=some z)/\w.frozen? ⟨b,0,none⟩=false/\w.frozen? ⟨b,1,none⟩=false/\w.frozen? ⟨b,2,none⟩=false:=
 ⟨⟨h.cell 0,h.cell 1,h.cell 2⟩,h.free 0,h.free 1,h.free 2⟩
theorem Bq(s:ByteArray)(a:Nat)(h:a<s.size)(hl:Lx.isLet s[a]=true):Lx.oneT (s.data.toList.drop a)=
   if Lx.hasB Lx.keys (((s.data.toList.drop a).take (Lx.cnt Lx.dn (s.data.toList.drop a))).map Lx.LJ)then .ok (50,((s.data.toList.drop a).take (Lx.cnt Lx.dn (s.data.toList.drop a))).map Lx.LJ,Lx.cnt Lx.dn (s.data.toList.drop a))
   else .ok (18,((s.data.toList.drop a).take (Lx.cnt Lx.dn (s.data.toList.drop a))).map Lx.yQ,Lx.cnt Lx.dn (s.data.toList.drop a)):=by
 have e:=drop_at s a h;rw[e];simp only[Lx.oneT,hl,if_true]
theorem sJ(s:ByteArray)(a:Nat)(h:a<s.size)(hl:Lx.isLet s[a]=false)(hd:Lx.aH s[a]=true):Lx.oneT (s.data.toList.drop a)=
   if Lx.cnt Lx.aH (s.data.toList.drop a)<Lx.cnt Lx.dn (s.data.toList.drop a)then .error 2
   else if Lx.dR (Lx.leastB ((s.data.toList.drop a).take (Lx.cnt Lx.aH (s.data.toList.drop a))))then .error 3
   else .ok (16,Lx.leastB ((s.data.toList.drop a).take (Lx.cnt Lx.aH (s.data.toList.drop a))),Lx.cnt Lx.aH (s.data.toList.drop a)):=by
 have e:=drop_at s a h;rw[e];simp only[Lx.oneT,hl,hd,if_true,if_false,Bool.false_eq_true]
theorem oneT_quote(s:ByteArray)(a:Nat)(h:a<s.size)(hl:Lx.isLet s[a]=false)(hd:Lx.aH s[a]=false)(hq:s[a].toNat=39\/s[a].toNat=34):Lx.oneT (s.data.toList.drop a)=
   match Lx.betw s[a] (s.data.toList.drop (a+1))with
    |none=> .error 2
    |some (t,n)=>
     if Lx.bH t=false\/(s[a].toNat=34/\t=[])then .error 2
     else .ok (if s[a].toNat=34 then 18 else 17,t,n+1):=by
 have e:=drop_at s a h;rw[e];simp only[Lx.oneT,hl,hd,if_true,if_false,Bool.false_eq_true];rw[if_pos hq]
 all_goals(rcases Lx.betw s[a] (s.data.toList.drop (a+1))with _|⟨t,n⟩<;>rfl)
theorem EN(s:ByteArray)(a:Nat)(h:a<s.size)(hl:Lx.isLet s[a]=false)(hd:Lx.aH s[a]=false)(hq:¬(s[a].toNat=39\/s[a].toNat=34)):Lx.oneT (s.data.toList.drop a)=
   if 2<=s.size-a/\Lx.hasB Lx.De ((s.data.toList.drop a).take 2)=true then .ok (51,(s.data.toList.drop a).take 2,2)
   else if Lx.hasB Lx.ones ((s.data.toList.drop a).take 1)=true then .ok (51,(s.data.toList.drop a).take 1,1)
   else .error 2:=by
 have e:=drop_at s a h
 have el:(s.data.toList.drop a).length=s.size-a:=by simp
 rw[<-el,e];simp only[Lx.oneT,hl,hd,if_true,if_false,Bool.false_eq_true];rw[if_neg hq]
def EP(t:Lx.Tok):List Value:=[.int .i64 (t.kind:Int),.string ⟨t.text.toArray⟩,.int .i64 (t.pos:Int)]
def toksV:List Lx.Tok->List Value
 |[]=>[]
 |t::ts=>EP t++toksV ts
theorem nP:∀a b:List Lx.Tok,toksV (a++b)=toksV a++toksV b
 |[],b=>rfl
 |t::a,b=>by simp[toksV,nP a b]
theorem Gb(t:Lx.Tok):toksV [t]=EP t:=by simp[toksV]
def lG(l:Lx.Bs)(k:Nat)(ts:List Lx.Tok):Prop:=
 ts.length<=k/\Lx.lexM 0 (Lx.bJ l) (l.drop (Lx.bJ l))=match Lx.lexM 0 k (l.drop k)with
  |.ok r=> .ok (ts++r)
  |.error e=> .error e
theorem lG.start(l:Lx.Bs):lG l (Lx.bJ l) []:=by
 refine⟨by simp,?_⟩
 cases Lx.lexM 0 (Lx.bJ l) (l.drop (Lx.bJ l))<;>simp
theorem lG.done{l:Lx.Bs}{ts:List Lx.Tok}(h:lG l k ts)(hk:l.length<=k):Lx.lexM 0 (Lx.bJ l) (l.drop (Lx.bJ l))=.ok ts:=by
 rw[h.2,List.drop_eq_nil_of_le hk];simp[Lx.lexM]
theorem lG.fail{l:Lx.Bs}{ts:List Lx.Tok}(h:lG l k ts)(hk:k<l.length)(h1:Lx.oneT (l.drop k)=.error e):Lx.lexM 0 (Lx.bJ l) (l.drop (Lx.bJ l))=.error (k,e):=by
 rw[h.2];have e1:=List.drop_eq_getElem_cons hk;rw[e1]at h1⊢;rw[Lx.jo,h1]
theorem lG.step{l:Lx.Bs}{c:Nat}{t:Lx.Bs}{ts:List Lx.Tok}(h:lG l k ts)(hk:k<l.length)(h1:Lx.oneT (l.drop k)=.ok (c,t,n)):lG l (k+n+Lx.bJ (l.drop (k+n))) (ts++[⟨c,t,k⟩]):=by
 have hl:=Lx.iB h1;refine⟨by have:=h.1;simp;omega,?_⟩;rw[h.2];have e1:=List.drop_eq_getElem_cons hk;rw[e1]at h1⊢;rw[Lx.jo,h1];dsimp only;rw[<-e1,List.drop_drop,List.drop_drop]
 cases Lx.lexM 0 (k+n+Lx.bJ (l.drop (k+n))) (l.drop (k+n+Lx.bJ (l.drop (k+n))))<;>simp
theorem Below.grownBy{w':World}{row:Option Nat}(h:Below w.heap.size w w'):w.grownBy w' row:=⟨h.os,h.tape,h.output,h.size,fun k hk _=>h.block k hk⟩
theorem dA{w1:World}{base:Nat}{e:TypeId}{size:Nat}{v:Value}{xs:List Value}(h:w.ownsRow base e size v n xs)(hb:Below w.heap.size w w1):w1.ownsRow base e size v n xs:=
 h.kept (row:=none) (Below.grownBy hb) (by cases v.ownBlock<;>simp)
theorem Tryz.info146:(Tryz.prog.info? 146).map (fun i=>(i.zero,i.size,i.bytes))=some (some (.agg #[.int .i64 0,.string ⟨#[]⟩,.int .i64 0]),3,32):=by kernel_rfl
theorem Dy(w:World)(x y z:Value)(T:TypeId)(g:Nat)(hg:g=w.heap.size):∀j u,[x,y,z][j]? =some u->(w.alloc (.cells #[x,y,z] T)).cell? ((⟨g,0,none⟩:Addr).add j)=some u:=by
 intro j u hj;subst hg;rw[Addr.add_lit,Nat.zero_add,(af.new w #[x,y,z] T).cell j];rw[<-hj];simp
theorem xN:∀(ts:List Lx.Tok) (k:Nat) (h:k<ts.length),(toksV ts)[k*3]? =some (.int .i64 (ts[k].kind:Int))/\(toksV ts)[k*3+1]? =some (.string ⟨ts[k].text.toArray⟩)/\(toksV ts)[k*3+2]? =some (.int .i64 (ts[k].pos:Int))
 |t::ts,0,_=>⟨rfl,rfl,rfl⟩
 |t::ts,k+1,h=>by
  have ih:=xN ts k (by simpa using h)
  have e:∀j,(toksV (t::ts))[j+3]? =(toksV ts)[j]?:=by
   intro j;show(EP t++toksV ts)[j+3]? =_;rw[List.getElem?_append_right (by simp[EP])];simp[EP]
  rw[show(k+1)*3=k*3+3 from by omega,show k*3+3+1=(k*3+1)+3 from by omega,show k*3+3+2=(k*3+2)+3 from by omega,e,e,e];simpa using ih
def vH(ts:List Lx.Tok)(sz k:Nat):Lx.Tok:=(ts[k]?).getD ⟨0,[],sz⟩
def gN(t:Lx.Tok):Value:=.agg #[.int .i64 (t.kind:Int),.string ⟨t.text.toArray⟩,.int .i64 (t.pos:Int)]
theorem Jc(s:ByteArray)(k lo hi:Nat):Lx.folB s.data.toList k lo hi=decide (k<s.size/\lo<=(s.get! k).toNat/\(s.get! k).toNat<=hi):=by
 unfold Lx.folB;by_cases h:k<s.size
 · rw[List.getElem?_eq_getElem (by simpa using h)]
   have e:s.get! k=s[k]:=by
    simp[ByteArray.get!,getElem!_pos,h]
    rfl
   rw[e];simp[h]
   rfl
 rw[List.getElem?_eq_none (by simpa using h)];simp[h]
theorem bV(s:ByteArray)(k:Nat)(h:k<s.size):s.get! k=s[k]:=by
 simp[ByteArray.get!,getElem!_pos,h]
 rfl
def jy(n b0 b1 b2 b3:Nat):Nat:=
 if b0<128 then 1
 else if(194<=b0/\b0<=223)/\(1<n/\128<=b1/\b1<=191)then 2
 else if(224<=b0/\b0<=239)/\(1<n/\Lx.jC b0<=b1/\b1<=Lx.lZ b0)/\(2<n/\128<=b2/\b2<=191)then 3
 else if(240<=b0/\b0<=244)/\(1<n/\Lx.jC b0<=b1/\b1<=Lx.lZ b0)/\(2<n/\128<=b2/\b2<=191)/\(3<n/\128<=b3/\b3<=191)then 4
 else 0
theorem p9(s:ByteArray)(i:Nat)(h:i<s.size):Lx.aD (s.data.toList.drop i)=jy (s.size-i) (s.get! i).toNat (s.get! (i+1)).toNat (s.get! (i+2)).toNat (s.get! (i+3)).toNat:=by
 rw[Hl s i h,bV s i h];unfold GV jy;simp only[Jc,decide_eq_true_eq];have c1:(i+1<s.size)=(1<s.size-i):=propext ⟨fun h=>by omega,fun h=>by omega⟩;have c2:(i+2<s.size)=(2<s.size-i):=propext ⟨fun h=>by omega,fun h=>by omega⟩;have c3:(i+3<s.size)=(3<s.size-i):=propext ⟨fun h=>by omega,fun h=>by omega⟩;simp only[c1,c2,c3]
theorem LF(n b0 b1 b2 b3:Nat)(h0:b0<256)(h1:b1<256)(h2:b2<256)(h3:b3<256)(h:jy n b0 b1 b2 b3=0):Lib.decodeN n b0 b1 b2 b3=(65533,1)/\128<=b0:=by
 unfold jy Lx.jC Lx.lZ at h;unfold Lib.decodeN
 repeat' split at h
 all_goals(try(exfalso;omega))
 all_goals
  refine⟨?_,by omega⟩
  repeat' split
  all_goals first|rfl|(exfalso;omega)
theorem J4(n b0 b1 b2 b3:Nat)(h:jy n b0 b1 b2 b3=1):b0<128/\Lib.decodeN n b0 b1 b2 b3=(b0,1):=by
 unfold jy at h
 repeat' split at h
 all_goals(try(exfalso;omega))
 rename_i hb;exact⟨hb,by simp[Lib.decodeN,hb]⟩
theorem D6(n b0 b1 b2 b3:Nat)(h:jy n b0 b1 b2 b3=2):(194<=b0/\b0<=223)/\(1<n/\128<=b1/\b1<=191)/\Lib.decodeN n b0 b1 b2 b3=(b0%32*64+b1%64,2):=by
 unfold jy at h
 repeat' split at h
 all_goals(try(exfalso;omega))
 rename_i hb;refine⟨hb.1,hb.2,?_⟩;unfold Lib.decodeN;rw[if_neg (by omega),if_pos (by omega),if_pos (by omega)]
theorem wM(n b0 b1 b2 b3:Nat)(h:jy n b0 b1 b2 b3=3):(224<=b0/\b0<=239)/\(1<n/\Lx.jC b0<=b1/\b1<=Lx.lZ b0)/\(2<n/\128<=b2/\b2<=191)/\Lib.decodeN n b0 b1 b2 b3=(b0%16*4096+b1%64*64+b2%64,3):=by
 unfold jy at h
 repeat' split at h
 all_goals(try(exfalso;omega))
 rename_i hb;refine⟨hb.1,hb.2.1,hb.2.2,?_⟩;have hl:=hb.2.1;unfold Lx.jC Lx.lZ at hl;unfold Lib.decodeN
 repeat' split at hl
 all_goals rw[if_neg (by omega),if_neg (by omega),if_pos (by omega),if_pos (by omega)]
theorem zY(n b0 b1 b2 b3:Nat)(h:jy n b0 b1 b2 b3=4):(240<=b0/\b0<=244)/\(1<n/\Lx.jC b0<=b1/\b1<=Lx.lZ b0)/\(2<n/\128<=b2/\b2<=191)/\(3<n/\128<=b3/\b3<=191)/\Lib.decodeN n b0 b1 b2 b3=(b0%8*262144+b1%64*4096+b2%64*64+b3%64,4):=by
 unfold jy at h
 repeat' split at h
 all_goals(try(exfalso;omega))
 rename_i hb;refine⟨hb.1,hb.2.1,hb.2.2.1,hb.2.2.2,?_⟩;have hl:=hb.2.1;unfold Lx.jC Lx.lZ at hl;unfold Lib.decodeN
 repeat' split at hl
 all_goals rw[if_neg (by omega),if_neg (by omega),if_neg (by omega),if_pos (by omega),if_pos (by omega)]
theorem byte_back(b:UInt8)(x:Int)(h:x=(b.toNat:Int)):x.toNat.toUInt8=b:=by
 subst h;simp
theorem oN(s:ByteArray)(i:Nat)(h:i<s.size)(hc:Lx.aD (s.data.toList.drop i)=0):Utf8.decode s i=(65533,1)/\128<=s[i].toNat:=by
 rw[p9 s i h]at hc;have:=LF _ _ _ _ _ (UInt8.toNat_lt _) (UInt8.toNat_lt _) (UInt8.toNat_lt _) (UInt8.toNat_lt _) hc;rw[bV s i h]at this;rw[Lib.decode_at,bV s i h];exact this
theorem drop_take(s:ByteArray)(i n:Nat)(h:i+n<=s.size)(l:Lx.Bs)(hl:l.length=n)(hg:∀k,k<n->l[k]? =some (s.get! (i+k))):(s.data.toList.drop i).take n=l:=by
 apply List.ext_getElem?;intro k;by_cases hk:k<n
 · rw[List.getElem?_take_of_lt hk,List.getElem?_drop,hg k hk,bV s (i+k) (by omega),List.getElem?_eq_getElem (by simp;have:s.data.size=s.size:=rfl;omega)]
   rfl
 rw[List.getElem?_eq_none (by simp;omega),List.getElem?_eq_none (by omega)]
theorem jk(s:ByteArray)(i:Nat)(h:i<s.size)(hc:Lx.aD (s.data.toList.drop i)≠0):
   (Utf8.decode s i).2=Lx.aD (s.data.toList.drop i)/\Lib.encodeRune ((Utf8.decode s i).1:Int)=(s.data.toList.drop i).take (Lx.aD (s.data.toList.drop i))/\
     ((Lx.aD (s.data.toList.drop i)=1/\(Utf8.decode s i).1=s[i].toNat/\s[i].toNat<128)\/(1<Lx.aD (s.data.toList.drop i)/\128<=(Utf8.decode s i).1/\128<=s[i].toNat)):=by
 have hle:=Lx.gF (s.data.toList.drop i);rw[List.length_drop,show s.data.toList.length=s.size from by simp]at hle;have hcls:=p9 s i h;rw[Lib.decode_at];rw[bV s i h]at hcls⊢;have B0:=s[i].toNat_lt
 have hcase:Lx.aD (s.data.toList.drop i)=1\/Lx.aD (s.data.toList.drop i)=2\/Lx.aD (s.data.toList.drop i)=3\/Lx.aD (s.data.toList.drop i)=4:=by
  have:∀n b0 b1 b2 b3,jy n b0 b1 b2 b3=0\/jy n b0 b1 b2 b3=1\/jy n b0 b1 b2 b3=2\/jy n b0 b1 b2 b3=3\/jy n b0 b1 b2 b3=4:=by
   intro n b0 b1 b2 b3;unfold jy
   repeat' split
   all_goals omega
  have:=this (s.size-i) s[i].toNat (s.get! (i+1)).toNat (s.get! (i+2)).toNat (s.get! (i+3)).toNat;rw[<-hcls]at this;omega
 rcases hcase with e|e|e|e
 · rw[e]at hcls hle⊢;obtain⟨q,d⟩:=J4 _ _ _ _ _ hcls.symm;rw[d];refine⟨rfl,?_,.inl ⟨rfl,rfl,q⟩⟩
   rw[drop_take s i 1 (by omega) [s.get! i] rfl (by intro k hk;have:k=0:=by omega
                                                    subst this;rfl)]
   unfold Lib.encodeRune;rw[Lib.encodeRuneZ_one (by omega) (by simp;omega)];simp only[List.map_cons,List.map_nil];rw[byte_back s[i] _ rfl,bV s i h]
 · rw[e]at hcls hle⊢;obtain⟨q,q1,d⟩:=D6 _ _ _ _ _ hcls.symm;rw[d];refine⟨rfl,?_,.inr ⟨by omega,by simp only;omega,by omega⟩⟩
   rw[drop_take s i 2 (by omega) [s.get! i,s.get! (i+1)] rfl (by intro k hk;have:k=0\/k=1:=by omega
                                                                 rcases this with rfl|rfl<;>rfl)]
   unfold Lib.encodeRune;rw[Lib.encodeRuneZ_two (by simp only;omega) (by simp only;omega)];simp only[List.map_cons,List.map_nil];rw[byte_back s[i] _ (by omega),byte_back (s.get! (i+1)) _ (by omega),bV s i h]
 · rw[e]at hcls hle⊢;obtain⟨q,q1,q2,d⟩:=wM _ _ _ _ _ hcls.symm;unfold Lx.jC Lx.lZ at q1;have B1:=(s.get! (i+1)).toNat_lt
   have hr:((2048:Int)<=((s[i].toNat%16*4096+(s.get! (i+1)).toNat%64*64+(s.get! (i+2)).toNat%64:Nat):Int)/\((s[i].toNat%16*4096+(s.get! (i+1)).toNat%64*64+(s.get! (i+2)).toNat%64:Nat):Int)<55296)\/((57343:Int)<((s[i].toNat%16*4096+(s.get! (i+1)).toNat%64*64+(s.get! (i+2)).toNat%64:Nat):Int)/\((s[i].toNat%16*4096+(s.get! (i+1)).toNat%64*64+(s.get! (i+2)).toNat%64:Nat):Int)<=65535):=by
    repeat' split at q1
    all_goals omega
   have hb1:128<=(s.get! (i+1)).toNat/\(s.get! (i+1)).toNat<=191:=by
    repeat' split at q1
    all_goals omega
   rw[d];refine⟨rfl,?_,.inr ⟨by omega,by simp only;omega,by omega⟩⟩
   rw[drop_take s i 3 (by omega) [s.get! i,s.get! (i+1),s.get! (i+2)] rfl (by intro k hk;have:k=0\/k=1\/k=2:=by omega
                                                                              rcases this with rfl|rfl|rfl<;>rfl)]
   unfold Lib.encodeRune;rw[Lib.encodeRuneZ_three hr];simp only[List.map_cons,List.map_nil];rw[byte_back s[i] _ (by omega),byte_back (s.get! (i+1)) _ (by omega),byte_back (s.get! (i+2)) _ (by omega),bV s i h]
 rw[e]at hcls hle⊢;obtain⟨q,q1,q2,q3,d⟩:=zY _ _ _ _ _ hcls.symm;unfold Lx.jC Lx.lZ at q1;have B1:=(s.get! (i+1)).toNat_lt
 have hb1:128<=(s.get! (i+1)).toNat/\(s.get! (i+1)).toNat<=191:=by
  repeat' split at q1
  all_goals omega
 have hr:(65536:Int)<=((s[i].toNat%8*262144+(s.get! (i+1)).toNat%64*4096+(s.get! (i+2)).toNat%64*64+(s.get! (i+3)).toNat%64:Nat):Int)/\((s[i].toNat%8*262144+(s.get! (i+1)).toNat%64*4096+(s.get! (i+2)).toNat%64*64+(s.get! (i+3)).toNat%64:Nat):Int)<=1114111:=by
  repeat' split at q1
  all_goals omega
 rw[d];refine⟨rfl,?_,.inr ⟨by omega,by simp only;omega,by omega⟩⟩
 rw[drop_take s i 4 (by omega) [s.get! i,s.get! (i+1),s.get! (i+2),s.get! (i+3)] rfl (by intro k hk;have:k=0\/k=1\/k=2\/k=3:=by omega
                                                                                         rcases this with rfl|rfl|rfl|rfl<;>rfl)]
 unfold Lib.encodeRune;rw[Lib.encodeRuneZ_four hr.1 hr.2];simp only[List.map_cons,List.map_nil];rw[byte_back s[i] _ (by omega),byte_back (s.get! (i+1)) _ (by omega),byte_back (s.get! (i+2)) _ (by omega),byte_back (s.get! (i+3)) _ (by omega),bV s i h]
end Go.Proofs.YthhhfcdakfbpkaaGreatDoor
