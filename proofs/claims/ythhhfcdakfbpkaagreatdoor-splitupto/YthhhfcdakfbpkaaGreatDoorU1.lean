/- Parts of the proof -/
import GoSem.Claim
import Derived.Test.YthhhfcdakfbpkaaGreatDoorRows
import Derived.WalkKit
import Derived.WalkSpells
import Derived.WalkLawsBesides
import Derived.Deep.Light
import Derived.Lib.Strings
import Derived.Lib.IndexBytes
import Derived.Laws.IdiomStrings
import Derived.BigQuiet
import Derived.Deep.QuietTactic
import Derived.Handy
import Derived.Lib.DecodeN
import Derived.Lib.RuneBytes
open Go.Value renaming int -> Yg, string -> Yi, agg -> Yj
open Go.IntKind renaming i64 -> Yh
open Go.Obj renaming cells -> Yk
open Go.Ending renaming returned -> Yl
open List renaming drop_succ_cons -> Yr, length_take_le -> Yu, length_drop -> Yv, length_cons -> Yw, drop_drop -> Yx, cons_append -> YI, nil_append -> YK, drop_eq_getElem_cons -> YM, drop_eq_nil_of_le -> YN, getElem?_drop -> YO, getElem?_eq_getElem -> YP, toArray -> YR, flatMap_cons -> YU, mem_append -> YW, mem_map -> YX, getElem?_eq_none -> YY, map_cons -> YZ, map_nil -> Y0
open Option renaming map_eq_some_iff -> Yt, map_map -> YQ, toList -> YV, none -> Y1, some -> Y2
open Nat renaming le_max_left -> Yy, le_max_right -> Yz, add_sub_cancel -> YA, le_trans -> YB, mul_comm -> YE, pow_le_pow_right -> YH, max_assoc -> YJ, max_zero -> YL, add_assoc -> YT
open Bool renaming or_eq_true -> YC, and_eq_true -> YD, or_eq_false_iff -> YF, and_eq_false_iff -> YG, false_eq_true -> YS
open Go renaming Value -> Y3, World -> Y4, TypeId -> Y5
namespace Go.Proofs.YthhhfcdakfbpkaaGreatDoor
set_option linter.unusedSimpArgs false
set_option linter.unusedVariables false
set_option maxRecDepth 100000
set_option maxHeartbeats 16000000
open Go.RowKit
theorem laa{α:Type}(a b c:List α):a++b++c=a++(b++c):=List.append_assoc a b c
theorem nlr(n:Nat):n<=n:=Nat.le_refl n
theorem siA{α:Type}(l:List α)(i:Nat)(a:α):l.toArray.setIfInBounds i a=(l.set i a).toArray:=List.setIfInBounds_toArray l i a
theorem szA{α:Type}{x y:α}{l:List α}:(x::l).set 0 y=y::l:=rfl
theorem ssA{α:Type}{x y:α}{l:List α}{n:Nat}:(x::l).set (n+1) y=x::l.set n y:=rfl
theorem nlA{a b c:Nat}:a<b->b<=c->a<c:=Nat.lt_of_lt_of_le
theorem geA{α:Type}{xs:Array α}{i:Nat}{b:α}:xs[i]? =some b↔∃h:i<xs.size,xs[i]=b:=Array.getElem?_eq_some_iff
def Yf(p:Prop):Prop:=p
theorem Yf.o{p:Prop}(h:Yf p):p:=h
variable {b d e k m n p sz:Nat}{w:Y4}{cs:Array Y3}{t:Y5}{x0:Y3}{l:List Y3}
namespace Lx
abbrev Bs:=List UInt8
def aP(b:UInt8):Bool:=decide (48<=b.toNat/\b.toNat<=57)
def isLet(b:UInt8):Bool:=decide ((97<=b.toNat/\b.toNat<=122)\/(65<=b.toNat/\b.toNat<=90)\/b.toNat=95)
def isSp(b:UInt8):Bool:=decide (b.toNat=9\/b.toNat=10\/b.toNat=13\/b.toNat=32)
def dx(b:UInt8):Bool:=aP b||isLet b
def iH(b:UInt8):Bool:=decide (b.toNat≠10)
def cnt(p:UInt8->Bool):Bs->Nat
 |[]=>0
 |b::r=>if p b then cnt p r+1 else 0
theorem jI(p:UInt8->Bool):∀l:Bs,cnt p l<=l.length
 |[]=>by simp[cnt]
 |b::r=>by
  have:=jI p r;unfold cnt;split<;>simp<;>omega
def dW:Bool->Bs->Nat
 |_,[]=>0
 |true,b::r=>if iH b then 1+dW true r else 1+dW false r
 |false,b::r=>if b.toNat=45/\r.head? =Y2 45 then 1+dW true r else if isSp b then 1+dW false r else 0
def bC(l:Bs):Nat:=dW false l
def eQ(l:Bs)(i lo hi:Nat):Bool:=
 match l[i]? with
 |some b=>decide (lo<=b.toNat/\b.toNat<=hi)
 |none=>false
def ma(b:Nat):Nat:=if b=224 then 160 else if b=240 then 144 else 128
def qc(b:Nat):Nat:=if b=237 then 159 else if b=244 then 143 else 191
def aR(l:Bs):Nat:=
 match l with
 |[]=>0
 |b::_=>
  if b.toNat<128 then 1
  else if(194<=b.toNat/\b.toNat<=223)/\eQ l 1 128 191=true then 2
  else if(224<=b.toNat/\b.toNat<=239)/\eQ l 1 (ma b.toNat) (qc b.toNat)=true/\eQ l 2 128 191=true then 3
  else if(240<=b.toNat/\b.toNat<=244)/\eQ l 1 (ma b.toNat) (qc b.toNat)=true/\eQ l 2 128 191=true/\eQ l 3 128 191=true then 4
  else 0
def rq:Nat->Bs->Bool
 |_,[]=>true
 |n+1,_::r=>rq n r
 |0,b::r=>if aR (b::r)=0\/b.toNat=0 then false else rq (aR (b::r)-1) r
def dh(l:Bs):Bool:=rq 0 l
def iQ(m:UInt8):Bs->Option (Bs×Nat)
 |[]=>Y1
 |[b]=>if b=m then Y2 ([],1)else Y1
 |b::c::r=>
  if b=m then
    if c=m then(iQ m r).map (fun x=>(m::x.1,x.2+2))else Y2 ([],1)
  else(iQ m (c::r)).map (fun x=>(b::x.1,x.2+1))
def eH:Bs->Bs
 |b::c::r=>if b.toNat=48 then eH (c::r)else b::c::r
 |l=>l
def top:Bs:=[57,50,50,51,51,55,50,48,51,54,56,53,52,55,55,53,56,48,56]
def gD(t:Bs):Bool:=decide (19<t.length)||(decide (t.length=19)&&(!Op.bytesLess t top&& !(t==top)))
def Mo(b:UInt8):UInt8:=if 97<=b.toNat/\b.toNat<=122 then b-32 else b
def zL(b:UInt8):UInt8:=if 65<=b.toNat/\b.toNat<=90 then b+32 else b
def keys:List Bs:=[[65,78,68],[65,83,67],[66,79,79,76,69,65,78],[66,89],[67,82,69,65,84,69],[68,69,76,69,84,69],[68,69,83,67],[68,82,79,80],[70,65,76,83,69],[70,82,79,77],[73,78,83,69,82,84],[73,78,84,69,71,69,82],[73,78,84,79],[73,83],[76,73,77,73,84],[78,79,84],[78,85,76,76],[79,82],[79,82,68,69,82],[83,69,76,69,67,84],[83,69,84],[84,65,66,76,69],[84,69,88,84],[84,82,85,69],[85,80,68,65,84,69],[86,65,76,85,69,83],[87,72,69,82,69]]
def oq:List Bs:=[[60,62],[60,61],[62,61],[124,124]]
def ones:List Bs:=[[40],[41],[44],[59],[42],[43],[45],[47],[37],[61],[60],[62]]
def hasB:List Bs->Bs->Bool
 |[],_=>false
 |a::r,x=>a==x||hasB r x
def bZ(l:Bs):Except Nat (Nat×Bs×Nat):=
 match l with
 |[]=> .error 2
 |b::r=>
  if isLet b then
    if hasB keys ((l.take (cnt dx l)).map Mo)then .ok (50,(l.take (cnt dx l)).map Mo,cnt dx l)else .ok (18,(l.take (cnt dx l)).map zL,cnt dx l)
  else if aP b then
    if cnt aP l<cnt dx l then .error 2
    else if gD (eH (l.take (cnt aP l)))then .error 3
    else .ok (16,eH (l.take (cnt aP l)),cnt aP l)
  else if b.toNat=39\/b.toNat=34 then
    match iQ b r with
    |none=> .error 2
    |some (t,n)=>
     if dh t=false\/(b.toNat=34/\t=[])then .error 2
     else .ok (if b.toNat=34 then 18 else 17,t,n+1)
  else if 2<=l.length/\hasB oq (l.take 2)=true then .ok (51,l.take 2,2)
  else if hasB ones (l.take 1)=true then .ok (51,l.take 1,1)
  else .error 2
structure Tok where
 kind:Nat
 text:Bs
 pos:Nat
theorem uf{p:UInt8->Bool}{b:UInt8}{r:Bs}(h:p b=true):0<cnt p (b::r):=by
 simp[cnt,h]
def bO:Nat->Nat->Bs->Except (Nat×Nat) (List Tok)
 |_,_,[]=> .ok []
 |n+1,pos,_::r=>bO n (pos+1) r
 |0,pos,b::r=>
  match bZ (b::r)with
  |.error e=> .error (pos,e)
  |.ok (k,t,n)=>
   match bO (n+bC ((b::r).drop n)-1) (pos+1) r with
   |.ok ts=> .ok (⟨k,t,pos⟩::ts)
   |.error e=> .error e
def lex(l:Bs):Except (Nat×Nat) (List Tok):=
 if 2000<l.length then .error (0,1)else bO 0 (bC l) (l.drop (bC l))
theorem ou:∀(m:Bool) (l:Bs),dW m l<=l.length
 |_,[]=>by simp[dW]
 |true,b::r=>by
  have h1:=ou true r;have h2:=ou false r;unfold dW;split<;>simp<;>omega
 |false,b::r=>by
  have h1:=ou true r;have h2:=ou false r;unfold dW;split
  · simp;omega
  split<;>simp<;>omega
theorem xB(l:Bs):bC l<=l.length:=ou false l
theorem jy:∀l:Bs,aR l<=l.length
 |[]=>by simp[aR]
 |b::r=>by
  have f1:∀i lo hi,eQ (b::r) i lo hi=true->i<(b::r).length:=by
   intro i lo hi h;unfold eQ at h
   split at h
   · rename_i x hx;exact(List.getElem?_eq_some_iff.1 hx).1
   simp at h
  simp only[aR]
  split
  · simp
  split
  · rename_i h;have:=f1 _ _ _ h.2;omega
  split
  · rename_i h;have:=f1 _ _ _ h.2.2;omega
  split
  · rename_i h;have:=f1 _ _ _ h.2.2.2;omega
  omega
theorem vN:∀(n:Nat) (l:Bs),n<=l.length->rq n l=rq 0 (l.drop n)
 |0,l,_=>by simp
 |n+1,[],h=>by simp at h
 |n+1,b::r,h=>by
  simp only[rq,Yr];exact vN n r (by simpa using h)
theorem pz(b:UInt8)(r:Bs):dh (b::r)=if aR (b::r)=0\/b.toNat=0 then false else dh ((b::r).drop (aR (b::r))):=by
 have hle:=jy (b::r);simp only[dh]
 conv=>lhs;unfold rq
 split
 · rfl
 rename_i h;rw[vN _ _ (by simp at hle;omega)];obtain⟨n,hn⟩:∃n,aR (b::r)=n+1:=⟨aR (b::r)-1,by omega⟩;rw[hn];simp
theorem AV:∀(n pos:Nat) (l:Bs),n<=l.length->bO n pos l=bO 0 (pos+n) (l.drop n)
 |0,pos,l,_=>by simp
 |n+1,pos,[],h=>by simp at h
 |n+1,pos,b::r,h=>by
  simp only[bO,Yr];rw[AV n (pos+1) r (by simpa using h)]
  congr 1;omega
theorem Cz(m:UInt8):∀(l t:Bs) (n:Nat),iQ m l=Y2 (t,n)->0<n/\n<=l.length/\t.length<n
 |[],t,n,h=>by simp[iQ]at h
 |[b],t,n,h=>by
  simp only[iQ]at h
  split at h
  · simp at h;obtain⟨rfl,rfl⟩:=h;simp
  simp at h
 |b::c::r,t,n,h=>by
  unfold iQ at h
  split at h
  · split at h
    · simp only[Yt,Prod.exists,Prod.mk.injEq]at h;obtain⟨t',n',h1,rfl,rfl⟩:=h;have:=Cz m r t' n' h1;simp;omega
    simp at h;obtain⟨rfl,rfl⟩:=h;simp
  simp only[Yt,Prod.exists,Prod.mk.injEq]at h;obtain⟨t',n',h1,rfl,rfl⟩:=h;have:=Cz m (c::r) t' n' h1;simp at this⊢;omega
theorem Ba:∀l:Bs,(eH l).length<=l.length
 |[]=>by simp[eH]
 |[b]=>by simp[eH]
 |b::c::r=>by
  have:=Ba (c::r);unfold eH;split
  · simp at this⊢;omega
  simp
theorem gT{l:Bs}{t:Bs}(h:bZ l=.ok (k,t,n)):0<n/\n<=l.length/\t.length<=n:=by
 unfold bZ at h
 split at h
 · simp at h
 rename_i b r;have h1:=jI dx (b::r);have h2:=jI aP (b::r)
 split at h
 · rename_i hl;have:0<cnt dx (b::r):=uf (by simp[dx,hl])
   split at h
   · simp only[Except.ok.injEq,Prod.mk.injEq]at h;obtain⟨-,rfl,rfl⟩:=h;exact⟨this,h1,by simp;omega⟩
   simp only[Except.ok.injEq,Prod.mk.injEq]at h;obtain⟨-,rfl,rfl⟩:=h;exact⟨this,h1,by simp;omega⟩
 split at h
 · rename_i hd;have:0<cnt aP (b::r):=uf hd;have h3:=Ba ((b::r).take (cnt aP (b::r)))
   split at h
   · simp at h
   split at h
   · simp at h
   simp only[Except.ok.injEq,Prod.mk.injEq]at h;obtain⟨-,rfl,rfl⟩:=h;refine⟨this,h2,?_⟩;have:=Yu (cnt aP (b::r)) (b::r);omega
 split at h
 · split at h
   · simp at h
   rename_i t' n' hb;have:=Cz _ _ _ _ hb
   split at h
   · simp at h
   simp only[Except.ok.injEq,Prod.mk.injEq]at h;obtain⟨-,rfl,rfl⟩:=h;simp;omega
 split at h
 · rename_i h3;simp only[Except.ok.injEq,Prod.mk.injEq]at h;obtain⟨-,rfl,rfl⟩:=h;exact⟨by omega,h3.1,Yu _ _⟩
 split at h
 · simp only[Except.ok.injEq,Prod.mk.injEq]at h;obtain⟨-,rfl,rfl⟩:=h;exact⟨by omega,by simp,Yu _ _⟩
 simp at h
theorem eX(pos:Nat)(b:UInt8)(r:Bs):bO 0 pos (b::r)=
   match bZ (b::r)with
   |.error e=> .error (pos,e)
   |.ok (k,t,n)=>
    match bO 0 (pos+n+bC ((b::r).drop n)) (((b::r).drop n).drop (bC ((b::r).drop n)))with
    |.ok ts=> .ok (⟨k,t,pos⟩::ts)
    |.error e=> .error e:=by
 conv=>lhs;unfold bO
 split
 · rfl
 rename_i k t n h;have hl:=gT h;have hs:=xB ((b::r).drop n);simp only[Yv,Yw]at hs hl;rw[AV _ _ _ (by omega)];rw[Yx]
 have e1:n+bC ((b::r).drop n)=(n+bC ((b::r).drop n)-1)+1:=by omega
 rw[show(b::r).drop (n+bC ((b::r).drop n))=r.drop (n+bC ((b::r).drop n)-1)from by conv=>lhs;rw[e1];simp];rw[show pos+1+(n+bC ((b::r).drop n)-1)=pos+n+bC ((b::r).drop n)from by omega]
end Lx
section
namespace Px
open Lx (Bs Tok)
structure Nd where
 kind:Int
 text:Bs
 num:Int
 kids:Int
abbrev Out(α:Type):=Option (Except (Nat×Nat) (α×List Tok))
def aC{α β:Type}(x:Out α)(f:α->List Tok->Out β):Out β:=
 match x with
 |none=>Y1
 |some (.error e)=>Y2 (.error e)
 |some (.ok (a,ts))=>f a ts
def nJ(sz:Nat):List Tok->Nat
 |[]=>sz
 |t::_=>t.pos
def sees(s:Bs):List Tok->Bool
 |[]=>false
 |t::_=>(decide (t.kind=50)||decide (t.kind=51))&&t.text==s
def must(sz:Nat)(s:Bs)(ts:List Tok):Out Unit:=
 if sees s ts=true then Y2 (.ok ((),ts.tail))else Y2 (.error (nJ sz ts,4))
def name(sz:Nat):List Tok->Out Bs
 |[]=>Y2 (.error (sz,4))
 |t::r=>if t.kind≠18 then Y2 (.error (t.pos,4))else if 30<t.text.length then Y2 (.error (t.pos,5))else Y2 (.ok (t.text,r))
def VY:Bs:=[79,82]
def Rj:Bs:=[65,78,68]
def fH:Bs:=[78,79,84]
def AA:Bs:=[73,83]
def bq:Bs:=[78,85,76,76]
def gW:Bs:=[84,82,85,69]
def dK:Bs:=[70,65,76,83,69]
def nS:Bs:=[84,65,66,76,69]
def o9:Bs:=[73,78,84,69,71,69,82]
def qC:Bs:=[84,69,88,84]
def ko:Bs:=[66,79,79,76,69,65,78]
def J2:Bs:=[73,78,84,79]
def wX:Bs:=[86,65,76,85,69,83]
def RF:Bs:=[83,69,84]
def bG:Bs:=[87,72,69,82,69]
def eT:Bs:=[70,82,79,77]
def yK:Bs:=[79,82,68,69,82]
def VH:Bs:=[66,89]
def SV:Bs:=[65,83,67]
def Ej:Bs:=[68,69,83,67]
def nM:Bs:=[76,73,77,73,84]
def iq:Bs:=[67,82,69,65,84,69]
def oM:Bs:=[68,82,79,80]
def jw:Bs:=[73,78,83,69,82,84]
def iw:Bs:=[68,69,76,69,84,69]
def lK:Bs:=[85,80,68,65,84,69]
def jN:Bs:=[83,69,76,69,67,84]
def oO:Bs:=[40]
def kJ:Bs:=[41]
def ku:Bs:=[44]
def lV:Bs:=[45]
def Qf:Bs:=[42]
def XY:Bs:=[61]
def cu:List (Nat×Bs×Nat):=[(1,VY,23),(2,Rj,24),(4,[61],25),(4,[60,62],26),(4,[60],27),(4,[60,61],28),(4,[62],29),(4,[62,61],30),(5,[124,124],31),(6,[43],32),(6,[45],33),(7,[42],34),(7,[47],35),(7,[37],36)]
def iU:List (Nat×Bs×Nat)->Nat->Bs->Nat
 |[],_,_=>0
 |x::r,l,s=>if x.1=l/\x.2.1=s then x.2.2 else iU r l s
def oper(l:Nat):List Tok->Nat
 |[]=>0
 |t::_=>if t.kind=50\/t.kind=51 then iU cu l t.text else 0
def aX(k:Int)(a:List Nd):List Nd:=⟨k,[],0,1⟩::a
def bP(k:Int)(a b:List Nd):List Nd:=⟨k,[],0,2⟩::(a++b)
def leaf(k:Int)(t:Bs)(n:Int):List Nd:=[⟨k,t,n,0⟩]
def kX(s:Bs):Nat:=s.foldl (fun n c=>10*n+(c.toNat-48)) 0
def bot:Int:= -9223372036854775808
def negate(at_:Nat)(a:List Nd)(r:List Tok):Out (List Nd):=
 match a with
 |[]=>Y2 (.ok (aX 19 a,r))
 |x::_=>if x.kind≠16 then Y2 (.ok (aX 19 a,r))else if x.num=bot then Y2 (.error (at_,3))else Y2 (.ok (leaf 16 [] (-x.num),r))
def atom(sz:Nat):List Tok->Out (List Nd)
 |[]=>Y2 (.error (sz,4))
 |t::r=>
  if t.kind=16 then if t.text=Lx.top then Y2 (.error (t.pos,3))else Y2 (.ok (leaf 16 [] (kX t.text),r))
  else if t.kind=17 then Y2 (.ok (leaf 17 t.text 0,r))
  else if t.kind=18 then if 30<t.text.length then Y2 (.error (t.pos,5))else Y2 (.ok (leaf 18 t.text 0,r))
  else if t.kind=50 then
    if t.text=bq then Y2 (.ok (leaf 14 [] 0,r))else if t.text=gW then Y2 (.ok (leaf 15 [] 1,r))else if t.text=dK then Y2 (.ok (leaf 15 [] 0,r))
    else Y2 (.error (t.pos,4))
  else Y2 (.error (t.pos,4))
def qH:List Tok->Bool
 |[]=>false
 |t::_=>decide (t.kind=16)&&t.text==Lx.top
def gJ(sz:Nat)(rec5:List Tok->Out (List Nd))(a:List Nd)(r:List Tok):Out (List Nd):=
 if sees AA r=true then
   if sees fH r.tail=true then aC (must sz bq r.tail.tail) fun _ q=>Y2 (.ok (aX 22 a,q))
   else aC (must sz bq r.tail) fun _ q=>Y2 (.ok (aX 21 a,q))
 else if oper 4 r=0 then Y2 (.ok (a,r))
 else aC (rec5 r.tail) fun b q=>Y2 (.ok (bP (oper 4 r) a b,q))
def ex(sz:Nat):Nat->Nat->List Nd->List Tok->Out (List Nd)
 |0,_,_,_=>Y1
 |n+1,m,a,ts=>
  if 10<=m then
    if oper (m-10) ts=0 then Y2 (.ok (a,ts))
    else aC (ex sz n (m-9) [] ts.tail) fun b q=>ex sz n m (bP (oper (m-10) ts) a b) q
  else if m=3 then
    if sees fH ts=true then aC (ex sz n 3 [] ts.tail) fun b q=>Y2 (.ok (aX 20 b,q))
    else ex sz n 4 [] ts
  else if m=4 then aC (ex sz n 5 [] ts) fun b q=>gJ sz (ex sz n 5 []) b q
  else if m=8 then
    if sees lV ts=true then
      if qH ts.tail=true then Y2 (.ok (leaf 16 [] bot,ts.tail.tail))
      else aC (ex sz n 8 [] ts.tail) fun b q=>negate (nJ sz ts) b q
    else ex sz n 9 [] ts
  else if m=9 then
    if sees oO ts=true then aC (ex sz n 1 [] ts.tail) fun b q=>aC (must sz kJ q) fun _ q=>Y2 (.ok (b,q))
    else atom sz ts
  else aC (ex sz n (m+1) [] ts) fun b q=>ex sz n (m+10) b q
def sep{α:Type}(item:Nat->α->List Tok->Out α):Nat->α->List Tok->Out α
 |0,_,_=>Y1
 |n+1,a,ts=>aC (item n a ts) fun b q=>if sees ku q=true then sep item n b q.tail else Y2 (.ok (b,q))
def Kb(sz:Nat)(ts:List Tok):Out Int:=
 if sees o9 ts=true then if sees qC ts.tail=true then Y2 (.error (nJ sz ts.tail,4))else Y2 (.ok (1,ts.tail))
 else if sees qC ts=true then Y2 (.ok (2,ts.tail))
 else aC (must sz ko ts) fun _ q=>Y2 (.ok (3,q))
def Dw(sz:Nat)(l:List Nd)(ts:List Tok):Out (List Nd):=
 aC (name sz ts) fun nm q=>
 if l.length=6 then Y2 (.error (nJ sz ts,4))
 else aC (Kb sz q) fun k q=>
 if sees fH q=true then aC (must sz bq q.tail) fun _ q=>Y2 (.ok (l++[⟨2,nm,k+4,0⟩],q))
 else Y2 (.ok (l++[⟨2,nm,k,0⟩],q))
def create(sz n:Nat)(ts:List Tok):Out (List Nd):=
 aC (must sz nS ts) fun _ q=>aC (name sz q) fun t q=>aC (must sz oO q) fun _ q=>
 aC (sep (fun _ l q=>Dw sz l q) n [] q) fun l q=>aC (must sz kJ q) fun _ q=>
 Y2 (.ok (⟨1,t,0,l.length⟩::l,q))
def item(sz n:Nat)(x:List Nd×Nat)(ts:List Tok):Out (List Nd×Nat):=
 aC (ex sz n 1 [] ts) fun e q=>Y2 (.ok ((x.1++e,x.2+1),q))
def row(sz n:Nat)(x:List Nd×Nat)(ts:List Tok):Out (List Nd×Nat):=
 aC (must sz oO ts) fun _ q=>aC (sep (item sz) n ([],0) q) fun y q=>aC (must sz kJ q) fun _ q=>
 Y2 (.ok ((x.1++(⟨5,[],0,y.2⟩::y.1),x.2+1),q))
def insert(sz n:Nat)(ts:List Tok):Out (List Nd):=
 aC (must sz J2 ts) fun _ q=>aC (name sz q) fun t q=>aC (must sz wX q) fun _ q=>
 aC (sep (row sz) n ([],0) q) fun x q=>Y2 (.ok (⟨4,t,0,x.2⟩::x.1,q))
def iA(sz n:Nat)(ts:List Tok):Out (List Nd×Nat):=
 if sees bG ts=true then aC (ex sz n 1 [] ts.tail) fun e q=>Y2 (.ok ((aX 11 e,1),q))else Y2 (.ok (([],0),ts))
def Ch(sz n:Nat)(x:List Nd×Nat)(ts:List Tok):Out (List Nd×Nat):=
 aC (name sz ts) fun nm q=>aC (must sz XY q) fun _ q=>aC (ex sz n 1 [] q) fun e q=>
 Y2 (.ok ((x.1++(⟨8,nm,0,1⟩::e),x.2+1),q))
def update(sz n:Nat)(ts:List Tok):Out (List Nd):=
 aC (name sz ts) fun t q=>aC (must sz RF q) fun _ q=>aC (sep (Ch sz) n ([],0) q) fun x q=>
 aC (iA sz n q) fun y q=>Y2 (.ok (⟨7,t,0,x.2+y.2⟩::(x.1++y.1),q))
def pick(sz n:Nat)(x:List Nd×Nat)(ts:List Tok):Out (List Nd×Nat):=
 if sees Qf ts=true then Y2 (.ok ((x.1++[⟨10,[],0,0⟩],x.2+1),ts.tail))else item sz n x ts
def order(sz n:Nat)(x:List Nd×Nat)(ts:List Tok):Out (List Nd×Nat):=
 aC (ex sz n 1 [] ts) fun e q=>
 if sees SV q=true then Y2 (.ok ((x.1++(⟨12,[],0,1⟩::e),x.2+1),q.tail))
 else if sees Ej q=true then Y2 (.ok ((x.1++(⟨12,[],1,1⟩::e),x.2+1),q.tail))
 else Y2 (.ok ((x.1++(⟨12,[],0,1⟩::e),x.2+1),q))
def limit(sz:Nat):List Tok->Out Nat
 |[]=>Y2 (.error (sz,4))
 |t::r=>if t.kind≠16 then Y2 (.error (t.pos,4))else if t.text=Lx.top\/1000000000<kX t.text then Y2 (.error (t.pos,3))else Y2 (.ok (kX t.text,r))
def orders(sz n:Nat)(x:List Nd×Nat)(ts:List Tok):Out (List Nd×Nat):=
 if sees yK ts=true then aC (must sz VH ts.tail) fun _ q=>sep (order sz) n x q else Y2 (.ok (x,ts))
def limits(sz:Nat)(x:List Nd×Nat)(ts:List Tok):Out (List Nd×Nat):=
 if sees nM ts=true then aC (limit sz ts.tail) fun m q=>Y2 (.ok ((x.1++[⟨13,[],m,0⟩],x.2+1),q))else Y2 (.ok (x,ts))
def choose(sz n:Nat)(ts:List Tok):Out (List Nd):=
 aC (sep (pick sz) n ([],0) ts) fun x q=>aC (must sz eT q) fun _ q=>aC (name sz q) fun t q=>
 aC (iA sz n q) fun y q=>aC (orders sz n (x.1++y.1,x.2+y.2) q) fun z q=>aC (limits sz z q) fun u q=>
 Y2 (.ok (⟨9,t,0,u.2⟩::u.1,q))
def drop(sz:Nat)(ts:List Tok):Out (List Nd):=
 aC (must sz nS ts) fun _ q=>aC (name sz q) fun t q=>Y2 (.ok ([⟨3,t,0,0⟩],q))
def delete(sz n:Nat)(ts:List Tok):Out (List Nd):=
 aC (must sz eT ts) fun _ q=>aC (name sz q) fun t q=>aC (iA sz n q) fun y q=>Y2 (.ok (⟨6,t,0,y.2⟩::y.1,q))
def stmt(sz n:Nat):List Tok->Out (List Nd)
 |[]=>Y2 (.error (sz,4))
 |t::r=>
  if t.kind≠50 then Y2 (.error (t.pos,4))
  else if t.text=iq then create sz n r
  else if t.text=oM then drop sz r
  else if t.text=jw then insert sz n r
  else if t.text=iw then delete sz n r
  else if t.text=lK then update sz n r
  else if t.text=jN then choose sz n r
  else Y2 (.error (t.pos,4))
def whole(sz n:Nat)(ts:List Tok):Out (List Nd):=
 aC (stmt sz n ts) fun a q=>if q=[]then Y2 (.ok (a,[]))else Y2 (.error (nJ sz q,4))
def dP{α:Type}(f:Nat->Out α):Prop:=∀n m r,n<=m->f n=Y2 r->f m=Y2 r
theorem tF{α β:Type}{x:Out α}{f:α->List Tok->Out β}{r:Except (Nat×Nat) (β×List Tok)}(h:aC x f=Y2 r):
   (∃e,x=Y2 (.error e)/\r=.error e)\/∃a ts,x=Y2 (.ok (a,ts))/\f a ts=Y2 r:=by
 unfold aC at h
 split at h
 · cases h
 · rename_i e;cases h;exact Or.inl ⟨_,rfl,rfl⟩
 rename_i a ts;exact Or.inr ⟨a,ts,rfl,h⟩
theorem ag{α:Type}(x:Out α):dP fun _=>x:=fun _ _ _ _ h=>h
theorem aS{α β:Type}{x:Nat->Out α}{f:Nat->α->List Tok->Out β}(hx:dP x)(hf:∀a ts,dP fun n=>f n a ts):dP fun n=>aC (x n) (f n):=by
 intro n m r hnm h;rcases tF h with⟨e,h1,rfl⟩|⟨a,ts,h1,h2⟩
 · show aC (x m) (f m)=_;rw[hx n m _ hnm h1];rfl
 show aC (x m) (f m)=_;rw[hx n m _ hnm h1];exact hf a ts n m r hnm h2
theorem bK{α:Type}{c:Prop}[Decidable c]{x y:Nat->Out α}(hx:dP x)(hy:dP y):dP fun n=>if c then x n else y n:=by
 intro n m r hnm h;by_cases hc:c
 · simp only[if_pos hc]at h⊢;exact hx n m r hnm h
 simp only[if_neg hc]at h⊢;exact hy n m r hnm h
theorem bN(sz:Nat):∀m a ts,dP fun n=>ex sz n m a ts:=by
 have key:∀n k m a ts r,n<=k->ex sz n m a ts=Y2 r->ex sz k m a ts=Y2 r:=by
  intro n
  induction n with
  |zero=>intro k m a ts r _ h;cases h
  |succ n ih=>
   intro k m a ts r hk h
   cases k with
   |zero=>omega
   |succ k=>
    have hk':n<=k:=by omega
    have B:∀{m a ts r} {g:Nat->List Nd->List Tok->Out (List Nd)},(∀b q r,g n b q=Y2 r->g k b q=Y2 r)->aC (ex sz n m a ts) (g n)=Y2 r->aC (ex sz k m a ts) (g k)=Y2 r:=by
     intro m a ts r g hg hh;rcases tF hh with⟨e,h1,rfl⟩|⟨b,q,h1,h2⟩
     · rw[ih k _ _ _ _ hk' h1];rfl
     rw[ih k _ _ _ _ hk' h1];exact hg b q r h2
    unfold ex at h⊢
    split at h
    · rename_i c1;rw[if_pos c1]
      split at h
      · rename_i c2;rw[if_pos c2];exact h
      rename_i c2;rw[if_neg c2];exact B (g:=fun n b q=>ex sz n m (bP (oper (m-10) ts) a b) q) (fun b q r hh=>ih k _ _ _ _ hk' hh) h
    rename_i c1;rw[if_neg c1]
    split at h
    · rename_i c2;rw[if_pos c2]
      split at h
      · rename_i c3;rw[if_pos c3];exact B (g:=fun _ b q=>Y2 (.ok (aX 20 b,q))) (fun _ _ _ hh=>hh) h
      rename_i c3;rw[if_neg c3];exact ih k _ _ _ _ hk' h
    rename_i c2;rw[if_neg c2]
    split at h
    · rename_i c3;rw[if_pos c3];refine B (g:=fun n b q=>gJ sz (ex sz n 5 []) b q) (fun b q r hh=> ?_) h;unfold gJ at hh⊢
      split at hh
      · rename_i c4;rw[if_pos c4];exact hh
      rename_i c4;rw[if_neg c4]
      split at hh
      · rename_i c5;rw[if_pos c5];exact hh
      rename_i c5;rw[if_neg c5];exact B (g:=fun _ b' q'=>Y2 (.ok (bP (oper 4 q) b b',q'))) (fun _ _ _ h3=>h3) hh
    rename_i c3;rw[if_neg c3]
    split at h
    · rename_i c4;rw[if_pos c4]
      split at h
      · rename_i c5;rw[if_pos c5]
        split at h
        · rename_i c6;rw[if_pos c6];exact h
        rename_i c6;rw[if_neg c6];exact B (g:=fun _ b q=>negate (nJ sz ts) b q) (fun _ _ _ hh=>hh) h
      rename_i c5;rw[if_neg c5];exact ih k _ _ _ _ hk' h
    rename_i c4;rw[if_neg c4]
    split at h
    · rename_i c5;rw[if_pos c5]
      split at h
      · rename_i c6;rw[if_pos c6];exact B (g:=fun _ b q=>aC (must sz kJ q) fun _ q=>Y2 (.ok (b,q))) (fun _ _ _ hh=>hh) h
      rename_i c6;rw[if_neg c6];exact h
    rename_i c5;rw[if_neg c5];exact B (g:=fun n b q=>ex sz n (m+10) b q) (fun b q r hh=>ih k _ _ _ _ hk' hh) h
 intro m a ts n k r hnk h;exact key n k m a ts r hnk h
def Ex(sz m:Nat)(a:List Nd)(ts:List Tok)(r:Except (Nat×Nat) (List Nd×List Tok)):Prop:=∃n,ex sz n m a ts=Y2 r
theorem Ex.one{a:List Nd}{ts:List Tok}{r r':Except (Nat×Nat) (List Nd×List Tok)}(h:Ex sz m a ts r)(h':Ex sz m a ts r'):r=r':=by
 obtain⟨n,hn⟩:=h;obtain⟨k,hk⟩:=h';have e1:=bN sz m a ts n (max n k) r (Yy _ _) hn;have e2:=bN sz m a ts k (max n k) r' (Yz _ _) hk;exact Option.some.inj (e1.symm.trans e2)
end Px
end
section
namespace Px
open Lx (Bs Tok)
abbrev kH(α:Type):=Except (Nat×Nat) (α×List Tok)
def Then{α β:Type}(r:kH α)(f:α->List Tok->kH β->Prop)(r':kH β):Prop:=
 match r with
 |.error e=>r'=.error e
 |.ok (b,q)=>f b q r'
theorem ny{a:List Nd}{ts:List Tok}{r r':kH (List Nd)}{g:Nat->List Nd->List Tok->Out (List Nd)}(hg:∀b q,dP fun n=>g n b q)
   (h:Ex sz m a ts r) (h':Then r (fun b q s=>∃n,g n b q=Y2 s) r'):∃n,aC (ex sz n m a ts) (g n)=Y2 r':=by
 obtain⟨n,hn⟩:=h
 match r,h' with
 |.error e,h'=>
  refine⟨n,?_⟩;rw[hn];simp only[Then]at h';rw[h'];rfl
 |.ok (b,q),h'=>
  obtain⟨k,hk⟩:=h';refine⟨max n k,?_⟩;rw[show ex sz (max n k) m a ts=_ from bN sz m a ts n (max n k) _ (Yy _ _) hn];exact hg b q k (max n k) r' (Yz _ _) hk
theorem Ex.not{a:List Nd}{ts:List Tok}{r r':kH (List Nd)}(hs:sees fH ts=true)(h:Ex sz 3 [] ts.tail r)(h':Then r (fun b q s=>s=.ok (aX 20 b,q)) r'):Ex sz 3 a ts r':=by
 obtain⟨n,hn⟩:=ny (g:=fun _ b q=>Y2 (.ok (aX 20 b,q))) (fun b q=>ag _) h (r':=r') (by
  match r,h' with
  |.error e,h'=>exact h'
  |.ok (b,q),h'=>exact⟨0,by rw[show r'=_ from h']⟩)
 refine⟨n+1,?_⟩;unfold ex;rw[if_neg (by omega),if_pos rfl,if_pos hs];exact hn
theorem Ex.XU{a:List Nd}{ts:List Tok}{r:kH (List Nd)}(hs:sees fH ts=false)(h:Ex sz 4 [] ts r):Ex sz 3 a ts r:=by
 obtain⟨n,hn⟩:=h;refine⟨n+1,?_⟩;unfold ex;rw[if_neg (by omega),if_pos rfl,if_neg (by simp[hs])];exact hn
theorem Fp(sz:Nat)(b:List Nd)(q:List Tok):dP fun n=>gJ sz (ex sz n 5 []) b q:=by
 unfold gJ;refine bK (ag _) (bK (ag _) (aS (bN sz 5 [] _) fun _ _=>ag _))
theorem Ex.cmp{a:List Nd}{ts:List Tok}{r r':kH (List Nd)}(h:Ex sz 5 [] ts r)(h':Then r (fun b q s=>∃n,gJ sz (ex sz n 5 []) b q=Y2 s) r'):Ex sz 4 a ts r':=by
 obtain⟨n,hn⟩:=ny (g:=fun n b q=>gJ sz (ex sz n 5 []) b q) (fun b q=>Fp sz b q) h h';refine⟨n+1,?_⟩;unfold ex;rw[if_neg (by omega),if_neg (by omega),if_pos rfl];exact hn
theorem GD{b:List Nd}{q:List Tok}(hs:sees AA q=true)(hn:sees fH q.tail=false):
   ∃n,gJ sz (ex sz n 5 []) b q=Y2 (if sees bq q.tail=true then .ok (aX 21 b,q.tail.tail)else .error (nJ sz q.tail,4)):=by
 refine⟨0,?_⟩;unfold gJ must;rw[if_pos hs,if_neg (by simp[hn])]
 split<;>simp[aC, *]
theorem Gp{b:List Nd}{q:List Tok}(hs:sees AA q=true)(hn:sees fH q.tail=true):
   ∃n,gJ sz (ex sz n 5 []) b q=Y2 (if sees bq q.tail.tail=true then .ok (aX 22 b,q.tail.tail.tail)else .error (nJ sz q.tail.tail,4)):=by
 refine⟨0,?_⟩;unfold gJ must;rw[if_pos hs,if_pos hn]
 split<;>simp[aC, *]
theorem yI{b:List Nd}{q:List Tok}(hs:sees AA q=false)(ho:oper 4 q=0):∃n,gJ sz (ex sz n 5 []) b q=Y2 (.ok (b,q)):=by
 refine⟨0,?_⟩;unfold gJ;rw[if_neg (by simp[hs]),if_pos ho]
theorem EI{b:List Nd}{q:List Tok}{r r':kH (List Nd)}(hs:sees AA q=false)(ho:oper 4 q≠0)(h:Ex sz 5 [] q.tail r)(h':Then r (fun c p s=>s=.ok (bP (oper 4 q) b c,p)) r'):
   ∃n,gJ sz (ex sz n 5 []) b q=Y2 r':=by
 obtain⟨n,hn⟩:=ny (g:=fun _ c p=>Y2 (.ok (bP (oper 4 q) b c,p))) (fun _ _=>ag _) h (r':=r') (by
  match r,h' with
  |.error e,h'=>exact h'
  |.ok (c,p),h'=>exact⟨0,by rw[show r'=_ from h']⟩)
 refine⟨n,?_⟩;unfold gJ;rw[if_neg (by simp[hs]),if_neg ho];exact hn
theorem Ex.top{a:List Nd}{ts:List Tok}(hs:sees lV ts=true)(ht:qH ts.tail=true):Ex sz 8 a ts (.ok (leaf 16 [] bot,ts.tail.tail)):=by
 refine⟨1,?_⟩;unfold ex;rw[if_neg (by omega),if_neg (by omega),if_neg (by omega),if_pos rfl,if_pos hs,if_pos ht]
theorem Ex.neg{a:List Nd}{ts:List Tok}{r r':kH (List Nd)}(hs:sees lV ts=true)(ht:qH ts.tail=false)(h:Ex sz 8 [] ts.tail r)(h':Then r (fun b q s=>negate (nJ sz ts) b q=Y2 s) r'):Ex sz 8 a ts r':=by
 obtain⟨n,hn⟩:=ny (g:=fun _ b q=>negate (nJ sz ts) b q) (fun _ _=>ag _) h (r':=r') (by
  match r,h' with
  |.error e,h'=>exact h'
  |.ok (b,q),h'=>exact⟨0,h'⟩)
 refine⟨n+1,?_⟩;unfold ex;rw[if_neg (by omega),if_neg (by omega),if_neg (by omega),if_pos rfl,if_pos hs,if_neg (by simp[ht])];exact hn
theorem Ex.XV{a:List Nd}{ts:List Tok}{r:kH (List Nd)}(hs:sees lV ts=false)(h:Ex sz 9 [] ts r):Ex sz 8 a ts r:=by
 obtain⟨n,hn⟩:=h;refine⟨n+1,?_⟩;unfold ex;rw[if_neg (by omega),if_neg (by omega),if_neg (by omega),if_pos rfl,if_neg (by simp[hs])];exact hn
theorem Ex.Ve{a:List Nd}{ts:List Tok}{r r':kH (List Nd)}(hs:sees oO ts=true)(h:Ex sz 1 [] ts.tail r)
   (h':Then r (fun b q s=>s=if sees kJ q=true then .ok (b,q.tail)else .error (nJ sz q,4)) r'):Ex sz 9 a ts r':=by
 obtain⟨n,hn⟩:=ny (g:=fun _ b q=>aC (must sz kJ q) fun _ q=>Y2 (.ok (b,q))) (fun _ _=>ag _) h (r':=r') (by
  match r,h' with
  |.error e,h'=>exact h'
  |.ok (b,q),h'=>
   refine⟨0,?_⟩;rw[show r'=_ from h'];unfold must
   split<;>simp[aC, *])
 refine⟨n+1,?_⟩;unfold ex;rw[if_neg (by omega),if_neg (by omega),if_neg (by omega),if_neg (by omega),if_pos rfl,if_pos hs];exact hn
theorem Ex.atom{a:List Nd}{ts:List Tok}{r:kH (List Nd)}(hs:sees oO ts=false)(h:atom sz ts=Y2 r):Ex sz 9 a ts r:=by
 refine⟨1,?_⟩;unfold ex;rw[if_neg (by omega),if_neg (by omega),if_neg (by omega),if_neg (by omega),if_pos rfl,if_neg (by simp[hs])];exact h
theorem Ex.left{a:List Nd}{ts:List Tok}{r r':kH (List Nd)}(hm:m<8)(h3:m≠3)(h4:m≠4)(h:Ex sz (m+1) [] ts r)(h':Then r (fun b q s=>Ex sz (m+10) b q s) r'):Ex sz m a ts r':=by
 obtain⟨n,hn⟩:=ny (g:=fun n b q=>ex sz n (m+10) b q) (fun b q=>bN sz _ b q) h h';refine⟨n+1,?_⟩;unfold ex;rw[if_neg (by omega),if_neg h3,if_neg h4,if_neg (by omega),if_neg (by omega)];exact hn
theorem Ex.end_{a:List Nd}{ts:List Tok}(ho:oper m ts=0):Ex sz (m+10) a ts (.ok (a,ts)):=by
 refine⟨1,?_⟩;unfold ex;rw[if_pos (by omega),if_pos (by rw[YA];exact ho)]
theorem Ex.more{a:List Nd}{ts:List Tok}{r r':kH (List Nd)}(ho:oper m ts≠0)(h:Ex sz (m+1) [] ts.tail r)(h':Then r (fun b q s=>Ex sz (m+10) (bP (oper m ts) a b) q s) r'):Ex sz (m+10) a ts r':=by
 obtain⟨n,hn⟩:=ny (g:=fun n b q=>ex sz n (m+10) (bP (oper m ts) a b) q) (fun b q=>bN sz _ _ q) h h';refine⟨n+1,?_⟩;unfold ex;rw[if_pos (by omega),if_neg (by rw[YA];exact ho)];rw[YA,show m+10-9=m+1 by omega];exact hn
theorem uQ{s:Bs}{ts:List Tok}(h:sees s ts=true):∃t r,ts=t::r:=by
 cases ts with
 |nil=>cases h
 |cons t r=>exact⟨t,r,rfl⟩
theorem LM{ts:List Tok}(h:oper m ts≠0):∃t r,ts=t::r:=by
 cases ts with
 |nil=>exact absurd rfl h
 |cons t r=>exact⟨t,r,rfl⟩
theorem bB{s:Bs}{ts:List Tok}(h:sees s ts=true):ts.tail.length+1=ts.length:=by
 obtain⟨t,r,rfl⟩:=uQ h;rfl
theorem Gh{ts:List Tok}(h:oper m ts≠0):ts.tail.length+1=ts.length:=by
 obtain⟨t,r,rfl⟩:=LM h;rfl
theorem aU{s:Bs}{ts:List Tok}{r:kH Unit}(h:must sz s ts=Y2 r):(sees s ts=true/\r=.ok ((),ts.tail))\/(sees s ts=false/\r=.error (nJ sz ts,4)):=by
 unfold must at h
 split at h
 · rename_i c;cases h;exact Or.inl ⟨c,rfl⟩
 rename_i c;cases h;exact Or.inr ⟨by simpa using c,rfl⟩
theorem TW:∀n m a ts b q,ex sz n m a ts=Y2 (.ok (b,q))->(m<10->b≠[]/\b.length+q.length<=ts.length)/\(10<=m->(a≠[]->b≠[])/\b.length+q.length<=a.length+ts.length):=by
 intro n
 induction n with
 |zero=>intro m a ts b q h;cases h
 |succ n ih=>
  intro m a ts b q h;unfold ex at h
  split at h
  · rename_i c1;refine⟨fun h=>by omega,fun _=> ?_⟩
    split at h
    · cases h;exact⟨fun h=>h,nlr _⟩
    rename_i c2;rcases tF h with⟨e,_,h2⟩|⟨b1,q1,h1,h2⟩
    · cases h2
    have i1:=(ih _ _ _ _ _ h1).1;have i2:=(ih _ _ _ _ _ h2).2 c1;have hl:=Gh c2;by_cases hm:m-9<10
    · have:=(i1 hm).2;refine⟨fun _=>i2.1 (by simp[bP]),?_⟩;have i3:=i2.2;simp[bP]at i3;omega
    have:=((ih _ _ _ _ _ h1).2 (by omega)).2;refine⟨fun _=>i2.1 (by simp[bP]),?_⟩;have i3:=i2.2;simp[bP]at i3 this;omega
  rename_i c1;refine⟨fun _=> ?_,fun h=>by omega⟩
  split at h
  · split at h
    · rename_i c3;rcases tF h with⟨e,_,h2⟩|⟨b1,q1,h1,h2⟩
      · cases h2
      cases h2
      have i1:=(ih _ _ _ _ _ h1).1 (by omega);have hl:=bB c3;refine⟨by simp[aX],?_⟩;have:=i1.2;simp[aX];omega
    exact(ih _ _ _ _ _ h).1 (by omega)
  split at h
  · rcases tF h with⟨e,_,h2⟩|⟨b1,q1,h1,h2⟩
    · cases h2
    have i1:=(ih _ _ _ _ _ h1).1 (by omega);unfold gJ at h2
    split at h2
    · rename_i c4;have hl:=bB c4
      split at h2
      · rename_i c5;have hl2:=bB c5;rcases tF h2 with⟨e,_,h3⟩|⟨b2,q2,h3,h4⟩
        · cases h3
        cases h4
        rcases aU h3 with⟨c6,h6⟩|⟨_,h6⟩
        · cases h6
          have hl3:=bB c6;refine⟨by simp[aX],?_⟩;have:=i1.2;simp[aX]at*;omega
        cases h6
      rcases tF h2 with⟨e,_,h3⟩|⟨b2,q2,h3,h4⟩
      · cases h3
      cases h4
      rcases aU h3 with⟨c6,h6⟩|⟨_,h6⟩
      · cases h6
        have hl3:=bB c6;refine⟨by simp[aX],?_⟩;have:=i1.2;simp[aX]at*;omega
      cases h6
    split at h2
    · cases h2;exact i1
    rename_i c5;have hl:=Gh c5;rcases tF h2 with⟨e,_,h3⟩|⟨b2,q2,h3,h4⟩
    · cases h3
    cases h4
    have i2:=(ih _ _ _ _ _ h3).1 (by omega);refine⟨by simp[bP],?_⟩;have:=i1.2;have:=i2.2;simp[bP]at*;omega
  split at h
  · split at h
    · rename_i c5;have hl:=bB c5
      split at h
      · rename_i c6
        cases h
        have hl2:ts.tail.tail.length+1=ts.tail.length:=by
         cases h7:ts.tail with
         |nil=>rw[h7]at c6;cases c6
         |cons t r=>simp
        refine⟨by simp[leaf],?_⟩;simp[leaf]at*;omega
      rcases tF h with⟨e,_,h2⟩|⟨b1,q1,h1,h2⟩
      · cases h2
      have i1:=(ih _ _ _ _ _ h1).1 (by omega);unfold negate at h2
      split at h2
      · cases h2
        refine⟨by simp[aX],?_⟩;have:=i1.2;simp[aX]at*
      split at h2
      · cases h2
        refine⟨by simp[aX],?_⟩;have:=i1.2;simp[aX]at*;omega
      split at h2
      · cases h2
      cases h2
      refine⟨by simp[leaf],?_⟩;have:=i1.2;simp[leaf]at*;omega
    exact(ih _ _ _ _ _ h).1 (by omega)
  split at h
  · split at h
    · rename_i c6;have hl:=bB c6;rcases tF h with⟨e,_,h2⟩|⟨b1,q1,h1,h2⟩
      · cases h2
      have i1:=(ih _ _ _ _ _ h1).1 (by omega);rcases tF h2 with⟨e,_,h3⟩|⟨b2,q2,h3,h4⟩
      · cases h3
      cases h4
      rcases aU h3 with⟨c7,h7⟩|⟨_,h7⟩
      · cases h7
        have hl3:=bB c7;refine⟨i1.1,?_⟩;have:=i1.2;omega
      cases h7
    unfold Px.atom at h
    repeat' split at h
    all_goals first|(cases h;done)|(cases h;simp[leaf];omega)
  rcases tF h with⟨e,_,h2⟩|⟨b1,q1,h1,h2⟩
  · cases h2
  rename_i c2 c3 c4 c5;have i2:=(ih _ _ _ _ _ h2).2 (by omega);by_cases hm:m+1<10
  · have i1:=(ih _ _ _ _ _ h1).1 hm;exact⟨i2.1 i1.1,by have:=i1.2;have:=i2.2;omega⟩
  omega
theorem Ex.len{a b:List Nd}{ts q:List Tok}(hm:m<10)(h:Ex sz m a ts (.ok (b,q))):b≠[]/\b.length+q.length<=ts.length:=by
 obtain⟨n,hn⟩:=h;exact(TW n m a ts b q hn).1 hm
end Px
end
section
namespace Px
open Lx (Bs Tok)
def gM(k:Int):Bool:=decide (14<=k/\k<=36)
def isName(s:Bs):Bool:=Lx.dh s&& !s.isEmpty&&decide (s.length<=30)
def kg(x:Nd)(k:Int):Bool:=x.text.isEmpty&&decide (x.num=0)&&decide (x.kids=k)
def TQ(x:Nd)(r:List Nd):Bool:=
 if x.kind=14 then kg x 0
 else if x.kind=15 then x.text.isEmpty&&(decide (x.num=0)||decide (x.num=1))&&decide (x.kids=0)
 else if x.kind=16 then x.text.isEmpty&&decide (x.kids=0)
 else if x.kind=17 then Lx.dh x.text&&decide (x.num=0)&&decide (x.kids=0)
 else if x.kind=18 then isName x.text&&decide (x.num=0)&&decide (x.kids=0)
 else if x.kind=19 then kg x 1&&(match r with|[]=>true|y::_=>decide (y.kind≠16))
 else if x.kind=20\/x.kind=21\/x.kind=22 then kg x 1
 else decide (23<=x.kind/\x.kind<=36)&&kg x 2
def Sv:Nat->List Nd->Option (List Nd)
 |0,_=>Y1
 |_+1,[]=>Y1
 |d+1,x::r=>if TQ x r=true then(if x.kids=0 then Y2 r else if x.kids=1 then Sv d r else(Sv d r).bind (Sv d))else Y1
def VN:Nat->List Nd->Option (List Nd)
 |0,l=>Y2 l
 |k+1,l=>(Sv 40 l).bind (VN k)
def U7:List Nd->Option (List Nd)
 |[]=>Y1
 |x::r=>
  if x.kind=2 then if isName x.text=true/\x.kids=0/\1<=x.num/\x.num<=7/\x.num≠4 then Y2 r else Y1
  else if x.kind=5 then if x.text=[]/\x.num=0/\1<=x.kids then VN x.kids.toNat r else Y1
  else if x.kind=8 then if isName x.text=true/\x.num=0/\x.kids=1 then Sv 40 r else Y1
  else if x.kind=10 then if kg x 0=true then Y2 r else Y1
  else if x.kind=11 then if kg x 1=true then Sv 40 r else Y1
  else if x.kind=12 then if x.text=[]/\0<=x.num/\x.num<=1/\x.kids=1 then Sv 40 r else Y1
  else if x.kind=13 then if x.text=[]/\0<=x.num/\x.num<=1000000000/\x.kids=0 then Y2 r else Y1
  else Sv 40 (x::r)
def rank(k:Int):Nat:=if k=11 then 2 else if k=12 then 3 else if k=13 then 4 else 1
def fits(top k:Int):Bool:=
 if top=1 then decide (k=2)else if top=4 then decide (k=5)else if top=6 then decide (k=11)
 else if top=7 then decide (k=8)||decide (k=11)
 else if top=9 then gM k||decide (k=10)||decide (k=11)||decide (k=12)||decide (k=13)
 else false
def NV(top:Int):Nat->Nat->Nat->List Nd->Option Nat
 |0,_,things,l=>if l=[]then Y2 things else Y1
 |_+1,_,_,[]=>Y1
 |k+1,last,things,x::r=>
  if fits top x.kind=false\/rank x.kind<last\/(rank x.kind=last/\(rank x.kind=2\/rank x.kind=4))then Y1
  else(U7 (x::r)).bind (NV top k (rank x.kind) (if rank x.kind=1 then things+1 else things))
def well:List Nd->Bool
 |[]=>false
 |x::r=>
  if isName x.text=false\/x.num≠0\/x.kids<0\/(r.length:Int)+1<x.kids then false
  else match NV x.kind x.kids.toNat 1 0 r with
   |none=>false
   |some things=>
    if x.kind=1 then decide (1<=things/\things<=6)
    else if x.kind=3 then decide (x.kids=0)
    else if x.kind=4\/x.kind=7\/x.kind=9 then decide (1<=things)
    else decide (x.kind=6)
def wH:Nat->Nat->Bs
 |0,_=>[]
 |f+1,n=>if n<10 then[(48+n).toUInt8]else wH f (n/10)++[(48+n%10).toUInt8]
def dec(z:Int):Bs:=if z<0 then 45::wH 20 z.natAbs else wH 20 z.natAbs
def WG(m:UInt8)(s:Bs):Bs:=m::(s.flatMap fun b=>if b=m then[b,b]else[b])++[m]
def R5(s:Bs):Bool:=(match s with|[]=>false|b::_=>Lx.isLet b)&&decide (Lx.cnt Lx.dx s=s.length)&& !Lx.hasB Lx.keys (s.map Lx.Mo)&&s.map Lx.zL==s
def qo(s:Bs):Bs:=if R5 s=true then s else WG 34 s
def Vd(x:Nd):Bs:=
 if x.kind=18 then qo x.text else if x.kind=14 then bq else if x.kind=16 then dec x.num else if x.kind=17 then WG 39 x.text else if x.num=1 then gW else dK
def brk(s:Bs)(lvl least:Nat):Bs:=if lvl<least then 40::(s++[41])else s
def wL(k:Int):Bs×Nat:=
 if k=23 then(VY,1)else if k=24 then(Rj,2)else if k=25 then([61],4)else if k=26 then([60,62],4)else if k=27 then([60],4)else if k=28 then([60,61],4)
 else if k=29 then([62],4)else if k=30 then([62,61],4)else if k=31 then([124,124],5)else if k=32 then([43],6)else if k=33 then([45],6)else if k=34 then([42],7)
 else if k=35 then([47],7)else([37],7)
def Ud(s:Bs):Bs:=match s with|45::_=>45::32::s|_=>45::s
def WJ(k:Int)(a:Bs)(lvl:Nat):Bs×Nat:=
 if k=20 then(fH++[32]++brk a lvl 3,3)
 else if k=19 then(Ud (brk a lvl 8),8)
 else if k=21 then(brk a lvl 5++[32,73,83,32,78,85,76,76],4)
 else(brk a lvl 5++[32,73,83,32,78,79,84,32,78,85,76,76],4)
def Xc(k:Int)(a:Bs)(la:Nat)(b:Bs)(lb:Nat):Bs×Nat:=
 (brk a la (if(wL k).2=4 then 5 else(wL k).2)++[32]++(wL k).1++[32]++brk b lb ((wL k).2+1),(wL k).2)
def ext:Nat->List Nd->(Bs×Nat)×List Nd
 |0,l=>(([],0),l)
 |_+1,[]=>(([],0),[])
 |d+1,x::r=>
  if x.kind<=18 then((Vd x,if x.kind=16/\x.num<0 then 8 else 9),r)
  else if x.kind<=22 then(WJ x.kind (ext d r).1.1 (ext d r).1.2,(ext d r).2)
  else(Xc x.kind (ext d r).1.1 (ext d r).1.2 (ext d (ext d r).2).1.1 (ext d (ext d r).2).1.2,(ext d (ext d r).2).2)
def exts:Nat->List Nd->Bs×List Nd
 |0,l=>([],l)
 |1,l=>((ext 40 l).1.1,(ext 40 l).2)
 |k+2,l=>((ext 40 l).1.1++[44,32]++(exts (k+1) (ext 40 l).2).1,(exts (k+1) (ext 40 l).2).2)
def partT:List Nd->Bs×List Nd
 |[]=>([],[])
 |x::r=>
  if x.kind=2 then(qo x.text++[32]++(if x.num%4=1 then o9 else if x.num%4=2 then qC else ko)++(if 4<x.num then[32]++fH++[32]++bq else[]),r)
  else if x.kind=5 then(40::((exts x.kids.toNat r).1++[41]),(exts x.kids.toNat r).2)
  else if x.kind=8 then(qo x.text++[32,61,32]++(ext 40 r).1.1,(ext 40 r).2)
  else if x.kind=10 then([42],r)
  else if x.kind=11 then([32]++bG++[32]++(ext 40 r).1.1,(ext 40 r).2)
  else if x.kind=12 then((ext 40 r).1.1++(if x.num=1 then[32]++Ej else[]),(ext 40 r).2)
  else if x.kind=13 then([32]++nM++[32]++dec x.num,r)
  else((ext 40 (x::r)).1.1,(ext 40 (x::r)).2)
structure QB where
 things:Bs
 iA:Bs
 orders:Bs
 limit:Bs
def Vq(g:QB)(k:Int)(s:Bs):QB:=
 if rank k=1 then{g with things:=(if g.things=[]then[]else g.things++[44,32])++s}
 else if rank k=2 then{g with iA:=s}
 else if rank k=3 then{g with orders:=(if g.orders=[]then[32]++yK++[32]++VH++[32]else g.orders++[44,32])++s}
 else{g with limit:=s}
def UD:Nat->QB->List Nd->QB
 |0,g,_=>g
 |_+1,g,[]=>g
 |k+1,g,x::r=>UD k (Vq g x.kind (partT (x::r)).1) (partT (x::r)).2
def text:List Nd->Bs
 |[]=>[]
 |x::r=>
  let g:=UD x.kids.toNat ⟨[],[],[],[]⟩ r
  if x.kind=1 then iq++[32]++nS++[32]++qo x.text++[32,40]++g.things++[41]
  else if x.kind=3 then oM++[32]++nS++[32]++qo x.text
  else if x.kind=4 then jw++[32]++J2++[32]++qo x.text++[32]++wX++[32]++g.things
  else if x.kind=6 then iw++[32]++eT++[32]++qo x.text++g.iA
  else if x.kind=7 then lK++[32]++qo x.text++[32]++RF++[32]++g.things++g.iA
  else jN++[32]++g.things++[32]++eT++[32]++qo x.text++g.iA++g.orders++g.limit
def print(l:List Nd):Bs×Nat:=if well l=false then([],7)else if 2000<(text l).length then([],1)else(text l,0)
def tr:Nat->List Nd->Option (Nat×List Nd)
 |0,_=>Y1
 |_+1,[]=>Y1
 |n+1,x::r=>
  if x.kids=0 then Y2 (1,r)
  else if x.kids=1 then(tr n r).bind fun y=>Y2 (y.1+1,y.2)
  else if x.kids=2 then(tr n r).bind fun y=>(tr n y.2).bind fun z=>Y2 (max y.1 z.1+1,z.2)
  else Y1
def deep:Nat->List Nd->Option Nat
 |0,_=>Y1
 |_+1,[]=>Y2 0
 |n+1,x::r=>if gM x.kind=true then(tr (n+1) (x::r)).bind fun y=>(deep n y.2).bind fun d=>Y2 (max y.1 d)else deep n r
def Parse(s:Bs)(r:Except (Nat×Nat) (List Nd)):Prop:=
 match Lx.lex s with
 |.error e=>r=.error e
 |.ok ts=>∃n q,whole s.length n ts=Y2 q/\match q with
  |.error e=>r=.error e
  |.ok (a,_)=>∃d,deep (a.length+1) a=Y2 d/\r=if 40<d then .error (0,6)else .ok a
end Px
end
section
namespace Lx
structure Gb(t:Tok):Prop where
 kind:t.kind=16\/t.kind=17\/t.kind=18\/t.kind=50\/t.kind=51
 digs:t.kind=16->t.text≠[]/\(∀b∈t.text,aP b=true)/\gD t.text=false
theorem yo:∀(l:Bs) (b:UInt8),b∈eH l->b∈l
 |[],b,h=>h
 |[x],b,h=>h
 |x::c::r,b,h=>by
  unfold eH at h
  split at h
  · exact List.mem_cons_of_mem _ (yo (c::r) b h)
  exact h
theorem Bq:∀l:Bs,l≠[]->eH l≠[]
 |[],h=>absurd rfl h
 |[x],_=>by simp[eH]
 |x::c::r,_=>by
  unfold eH
  split
  · exact Bq (c::r) (by simp)
  simp
theorem Co(p:UInt8->Bool):∀l:Bs,∀b∈l.take (cnt p l),p b=true
 |[],b,h=>by simp at h
 |x::r,b,h=>by
  unfold cnt at h
  split at h
  · rename_i hx;rw[List.take_succ_cons]at h;rcases List.mem_cons.1 h with rfl|h
    · exact hx
    exact Co p r b h
  simp at h
theorem Q4{l:Bs}{t:Bs}(h:bZ l=.ok (k,t,n))(p:Nat):Gb ⟨k,t,p⟩:=by
 unfold bZ at h
 split at h
 · simp at h
 rename_i b r
 split at h
 · split at h
   · simp only[Except.ok.injEq,Prod.mk.injEq]at h;obtain⟨rfl,rfl,rfl⟩:=h;exact⟨by simp,fun e=>by simp at e⟩
   simp only[Except.ok.injEq,Prod.mk.injEq]at h;obtain⟨rfl,rfl,rfl⟩:=h;exact⟨by simp,fun e=>by simp at e⟩
 split at h
 · rename_i hd
   split at h
   · simp at h
   split at h
   · simp at h
   rename_i h3;simp only[Except.ok.injEq,Prod.mk.injEq]at h;obtain⟨rfl,rfl,rfl⟩:=h;refine⟨by simp,fun _=>⟨Bq _ ?_,fun b hb=> ?_,by simpa using h3⟩⟩
   · have:0<cnt aP (b::r):=uf hd;intro e;have:=congrArg List.length e;simp at this;omega
   exact Co aP _ b (yo _ b hb)
 split at h
 · split at h
   · simp at h
   split at h
   · simp at h
   simp only[Except.ok.injEq,Prod.mk.injEq]at h;obtain⟨rfl,rfl,rfl⟩:=h;refine⟨?_,fun e=> ?_⟩
   · dsimp only;split<;>simp
   dsimp only at e;split at e<;>simp at e
 split at h
 · simp only[Except.ok.injEq,Prod.mk.injEq]at h;obtain⟨rfl,rfl,rfl⟩:=h;exact⟨by simp,fun e=>by simp at e⟩
 split at h
 · simp only[Except.ok.injEq,Prod.mk.injEq]at h;obtain⟨rfl,rfl,rfl⟩:=h;exact⟨by simp,fun e=>by simp at e⟩
 simp at h
theorem Qw:∀(m:Nat) (l:Bs) (pos:Nat) (ts:List Tok),l.length<=m->bO 0 pos l=.ok ts->ts.length<=l.length/\∀t∈ts,Gb t/\pos<=t.pos/\t.pos<pos+l.length/\t.text.length<=l.length:=by
 intro m
 induction m with
 |zero=>
  intro l pos ts hl h;obtain rfl:=List.length_eq_zero_iff.1 (Nat.le_zero.1 hl);simp only[bO,Except.ok.injEq]at h;subst h;exact⟨by simp,fun t ht=>by cases ht⟩
 |succ m ih=>
  intro l pos ts hl h
  cases l with
  |nil=>
   simp only[bO,Except.ok.injEq]at h;subst h;exact⟨by simp,fun t ht=>by cases ht⟩
  |cons b r=>
   rw[eX]at h
   split at h
   · simp at h
   rename_i k t n h1;have hn:=gT h1;have hs:=xB ((b::r).drop n);simp only[Yv,Yw]at hs hn hl
   split at h
   · rename_i us h2;simp only[Except.ok.injEq]at h;subst h;have i:=ih _ _ _ (by simp;omega) h2;simp only[Yv,Yw]at i;refine⟨by simp;omega,fun x hx=> ?_⟩;rcases List.mem_cons.1 hx with rfl|hx
     · exact⟨Q4 h1 pos,nlr _,by simp,by simp;omega⟩
     obtain⟨j1,j2,j3,j4⟩:=i.2 x hx;exact⟨j1,by omega,by simp;omega,by simp;omega⟩
   simp at h
theorem Np{l:Bs}{ts:List Tok}(h:lex l=.ok ts):l.length<=2000/\ts.length<=l.length/\∀t∈ts,Gb t/\t.pos<l.length/\t.text.length<=l.length:=by
 unfold lex at h
 split at h
 · simp at h
 rename_i hl;have hs:=xB l;have i:=Qw _ _ _ _ (nlr _) h;simp only[Yv]at i;refine⟨by omega,by omega,fun t ht=> ?_⟩;obtain⟨j1,j2,j3,j4⟩:=i.2 t ht;exact⟨j1,by omega,by omega⟩
end Lx
namespace Px
open Lx (Bs Tok)
def dfold(s:Bs)(a:Nat):Nat:=s.foldl (fun n c=>10*n+(c.toNat-48)) a
theorem mF(s:Bs):kX s=dfold s 0:=by unfold kX dfold;exact Eq.refl _
theorem iE(c:UInt8)(s:Bs)(a:Nat):dfold (c::s) a=dfold s (10*a+(c.toNat-48)):=by unfold dfold;rw[List.foldl_cons]
theorem Gd:∀(s:Bs) (a:Nat),a<=dfold s a
 |[],a=>nlr _
 |c::s,a=>by rw[iE];exact YB (by omega) (Gd s _)
theorem FO:∀(s t:Bs) (a b:Nat),s.length=t.length->(∀c∈s,Lx.aP c=true)->a<b->dfold s a<dfold t b
 |[],[],a,b,_,_,h=>h
 |[],_::_,_,_,h,_,_=>by simp at h
 |_::_,[],_,_,h,_,_=>by simp at h
 |c::s,d::t,a,b,hl,hd,h=>by
  rw[iE,iE];have hc:=hd c (by simp);simp only[Lx.aP,decide_eq_true_eq]at hc;exact FO s t _ _ (by simpa using hl) (fun x hx=>hd x (by simp[hx])) (by omega)
theorem yc:∀(s t:Bs) (a:Nat),s.length=t.length->(∀c∈s,Lx.aP c=true)->(∀c∈t,Lx.aP c=true)->Op.bytesLess s t=true->dfold s a<dfold t a
 |[],[],_,_,_,_,h=>by simp[Op.bytesLess]at h
 |[],_::_,_,h,_,_,_=>by simp at h
 |_::_,[],_,h,_,_,_=>by simp at h
 |c::s,d::t,a,hl,hs,ht,h=>by
  rw[iE,iE];have hc:=hs c (by simp);have hd:=ht d (by simp);simp only[Lx.aP,decide_eq_true_eq]at hc hd;simp only[Op.bytesLess,YC,decide_eq_true_eq,YD,beq_iff_eq]at h;rcases h with h|⟨rfl,h⟩
  · have:c.toNat<d.toNat:=UInt8.lt_iff_toNat_lt.1 h;exact FO s t _ _ (by simpa using hl) (fun x hx=>hs x (by simp[hx])) (by omega)
  exact yc s t _ (by simpa using hl) (fun x hx=>hs x (by simp[hx])) (fun x hx=>ht x (by simp[hx])) h
theorem uT:∀(s:Bs) (a:Nat),(∀c∈s,Lx.aP c=true)->dfold s a+1<=(a+1)*10^s.length
 |[],a,_=>by simp[dfold]
 |c::s,a,h=>by
  rw[iE];have hc:=h c (by simp);simp only[Lx.aP,decide_eq_true_eq]at hc;have i:=uT s (10*a+(c.toNat-48)) (fun x hx=>h x (by simp[hx]));have e:(10*a+(c.toNat-48)+1)*10^s.length<=(10*(a+1))*10^s.length:=Nat.mul_le_mul_right _ (by omega);rw[Yw,Nat.pow_succ,show(a+1)*(10^s.length*10)=(10*(a+1))*10^s.length from by rw[YE (10^s.length) 10,<-Nat.mul_assoc,YE (a+1) 10]];omega
theorem uD:kX Lx.top=9223372036854775808:=by decide
theorem Od:∀c∈Lx.top,Lx.aP c=true:=by decide
theorem QY{t:Bs}(hd:∀b∈t,Lx.aP b=true)(ho:Lx.gD t=false)(hne:t≠Lx.top):kX t<9223372036854775808:=by
 simp only[Lx.gD,YF,YG,decide_eq_false_iff_not,Bool.not_eq_eq_eq_not,Bool.not_false]at ho;obtain⟨h1,h2⟩:=ho;rcases h2 with h2|h2
 · have i:=uT t 0 hd
   have hl:t.length<=18:=by omega
   have e:10^t.length<=10^18:=YH (by omega) hl;rw[mF]
   have:(10:Nat)^18=1000000000000000000:=by decide
   omega
 by_cases hl:t.length=19
 · rcases h2 with h2|h2
   · have:=yc t Lx.top 0 hl hd Od h2;rw[<-mF,<-mF,uD]at this;exact this
   exact absurd (by simpa using h2) hne
 have i:=uT t 0 hd;have e:10^t.length<=10^18:=YH (by omega) (by omega);rw[mF]
 have:(10:Nat)^18=1000000000000000000:=by decide
 omega
end Px
end
section
namespace Px
open Lx (Bs Tok)
theorem sN:∀n l,∀m r,n<=m->tr n l=Y2 r->tr m l=Y2 r:=by
 intro n
 induction n with
 |zero=>intro l m r _ h;cases h
 |succ n ih=>
  intro l m r hm h
  cases m with
  |zero=>omega
  |succ m=>
   cases l with
   |nil=>cases h
   |cons x t=>
    unfold tr at h⊢
    split at h
    · rename_i c;rw[if_pos c];exact h
    rename_i c;rw[if_neg c]
    split at h
    · rename_i c2;rw[if_pos c2];obtain⟨y,h1,h2⟩:=Option.bind_eq_some_iff.1 h;rw[ih t m y (by omega) h1];exact h2
    rename_i c2;rw[if_neg c2]
    split at h
    · rename_i c3;rw[if_pos c3];obtain⟨y,h1,h2⟩:=Option.bind_eq_some_iff.1 h;obtain⟨z,h3,h4⟩:=Option.bind_eq_some_iff.1 h2;rw[ih t m y (by omega) h1];show(tr m y.2).bind _=_;rw[ih y.2 m z (by omega) h3];exact h4
    cases h
def GI(b:List Nd)(d:Nat):Prop:=(∀q,∃n,n<=b.length/\tr n (b++q)=Y2 (d,q))/\d<=b.length/\∃x r,b=x::r/\gM x.kind=true
theorem GI.leaf(k:Int)(t:Bs)(n:Int)(h:gM k=true):GI (leaf k t n) 1:=by
 refine⟨fun q=>⟨1,by simp[Px.leaf],?_⟩,by simp[Px.leaf],_,_,rfl,h⟩;simp[Px.leaf,tr]
theorem GI.aX{a:List Nd}(k:Int)(hk:gM k=true)(h:GI a d):GI (aX k a) (d+1):=by
 refine⟨fun q=> ?_,by have:=h.2.1;simp[Px.aX];omega,_,_,rfl,hk⟩;obtain⟨n,hl,hn⟩:=h.1 q;refine⟨n+1,by simp[Px.aX];omega,?_⟩;simp only[Px.aX,YI];unfold tr;rw[if_neg (by show¬(1:Int)=0;decide),if_pos rfl,hn]
 rfl
theorem GI.bP{a b:List Nd}(k:Int)(hk:gM k=true)(h:GI a d)(h':GI b e):GI (bP k a b) (max d e+1):=by
 refine⟨fun q=> ?_,by have:=h.2.1;have:=h'.2.1;simp[Px.bP];omega,_,_,rfl,hk⟩;obtain⟨n,hl,hn⟩:=h.1 (b++q);obtain⟨m,hl',hm⟩:=h'.1 q;refine⟨max n m+1,by simp[Px.bP];omega,?_⟩;simp only[Px.bP,YI,laa];unfold tr;rw[if_neg (by show¬(2:Int)=0;decide),if_neg (by show¬(2:Int)=1;decide),if_pos rfl,sN n _ (max n m) _ (Yy _ _) hn];show(tr (max n m) (b++q)).bind _=_;rw[sN m _ (max n m) _ (Yz _ _) hm]
 rfl
theorem Bv:∀(l:List (Nat×Bs×Nat)) (lv:Nat) (s:Bs),(∀x∈l,23<=x.2.2/\x.2.2<=36)->iU l lv s≠0->23<=iU l lv s/\iU l lv s<=36
 |[],_,_,_,h=>absurd rfl h
 |x::r,lv,s,hx,h=>by
  unfold iU at h⊢
  split
  · exact hx x (by simp)
  rename_i c;rw[if_neg c]at h;exact Bv r lv s (fun y hy=>hx y (by simp[hy])) h
theorem sD(m:Nat)(t:Tok)(r:List Tok):oper m (t::r)=if t.kind=50\/t.kind=51 then iU cu m t.text else 0:=rfl
theorem yC{ts:List Tok}(h:oper m ts≠0):23<=oper m ts/\oper m ts<=36:=by
 cases ts with
 |nil=>exact absurd rfl h
 |cons t r=>
  rw[sD]at h⊢
  split
  · rename_i c;rw[if_pos c]at h;exact Bv cu m t.text (by decide) h
  rename_i c;rw[if_neg c]at h;exact absurd rfl h
def ja(l:List Nd)(d:Nat):Prop:=∀q e,(∃n,n<=q.length+1/\deep n q=Y2 e)->∃n,n<=(l++q).length+1/\deep n (l++q)=Y2 (max d e)
theorem x8:∀n l,∀m r,n<=m->deep n l=Y2 r->deep m l=Y2 r:=by
 intro n
 induction n with
 |zero=>intro l m r _ h;cases h
 |succ n ih=>
  intro l m r hm h
  cases m with
  |zero=>omega
  |succ m=>
   cases l with
   |nil=>exact h
   |cons x t=>
    unfold deep at h⊢
    split at h
    · rename_i c;rw[if_pos c];obtain⟨y,h1,h2⟩:=Option.bind_eq_some_iff.1 h;obtain⟨z,h3,h4⟩:=Option.bind_eq_some_iff.1 h2;rw[sN (n+1) _ (m+1) y (by omega) h1];show(deep m y.2).bind _=_;rw[ih y.2 m z (by omega) h3];exact h4
    rename_i c;rw[if_neg c];exact ih t m r (by omega) h
theorem ja.nil:ja [] 0:=fun q e ⟨n,h1,h2⟩=>⟨n,h1,by simpa using h2⟩
theorem ja.append{a b:List Nd}(h:ja a d)(h':ja b e):ja (a++b) (max d e):=by
 intro q f hq;have:=h (b++q) _ (h' q f hq);rw[laa,YJ];exact this
theorem ja.plain(x:Nd)(h:gM x.kind=false):ja [x] 0:=by
 intro q e ⟨n,h1,h2⟩;refine⟨n+1,by simp;omega,?_⟩;simp only[YI,YK];unfold deep;rw[if_neg (by simp[h]),h2];simp
theorem ja.tree{b:List Nd}(h:GI b d):ja b d:=by
 intro q e ⟨n,h1,h2⟩;obtain⟨n1,hl,hn⟩:=h.1 q;obtain⟨x,r,rfl,hx⟩:=h.2.2;refine⟨max n n1+1,?_,?_⟩
 · rw[List.length_append];simp only[Yw]at*;omega
 simp only[YI];unfold deep;rw[if_pos hx];have:tr (max n n1+1) (x::(r++q))=Y2 (d,q):=sN n1 _ _ _ (by omega) hn;rw[this];show(deep (max n n1) q).bind _=_;rw[x8 n q _ _ (Yy _ _) h2]
 rfl
theorem ja.deep{l:List Nd}(h:ja l d):Px.deep (l.length+1) l=Y2 d:=by
 obtain⟨n,h1,h2⟩:=h [] 0 ⟨1,by simp,rfl⟩;rw[List.append_nil,YL]at h2;exact x8 n l _ _ (by simpa using h1) h2
theorem ja.cons{x:Nd}{l:List Nd}(hx:gM x.kind=false)(h:ja l d):ja (x::l) d:=by
 have:=(ja.plain x hx).append h
 rwa [Nat.zero_max]at this
end Px
end
theorem hd{p:Prop}(h:p):Yf p:=h
theorem iW{a b:Bool}(h:a=b):Ending.returned (.bool a)=Yl (.bool b):=by rw[h]
theorem drop_at(s:ByteArray)(k:Nat)(h:k<s.size):s.data.toList.drop k=s[k]::s.data.toList.drop (k+1):=by
 rw[YM (by simpa using h)];rfl
theorem DF(p:UInt8->Bool)(s:ByteArray)(k:Nat)(h:k<s.size):Lx.cnt p (s.data.toList.drop k)=if p s[k]=true then Lx.cnt p (s.data.toList.drop (k+1))+1 else 0:=by
 rw[drop_at s k h];rfl
theorem rQ(p:UInt8->Bool)(s:ByteArray)(k:Nat)(h:s.size<=k):Lx.cnt p (s.data.toList.drop k)=0:=by
 rw[YN (by simpa using h)];rfl
theorem ME(l:Lx.Bs)(a i lo hi:Nat):Lx.eQ (l.drop a) i lo hi=Lx.eQ l (a+i) lo hi:=by
 unfold Lx.eQ;rw[YO]
def OV(b:Nat)(two near three four:Bool):Nat:=
 if b<128 then 1
 else if(194<=b/\b<=223)/\two=true then 2
 else if(224<=b/\b<=239)/\near=true/\three=true then 3
 else if(240<=b/\b<=244)/\near=true/\three=true/\four=true then 4
 else 0
theorem O8(s:ByteArray)(a:Nat)(h:a<s.size):Lx.aR (s.data.toList.drop a)=
   OV s[a].toNat (Lx.eQ s.data.toList (a+1) 128 191) (Lx.eQ s.data.toList (a+1) (Lx.ma s[a].toNat) (Lx.qc s[a].toNat)) (Lx.eQ s.data.toList (a+2) 128 191) (Lx.eQ s.data.toList (a+3) 128 191):=by
 have e:=drop_at s a h
 have f:∀i lo hi,Lx.eQ (s[a]::s.data.toList.drop (a+1)) i lo hi=Lx.eQ s.data.toList (a+i) lo hi:=by
  intro i lo hi;rw[<-e,ME]
 rw[e];simp only[Lx.aR,OV,f]
theorem F8(ss:List Lx.Bs)(x:Lx.Bs)(k:Nat)(h:k<ss.length):Lx.hasB (ss.drop k) x=(ss.getD k []==x||Lx.hasB (ss.drop (k+1)) x):=by
 rw[YM h,List.getD_eq_getElem?_getD,YP h]
 rfl
def iB(ss:List Lx.Bs):Array Y3:=(ss.map fun x=>Value.string ⟨x.toArray⟩).toArray
theorem qM(m:UInt8)(b:UInt8)(r:Lx.Bs)(h:b≠m):Lx.iQ m (b::r)=(Lx.iQ m r).map (fun x=>(b::x.1,x.2+1)):=by
 cases r with
 |nil=>simp[Lx.iQ,h]
 |cons c r=>simp[Lx.iQ,h]
def dL(m:UInt8)(l:Lx.Bs)(k:Nat)(acc:Lx.Bs):Prop:=
 Lx.iQ m l=(Lx.iQ m (l.drop k)).map (fun x=>(acc++x.1,x.2+k))/\acc.length<=k
theorem dL.start(m:UInt8)(l:Lx.Bs):dL m l 0 []:=by
 unfold dL;simp
theorem dL.other{m:UInt8}{l:Lx.Bs}{acc:Lx.Bs}{b:UInt8}{r:Lx.Bs}(h:dL m l k acc)(e:l.drop k=b::r)(hb:b≠m):dL m l (k+1) (acc++[b]):=by
 unfold dL at*
 have e2:l.drop (k+1)=r:=by rw[<-Yx,e];rfl
 refine⟨?_,by simp;omega⟩;rw[h.1,e,qM m b r hb,e2,YQ]
 congr 1
 funext x
 simp;omega
theorem dL.double{m:UInt8}{l:Lx.Bs}{acc:Lx.Bs}{r:Lx.Bs}(h:dL m l k acc)(e:l.drop k=m::m::r):dL m l (k+2) (acc++[m]):=by
 unfold dL at*
 have e2:l.drop (k+2)=r:=by rw[<-Yx,e];rfl
 refine⟨?_,by simp;omega⟩;rw[h.1,e,e2];simp only[Lx.iQ,if_true,YQ]
 congr 1
 funext x
 simp;omega
theorem dL.last{m:UInt8}{l:Lx.Bs}{acc:Lx.Bs}{r:Lx.Bs}(h:dL m l k acc)(e:l.drop k=m::r)(hr:r.head? ≠Y2 m):Lx.iQ m l=Y2 (acc,k+1):=by
 unfold dL at*;rw[h.1,e]
 cases r with
 |nil=>simp[Lx.iQ];omega
 |cons c r=>
  have:c≠m:=by simpa using hr
  simp[Lx.iQ,this];omega
def ae(w:Y4)(b:Nat)(cs:Array Y3)(t:Y5):Prop:=w.heap[b]? =Y2 (.cells cs t (0,0))
theorem ae.cell(h:ae w b cs t)(i:Nat):w.cell? ⟨b,i,Y1⟩=cs[i]?:=cell_of_row w b i cs t (0,0) h
theorem ae.free(h:ae w b cs t)(i:Nat):w.frozen? ⟨b,i,Y1⟩=false:=by
 unfold ae at h;simp[World.frozen?,h]
theorem ae.lt(h:ae w b cs t):b<w.heap.size:=(geA.1 h).1
theorem ae.d1(h:ae w b (YR (x0::l)) t):w.cell? ⟨b,0,Y1⟩=Y2 x0:=h.cell 0
theorem ae.d2{x1:Y3}(h:ae w b (YR (x0::x1::l)) t):w.cell? ⟨b,0,Y1⟩=Y2 x0/\w.cell? ⟨b,1,Y1⟩=Y2 x1:=⟨h.cell 0,h.cell 1⟩
theorem ae.d3{x1 x2:Y3}(h:ae w b (YR (x0::x1::x2::l)) t):w.cell? ⟨b,0,Y1⟩=Y2 x0/\w.cell? ⟨b,1,Y1⟩=Y2 x1/\w.cell? ⟨b,2,Y1⟩=Y2 x2:=⟨h.cell 0,h.cell 1,h.cell 2⟩
theorem ae.f2(h:ae w b cs t):w.frozen? ⟨b,0,Y1⟩=false/\w.frozen? ⟨b,1,Y1⟩=false:=⟨h.free 0,h.free 1⟩
theorem ae.f3(h:ae w b cs t):w.frozen? ⟨b,0,Y1⟩=false/\w.frozen? ⟨b,1,Y1⟩=false/\w.frozen? ⟨b,2,Y1⟩=false:=⟨h.free 0,h.free 1,h.free 2⟩
theorem ae.new(w:Y4)(cs:Array Y3)(t:Y5):ae (w.alloc (.cells cs t)) w.heap.size cs t:=heap_alloc_new w _
theorem ae.alloc(h:ae w b cs t)(o:Obj):ae (w.alloc o) b cs t:=by
 unfold ae at*;show(w.heap.push o)[b]? =_;rw[Array.getElem?_push_lt (geA.1 h).1,<-Array.getElem?_eq_getElem];exact h
theorem ae.below{W w1:Y4}{B:Nat}(h:ae W b cs t)(hb:Below B W w1)(hlt:b<B):ae w1 b cs t:=by
 unfold ae at*;rw[hb.block b hlt];exact h
theorem ae.drew(h:ae w b cs t):ae w.drew b cs t:=h
theorem ae.set(h:ae w b cs t)(i:Nat)(v:Y3):ae (w.setCell ⟨b,i,Y1⟩ v) b (cs.setIfInBounds i v) t:=by
 unfold ae at*;simp only[World.setCell,Array.getElem?_modify,if_true,h]
 rfl
theorem ae.far(h:ae w b cs t)(p:Addr)(v:Y3)(hp:p.block≠b):ae (w.setCell p v) b cs t:=by
 unfold ae at*;rw[Below.heap_setCell _ _ _ _ (Ne.symm hp)];exact h
theorem ae.three{x y z:Y3}(h:ae w b #[x,y,z] t):
   (w.cell? ⟨b,0,Y1⟩=Y2 x/\w.cell? ⟨b,1,Y1⟩=Y2 y/\w.cell? ⟨b,2,Y1⟩=Y2 z)/\w.frozen? ⟨b,0,Y1⟩=false/\w.frozen? ⟨b,1,Y1⟩=false/\w.frozen? ⟨b,2,Y1⟩=false:=
 ⟨⟨h.cell 0,h.cell 1,h.cell 2⟩,h.free 0,h.free 1,h.free 2⟩
theorem Gn(s:ByteArray)(a:Nat)(h:a<s.size)(hl:Lx.isLet s[a]=true):Lx.bZ (s.data.toList.drop a)=
   if Lx.hasB Lx.keys (((s.data.toList.drop a).take (Lx.cnt Lx.dx (s.data.toList.drop a))).map Lx.Mo)then .ok (50,((s.data.toList.drop a).take (Lx.cnt Lx.dx (s.data.toList.drop a))).map Lx.Mo,Lx.cnt Lx.dx (s.data.toList.drop a))
   else .ok (18,((s.data.toList.drop a).take (Lx.cnt Lx.dx (s.data.toList.drop a))).map Lx.zL,Lx.cnt Lx.dx (s.data.toList.drop a)):=by
 have e:=drop_at s a h;rw[e];simp only[Lx.bZ,hl,if_true]
theorem zC(s:ByteArray)(a:Nat)(h:a<s.size)(hl:Lx.isLet s[a]=false)(hd:Lx.aP s[a]=true):Lx.bZ (s.data.toList.drop a)=
   if Lx.cnt Lx.aP (s.data.toList.drop a)<Lx.cnt Lx.dx (s.data.toList.drop a)then .error 2
   else if Lx.gD (Lx.eH ((s.data.toList.drop a).take (Lx.cnt Lx.aP (s.data.toList.drop a))))then .error 3
   else .ok (16,Lx.eH ((s.data.toList.drop a).take (Lx.cnt Lx.aP (s.data.toList.drop a))),Lx.cnt Lx.aP (s.data.toList.drop a)):=by
 have e:=drop_at s a h;rw[e];simp only[Lx.bZ,hl,hd,if_true,if_false,YS]
theorem Je(s:ByteArray)(a:Nat)(h:a<s.size)(hl:Lx.isLet s[a]=false)(hd:Lx.aP s[a]=false)(hq:s[a].toNat=39\/s[a].toNat=34):Lx.bZ (s.data.toList.drop a)=
   match Lx.iQ s[a] (s.data.toList.drop (a+1))with
    |none=> .error 2
    |some (t,n)=>
     if Lx.dh t=false\/(s[a].toNat=34/\t=[])then .error 2
     else .ok (if s[a].toNat=34 then 18 else 17,t,n+1):=by
 have e:=drop_at s a h;rw[e];simp only[Lx.bZ,hl,hd,if_true,if_false,YS];rw[if_pos hq]
 all_goals(rcases Lx.iQ s[a] (s.data.toList.drop (a+1))with _|⟨t,n⟩<;>rfl)
theorem Mc(s:ByteArray)(a:Nat)(h:a<s.size)(hl:Lx.isLet s[a]=false)(hd:Lx.aP s[a]=false)(hq:¬(s[a].toNat=39\/s[a].toNat=34)):Lx.bZ (s.data.toList.drop a)=
   if 2<=s.size-a/\Lx.hasB Lx.oq ((s.data.toList.drop a).take 2)=true then .ok (51,(s.data.toList.drop a).take 2,2)
   else if Lx.hasB Lx.ones ((s.data.toList.drop a).take 1)=true then .ok (51,(s.data.toList.drop a).take 1,1)
   else .error 2:=by
 have e:=drop_at s a h
 have el:(s.data.toList.drop a).length=s.size-a:=by simp
 rw[<-el,e];simp only[Lx.bZ,hl,hd,if_true,if_false,YS];rw[if_neg hq]
def L6(t:Lx.Tok):List Y3:=[Yg Yh (t.kind:Int),Yi ⟨t.text.toArray⟩,Yg Yh (t.pos:Int)]
def iZ:List Lx.Tok->List Y3
 |[]=>[]
 |t::ts=>L6 t++iZ ts
theorem tC:∀a b:List Lx.Tok,iZ (a++b)=iZ a++iZ b
 |[],b=>rfl
 |t::a,b=>by simp[iZ,tC a b]
theorem Km(t:Lx.Tok):iZ [t]=L6 t:=by simp[iZ]
def oJ(l:Lx.Bs)(k:Nat)(ts:List Lx.Tok):Prop:=
 ts.length<=k/\Lx.bO 0 (Lx.bC l) (l.drop (Lx.bC l))=match Lx.bO 0 k (l.drop k)with
  |.ok r=> .ok (ts++r)
  |.error e=> .error e
theorem oJ.start(l:Lx.Bs):oJ l (Lx.bC l) []:=by
 refine⟨by simp,?_⟩
 cases Lx.bO 0 (Lx.bC l) (l.drop (Lx.bC l))<;>simp
theorem oJ.done{l:Lx.Bs}{ts:List Lx.Tok}(h:oJ l k ts)(hk:l.length<=k):Lx.bO 0 (Lx.bC l) (l.drop (Lx.bC l))=.ok ts:=by
 rw[h.2,YN hk];simp[Lx.bO]
theorem oJ.fail{l:Lx.Bs}{ts:List Lx.Tok}(h:oJ l k ts)(hk:k<l.length)(h1:Lx.bZ (l.drop k)=.error e):Lx.bO 0 (Lx.bC l) (l.drop (Lx.bC l))=.error (k,e):=by
 rw[h.2];have e1:=YM hk;rw[e1]at h1⊢;rw[Lx.eX,h1]
theorem oJ.step{l:Lx.Bs}{c:Nat}{t:Lx.Bs}{ts:List Lx.Tok}(h:oJ l k ts)(hk:k<l.length)(h1:Lx.bZ (l.drop k)=.ok (c,t,n)):oJ l (k+n+Lx.bC (l.drop (k+n))) (ts++[⟨c,t,k⟩]):=by
 have hl:=Lx.gT h1;refine⟨by have:=h.1;simp;omega,?_⟩;rw[h.2];have e1:=YM hk;rw[e1]at h1⊢;rw[Lx.eX,h1];dsimp only;rw[<-e1,Yx,Yx]
 cases Lx.bO 0 (k+n+Lx.bC (l.drop (k+n))) (l.drop (k+n+Lx.bC (l.drop (k+n))))<;>simp
theorem Below.grownBy{w':Y4}{row:Option Nat}(h:Below w.heap.size w w'):w.grownBy w' row:=⟨h.os,h.tape,h.output,h.size,fun k hk _=>h.block k hk⟩
theorem eO{w1:Y4}{base:Nat}{e:Y5}{size:Nat}{v:Y3}{xs:List Y3}(h:w.ownsRow base e size v n xs)(hb:Below w.heap.size w w1):w1.ownsRow base e size v n xs:=
 h.kept (row:=Y1) (Below.grownBy hb) (by cases v.ownBlock<;>simp)
theorem Tryz.info146:(Tryz.prog.info? 146).map (fun i=>(i.zero,i.size,i.bytes))=Y2 (Y2 (Yj #[Yg Yh 0,Yi ⟨#[]⟩,Yg Yh 0]),3,32):=by kernel_rfl
theorem Ii(w:Y4)(x y z:Y3)(T:Y5)(g:Nat)(hg:g=w.heap.size):∀j u,[x,y,z][j]? =Y2 u->(w.alloc (Yk #[x,y,z] T)).cell? ((⟨g,0,Y1⟩:Addr).add j)=Y2 u:=by
 intro j u hj;subst hg;rw[Addr.add_lit,Nat.zero_add,(ae.new w #[x,y,z] T).cell j];rw[<-hj];simp
theorem A7:∀(ts:List Lx.Tok) (k:Nat) (h:k<ts.length),(iZ ts)[k*3]? =Y2 (Yg Yh (ts[k].kind:Int))/\(iZ ts)[k*3+1]? =Y2 (Yi ⟨ts[k].text.toArray⟩)/\(iZ ts)[k*3+2]? =Y2 (Yg Yh (ts[k].pos:Int))
 |t::ts,0,_=>⟨rfl,rfl,rfl⟩
 |t::ts,k+1,h=>by
  have ih:=A7 ts k (by simpa using h)
  have e:∀j,(iZ (t::ts))[j+3]? =(iZ ts)[j]?:=by
   intro j;show(L6 t++iZ ts)[j+3]? =_;rw[List.getElem?_append_right (by simp[L6])];simp[L6]
  rw[show(k+1)*3=k*3+3 from by omega,show k*3+3+1=(k*3+1)+3 from by omega,show k*3+3+2=(k*3+2)+3 from by omega,e,e,e];simpa using ih
def yz(ts:List Lx.Tok)(sz k:Nat):Lx.Tok:=(ts[k]?).getD ⟨0,[],sz⟩
def jO(t:Lx.Tok):Y3:=Yj #[Yg Yh (t.kind:Int),Yi ⟨t.text.toArray⟩,Yg Yh (t.pos:Int)]
section
namespace Px
open Lx (Bs Tok)
inductive E where
 |null
 |bool (b:Bool)
 |num (z:Int)
 |str (s:Bs)
 |nm (s:Bs)
 |un (k:Nat) (e:E)
 |bin (k:Nat) (a b:E)
def E.nodes:E->List Nd
 |.null=>leaf 14 [] 0
 |.bool b=>leaf 15 [] (if b=true then 1 else 0)
 |.num z=>leaf 16 [] z
 |.str s=>leaf 17 s 0
 |.nm s=>leaf 18 s 0
 |.un k e=>aX k e.nodes
 |.bin k a b=>bP k a.nodes b.nodes
def E.depth:E->Nat
 |.un _ e=>e.depth+1
 |.bin _ a b=>max a.depth b.depth+1
 |_=>1
def E.size:E->Nat
 |.un _ e=>e.size+1
 |.bin _ a b=>a.size+b.size+1
 |_=>1
def E.isNum:E->Bool
 |.num _=>true
 |_=>false
def E.ok(n:Nat):E->Prop
 |.num z=> -9223372036854775808<=z/\z<=9223372036854775807
 |.str s=>s.length<=n
 |.nm s=>s.length<=30
 |.un k e=>19<=k/\k<=22/\(k=19->e.isNum=false)/\e.ok n
 |.bin k a b=>23<=k/\k<=36/\a.ok n/\b.ok n
 |_=>True
theorem E.eB(e:E):e.nodes.length=e.size:=by
 induction e with
 |un k e ih=>simp[E.nodes,E.size,aX,ih]
 |bin k a b iha ihb=>simp[E.nodes,E.size,bP,iha,ihb]
 |_=>simp[E.nodes,E.size,leaf]
theorem E.size_pos(e:E):1<=e.size:=by cases e<;>simp[E.size]
theorem E.uj(e:E):e.depth<=e.size:=by
 induction e with
 |un k e ih=>simp[E.depth,E.size];omega
 |bin k a b iha ihb=>simp[E.depth,E.size];omega
 |_=>simp[E.depth,E.size]
theorem E.tree(e:E)(h:e.ok n):GI e.nodes e.depth:=by
 induction e with
 |un k e ih=>exact(ih h.2.2.2).aX _ (by have:=h.1;have:=h.2.1;simp[gM];omega)
 |bin k a b iha ihb=>exact(iha h.2.2.1).bP _ (by have:=h.1;have:=h.2.1;simp[gM];omega) (ihb h.2.2.2)
 |null=>exact GI.leaf _ _ _ (by decide)
 |bool b=>exact GI.leaf _ _ _ (by decide)
 |num b=>exact GI.leaf _ _ _ (by decide)
 |str b=>exact GI.leaf _ _ _ (by decide)
 |nm b=>exact GI.leaf _ _ _ (by decide)
theorem ym(p:Nat)(z:Int)(r:List Tok):negate p (E.num z).nodes r=if z=bot then Y2 (.error (p,3))else Y2 (.ok ((E.num (-z)).nodes,r)):=by
 simp only[E.nodes,leaf,negate];rw[if_neg (by decide)]
theorem IJ(p n:Nat)(e:E)(r:List Tok)(h:e.isNum=false)(ho:e.ok n):negate p e.nodes r=Y2 (.ok ((E.un 19 e).nodes,r)):=by
 cases e with
 |num z=>simp[E.isNum]at h
 |un k e=>
  have:=ho.1;have:=ho.2.1;simp only[E.nodes,aX,negate];rw[if_pos (by omega)];rfl
 |bin k a b=>
  have:=ho.1;have:=ho.2.1;simp only[E.nodes,bP,negate];rw[if_pos (by omega)];rfl
 |_=>
  simp only[E.nodes,leaf,negate];rw[if_pos (by decide)];rfl
end Px
end
section
namespace Px
open Lx (Bs Tok)
abbrev Rg(α:Type):=List Tok->kH α->Prop
def dD{α β:Type}(f:α->β):kH α->kH β
 |.error e=> .error e
 |.ok (a,q)=> .ok (f a,q)
def Rg.seq{α β:Type}(x:Rg α)(f:α->Rg β):Rg β:=fun ts r=>∃r1,x ts r1/\Then r1 f r
theorem Rg.err{α β:Type}{x:Rg α}{f:α->Rg β}{ts:List Tok}{e:Nat×Nat}(h:x ts (.error e)):Rg.seq x f ts (.error e):=⟨_,h,rfl⟩
theorem Rg.go{α β:Type}{x:Rg α}{f:α->Rg β}{ts q:List Tok}{a:α}{r:kH β}(h:x ts (.ok (a,q)))(h':f a q r):Rg.seq x f ts r:=⟨_,h,h'⟩
def Rg.ret{α:Type}(a:α):Rg α:=fun ts r=>r=.ok (a,ts)
def bU(sz:Nat)(s:Bs):Rg Unit:=fun ts r=>must sz s ts=Y2 r
def cO(sz:Nat):Rg Bs:=fun ts r=>name sz ts=Y2 r
def uC(sz:Nat):Rg E:=fun ts r=>Ex sz 1 [] ts (dD E.nodes r)/\∀e q,r=.ok (e,q)->e.ok 2000/\e.size+q.length<=ts.length
inductive Reach{α:Type}(x:Nat->Rg α)(ts:List Tok):List α->List Tok->Prop
 |first{a:α} {q:List Tok}:x 0 ts (.ok (a,q))->Reach x ts [a] q
 |step {l:List α} {q:List Tok} {a:α} {q':List Tok}:Reach x ts l q->sees ku q=true->x l.length q.tail (.ok (a,q'))->Reach x ts (l++[a]) q'
inductive Sep{α:Type}(x:Nat->Rg α)(ts:List Tok):kH (List α)->Prop
 |err0 {e:Nat×Nat}:x 0 ts (.error e)->Sep x ts (.error e)
 |err {l:List α} {q:List Tok} {e:Nat×Nat}:Reach x ts l q->sees ku q=true->x l.length q.tail (.error e)->Sep x ts (.error e)
 |stop {l:List α} {q:List Tok}:Reach x ts l q->sees ku q=false->Sep x ts (.ok (l,q))
def lF{β:Type}(item:Nat->β->List Tok->Out β)(n:Nat)(b:β)(q:List Tok):Out β:=if sees ku q=true then sep item n b q.tail else Y2 (.ok (b,q))
theorem fT{β:Type}(item:Nat->β->List Tok->Out β)(n:Nat)(a:β)(ts:List Tok):sep item (n+1) a ts=aC (item n a ts) (lF item n):=rfl
theorem aL{β:Type}{item:Nat->β->List Tok->Out β}(h:∀b ts,dP fun n=>item n b ts):∀b ts,dP fun n=>sep item n b ts:=by
 have key:∀n k b ts r,n<=k->sep item n b ts=Y2 r->sep item k b ts=Y2 r:=by
  intro n
  induction n with
  |zero=>intro k b ts r _ hh;cases hh
  |succ n ih=>
   intro k b ts r hk hh
   cases k with
   |zero=>omega
   |succ k=>
    rw[fT]at hh⊢;rcases tF hh with⟨e,h1,rfl⟩|⟨a,q,h1,h2⟩
    · rw[show item k b ts=_ from h b ts n k _ (by omega) h1];rfl
    rw[show item k b ts=_ from h b ts n k _ (by omega) h1];show lF item k a q=Y2 r;unfold lF at h2⊢
    split at h2
    · rename_i c;rw[if_pos c];exact ih k _ _ _ (by omega) h2
    rename_i c;rw[if_neg c];exact h2
 intro b ts n k r hnk hh;exact key n k b ts r hnk hh
theorem vJ{β:Type}{item:Nat->β->List Tok->Out β}(h:∀b ts,dP fun n=>item n b ts)(b:β)(q:List Tok):dP fun n=>lF item n b q:=by
 unfold lF;exact bK (aL h _ _) (ag _)
def xD{α β:Type}(x:Nat->Rg α)(item:Nat->β->List Tok->Out β)(acc:List α->β):Prop:=
 ∀(l:List α) (ts:List Tok) (r:kH α),x l.length ts r->∃n,item n (acc l) ts=Y2 (dD (fun a=>acc (l++[a])) r)
theorem AX{α β:Type}{x:Nat->Rg α}{item:Nat->β->List Tok->Out β}{acc:List α->β}(hg:∀b ts,dP fun n=>item n b ts)(hm:xD x item acc){ts:List Tok}{l:List α}{q:List Tok}(h:Reach x ts l q):
   ∀r,(∃n,lF item n (acc l) q=Y2 r)->∃n,sep item n (acc []) ts=Y2 r:=by
 induction h with
 |first h1=>
  rename_i a q;rintro r ⟨n,hn⟩;obtain⟨k,hk⟩:=hm [] ts _ h1;refine⟨max n k+1,?_⟩;rw[fT,show item (max n k) (acc []) ts=_ from hg _ _ k _ _ (Yz _ _) hk];exact vJ hg _ _ n _ _ (Yy _ _) hn
 |step h1 hs hx ih=>
  rename_i l q a q';rintro r ⟨n,hn⟩;obtain⟨k,hk⟩:=hm l _ _ hx;refine ih r ⟨max n k+1,?_⟩;unfold lF;rw[if_pos hs,fT,show item (max n k) (acc l) q.tail=_ from hg _ _ k _ _ (Yz _ _) hk];exact vJ hg _ _ n _ _ (Yy _ _) hn
theorem mg{α β:Type}{x:Nat->Rg α}{item:Nat->β->List Tok->Out β}{acc:List α->β}(hg:∀b ts,dP fun n=>item n b ts)(hm:xD x item acc){ts:List Tok}{r:kH (List α)}(h:Sep x ts r):
   ∃n,sep item n (acc []) ts=Y2 (dD acc r):=by
 cases h with
 |err0 h1=>
  obtain⟨k,hk⟩:=hm [] ts _ h1;exact⟨k+1,by rw[fT,hk];rfl⟩
 |err h1 hs hx=>
  rename_i l q e;obtain⟨k,hk⟩:=hm l _ _ hx;refine AX hg hm h1 _ ⟨k+1,?_⟩;unfold lF;rw[if_pos hs,fT,hk];rfl
 |stop h1 hs=>
  refine AX hg hm h1 _ ⟨0,?_⟩;unfold lF;rw[if_neg (by simp[hs])]
  rfl
def bH{α:Type}(x:Rg α):Prop:=∀ts a q,x ts (.ok (a,q))->q.length<=ts.length
theorem Reach.len{α:Type}{x:Nat->Rg α}(hx:∀i,bH (x i)){ts:List Tok}{l:List α}{q:List Tok}(h:Reach x ts l q):q.length+l.length<=ts.length+1:=by
 induction h with
 |first h1=>have:=hx _ _ _ _ h1;simp;omega
 |step h1 hs h2 ih=>
  have:=hx _ _ _ _ h2;have:=bB hs;simp;omega
inductive St where
 |create (t:Bs) (cols:List (Bs×Nat))
 |drop (t:Bs)
 |insert (t:Bs) (rows:List (List E))
 |delete (t:Bs) (w:Option E)
 |update (t:Bs) (sets:List (Bs×E)) (w:Option E)
 |select (items:List (Option E)) (t:Bs) (w:Option E) (orders:List (E×Bool)) (lim:Option Nat)
def qW(c:Bs×Nat):Nd:=⟨2,c.1,c.2,0⟩
def Jc(r:List E):List Nd:=⟨5,[],0,r.length⟩::r.flatMap E.nodes
def Ae(s:Bs×E):List Nd:=⟨8,s.1,0,1⟩::s.2.nodes
def jK:Option E->List Nd
 |none=>[⟨10,[],0,0⟩]
 |some e=>e.nodes
def dN(o:E×Bool):List Nd:=⟨12,[],if o.2=true then 1 else 0,1⟩::o.1.nodes
def dU:Option E->List Nd
 |none=>[]
 |some e=>aX 11 e.nodes
def mX:Option Nat->List Nd
 |none=>[]
 |some n=>[⟨13,[],n,0⟩]
def one?{α:Type}:Option α->Nat
 |none=>0
 |some _=>1
def St.nodes:St->List Nd
 |.create t c=>⟨1,t,0,c.length⟩::c.map qW
 |.drop t=>[⟨3,t,0,0⟩]
 |.insert t r=>⟨4,t,0,r.length⟩::r.flatMap Jc
 |.delete t w=>⟨6,t,0,one? w⟩::dU w
 |.update t s w=>⟨7,t,0,s.length+one? w⟩::(s.flatMap Ae++dU w)
 |.select i t w o l=>⟨9,t,0,i.length+one? w+o.length+one? l⟩::(i.flatMap jK++dU w++o.flatMap dN++mX l)
def deepest:List E->Nat
 |[]=>0
 |e::l=>max e.depth (deepest l)
def St.exprs:St->List E
 |.create _ _=>[]
 |.drop _=>[]
 |.insert _ r=>r.flatten
 |.delete _ w=>w.toList
 |.update _ s w=>s.map (·.2)++w.toList
 |.select i _ w o _=>i.filterMap id++w.toList++o.map (·.1)
def gQ(sz:Nat):Rg Nat:=fun ts r=>
 if sees o9 ts=true then r=.ok (1,ts.tail)else if sees qC ts=true then r=.ok (2,ts.tail)else Rg.seq (bU sz ko) (fun _=>Rg.ret 3) ts r
def kP(sz:Nat)(n:Bs)(k:Nat):Rg (Bs×Nat):=fun ts r=>
 if sees fH ts=true then Rg.seq (bU sz bq) (fun _=>Rg.ret (n,k+4)) ts.tail r else r=.ok ((n,k),ts)
def kV(sz:Nat)(i:Nat):Rg (Bs×Nat):=fun ts r=>
 Rg.seq (cO sz) (fun n q r=>if 6<=i then r=.error (nJ sz ts,4)else Rg.seq (gQ sz) (kP sz n) q r) ts r
def D7(sz:Nat):Rg St:=
 Rg.seq (bU sz nS) fun _=>Rg.seq (cO sz) fun t=>Rg.seq (bU sz oO) fun _=>Rg.seq (Sep (kV sz)) fun l=>Rg.seq (bU sz kJ) fun _=>Rg.ret (.create t l)
def CK(sz:Nat):Rg (List E):=Rg.seq (bU sz oO) fun _=>Rg.seq (Sep fun _=>uC sz) fun l=>Rg.seq (bU sz kJ) fun _=>Rg.ret l
def CU(sz:Nat):Rg St:=Rg.seq (bU sz J2) fun _=>Rg.seq (cO sz) fun t=>Rg.seq (bU sz wX) fun _=>Rg.seq (Sep fun _=>CK sz) fun l=>Rg.ret (.insert t l)
def dC(sz:Nat):Rg (Option E):=fun ts r=>if sees bG ts=true then Rg.seq (uC sz) (fun e=>Rg.ret (Y2 e)) ts.tail r else r=.ok (Y1,ts)
def CY(sz:Nat):Rg (Bs×E):=Rg.seq (cO sz) fun n=>Rg.seq (bU sz XY) fun _=>Rg.seq (uC sz) fun e=>Rg.ret (n,e)
def D8(sz:Nat):Rg St:=Rg.seq (cO sz) fun t=>Rg.seq (bU sz RF) fun _=>Rg.seq (Sep fun _=>CY sz) fun l=>Rg.seq (dC sz) fun w=>Rg.ret (.update t l w)
def fE(sz:Nat):Rg (Option E):=fun ts r=>if sees Qf ts=true then r=.ok (Y1,ts.tail)else Rg.seq (uC sz) (fun e=>Rg.ret (Y2 e)) ts r
def jM(e:E):Rg (E×Bool):=fun ts r=>
 if sees Ej ts=true then r=.ok ((e,true),ts.tail)else if sees SV ts=true then r=.ok ((e,false),ts.tail)else r=.ok ((e,false),ts)
def nG(sz:Nat):Rg (E×Bool):=Rg.seq (uC sz) jM
def fZ(sz:Nat):Rg (List (E×Bool)):=fun ts r=>if sees yK ts=true then Rg.seq (bU sz VH) (fun _=>Sep fun _=>nG sz) ts.tail r else r=.ok ([],ts)
def DK(sz:Nat):Rg (Option Nat):=fun ts r=>if sees nM ts=true then Rg.seq (fun ts r=>limit sz ts=Y2 r) (fun n=>Rg.ret (Y2 n)) ts.tail r else r=.ok (Y1,ts)
def Cn(sz:Nat):Rg St:=
 Rg.seq (Sep fun _=>fE sz) fun i=>Rg.seq (bU sz eT) fun _=>Rg.seq (cO sz) fun t=>Rg.seq (dC sz) fun w=>Rg.seq (fZ sz) fun o=>Rg.seq (DK sz) fun l=>Rg.ret (.select i t w o l)
def Sw(sz:Nat):Rg St:=Rg.seq (bU sz nS) fun _=>Rg.seq (cO sz) fun t=>Rg.ret (.drop t)
def DN(sz:Nat):Rg St:=Rg.seq (bU sz eT) fun _=>Rg.seq (cO sz) fun t=>Rg.seq (dC sz) fun w=>Rg.ret (.delete t w)
def bM(sz:Nat):Rg St:=fun ts r=>
 if sees iq ts=true then D7 sz ts.tail r else if sees oM ts=true then Sw sz ts.tail r else if sees jw ts=true then CU sz ts.tail r
 else if sees iw ts=true then DN sz ts.tail r else if sees lK ts=true then D8 sz ts.tail r
 else Rg.seq (bU sz jN) (fun _=>Cn sz) ts r
def bL(s:Bs)(r:Except (Nat×Nat) St):Prop:=
 match Lx.lex s with
 |.error e=>r=.error e
 |.ok ts=>∃q,bM s.length ts q/\match q with
  |.error e=>r=.error e
  |.ok (a,u)=>if u=[]then r=(if 40<deepest a.exprs then .error (0,6)else .ok a)else r=.error (nJ s.length u,4)
end Px
end
section
namespace Px
open Lx (Bs Tok)
def All{α:Type}(x:Rg α)(P:α->Prop):Prop:=∀ts a q,x ts (.ok (a,q))->P a
theorem seq_ok{α β:Type}{x:Rg α}{f:α->Rg β}{ts:List Tok}{r:kH β}(h:Rg.seq x f ts r):(∃e,x ts (.error e)/\r=.error e)\/∃a q,x ts (.ok (a,q))/\f a q r:=by
 obtain⟨r1,h1,h2⟩:=h
 match r1,h1,h2 with
 |.error e,h1,h2=>exact .inl ⟨e,h1,h2⟩
 |.ok (a,q),h1,h2=>exact .inr ⟨a,q,h1,h2⟩
theorem All.seq{α β:Type}{x:Rg α}{f:α->Rg β}{P:α->Prop}{Q:β->Prop}(hx:All x P)(hf:∀a,P a->All (f a) Q):All (Rg.seq x f) Q:=by
 intro ts b q h;rcases seq_ok h with⟨e,_,h2⟩|⟨a,q1,h1,h2⟩
 · cases h2
 exact hf a (hx _ _ _ h1) _ _ _ h2
theorem All.ret{α:Type}{a:α}{P:α->Prop}(h:P a):All (Rg.ret a) P:=by
 intro ts b q hb
 cases hb;exact h
theorem All.any{α:Type}(x:Rg α):All x fun _=>True:=fun _ _ _ _=>trivial
theorem All.reach{α:Type}{x:Nat->Rg α}{P:α->Prop}(hx:∀i,All (x i) P){ts:List Tok}{l:List α}{q:List Tok}(h:Reach x ts l q):∀a∈l,P a:=by
 induction h with
 |first h1=>intro a ha;simp at ha;subst ha;exact hx _ _ _ _ h1
 |step h1 hs h2 ih=>
  intro a ha;rcases List.mem_append.1 ha with ha|ha
  · exact ih a ha
  simp at ha;subst ha;exact hx _ _ _ _ h2
theorem All.sep{α:Type}{x:Nat->Rg α}{P:α->Prop}(hx:∀i,All (x i) P):All (Sep x) fun l=>∀a∈l,P a:=by
 intro ts l q h
 cases h with
 |stop h1 _=>exact All.reach hx h1
theorem iP(sz:Nat)(s:Bs):bH (bU sz s):=by
 intro ts a q h;rcases aU h with⟨h1,h2⟩|⟨h1,h2⟩
 · cases h2;have:=bB h1;omega
 cases h2
theorem tX(sz:Nat):bH (cO sz):=by
 intro ts a q h;unfold cO at h
 cases ts with
 |nil=>simp[name]at h
 |cons t r=>
  simp only[name]at h
  split at h
  · cases h
  split at h
  · cases h
  cases h;simp
theorem jg(sz:Nat):bH (uC sz):=by
 intro ts a q h;have:=(h.2 _ _ rfl).2;have:=a.size_pos;omega
theorem bH.seq{α β:Type}{x:Rg α}{f:α->Rg β}(hx:bH x)(hf:∀a,bH (f a)):bH (Rg.seq x f):=by
 intro ts b q h;rcases seq_ok h with⟨e,_,h2⟩|⟨a,q1,h1,h2⟩
 · cases h2
 exact YB (hf a _ _ _ h2) (hx _ _ _ h1)
theorem bH.ret{α:Type}(a:α):bH (Rg.ret a):=by intro ts b q h;cases h;exact nlr _
theorem bH.sep{α:Type}{x:Nat->Rg α}(hx:∀i,bH (x i)):bH (Sep x):=by
 intro ts l q h
 cases h with
 |stop h1 _=>
  have:=h1.len hx
  have:1<=l.length:=by cases h1<;>simp
  omega
theorem iX(ts:List Tok):ts.tail.length<=ts.length:=by cases ts<;>simp
theorem BX(sz:Nat):bH (gQ sz):=by
 intro ts a q h;unfold gQ at h
 split at h
 · cases h;exact iX _
 split at h
 · cases h;exact iX _
 exact(iP sz _).seq (fun _=>bH.ret _) _ _ _ h
theorem CS(sz:Nat)(n:Bs)(k:Nat):bH (kP sz n k):=by
 intro ts a q h;unfold kP at h
 split at h
 · exact YB ((iP sz _).seq (fun _=>bH.ret _) _ _ _ h) (iX _)
 cases h;exact nlr _
theorem oW(sz i:Nat):bH (kV sz i):=by
 intro ts a q h;unfold kV at h;rcases seq_ok h with⟨e,_,h2⟩|⟨a,q1,h1,h2⟩
 · cases h2
 have:=tX sz _ _ _ h1
 split at h2
 · cases h2
 exact YB ((BX sz).seq (CS sz _) _ _ _ h2) this
theorem vQ(sz:Nat):bH (CK sz):=(iP sz _).seq fun _=>(bH.sep fun _=>jg sz).seq fun _=>(iP sz _).seq fun _=>bH.ret _
theorem vR(sz:Nat):bH (CY sz):=(tX sz).seq fun _=>(iP sz _).seq fun _=>(jg sz).seq fun _=>bH.ret _
theorem tH(sz:Nat):bH (fE sz):=by
 intro ts a q h;unfold fE at h
 split at h
 · cases h;exact iX _
 exact(jg sz).seq (fun _=>bH.ret _) _ _ _ h
theorem qB(sz:Nat):bH (nG sz):=(jg sz).seq fun e=>by
 intro ts a q h;unfold jM at h
 split at h
 · cases h;exact iX _
 split at h
 · cases h;exact iX _
 cases h;exact nlr _
theorem aJ{α β α' β':Type}{x:Rg α}{f:α->Rg β}{X:Nat->Out α'}{F:Nat->α'->List Tok->Out β'}{g:α->α'}{h:β->β'}{ts:List Tok}{r:kH β}
   (hs:Rg.seq x f ts r) (h1:∀r1,x ts r1->∃n,X n=Y2 (dD g r1)) (h2:∀a q,x ts (.ok (a,q))->f a q r->∃n,F n (g a) q=Y2 (dD h r)) (hX:dP X) (hF:∀a q,dP fun n=>F n a q):∃n,aC (X n) (F n)=Y2 (dD h r):=by
 rcases seq_ok hs with⟨e,ha,rfl⟩|⟨a,q,ha,hb⟩
 · obtain⟨n,hn⟩:=h1 _ ha;exact⟨n,by rw[hn];rfl⟩
 obtain⟨n,hn⟩:=h1 _ ha;obtain⟨k,hk⟩:=h2 a q ha hb;refine⟨max n k,?_⟩;rw[show X (max n k)=_ from hX n _ _ (Yy _ _) hn];exact hF _ _ k _ _ (Yz _ _) hk
theorem BZ{α:Type}(r:kH α):dD id r=r:=by
 match r with
 |.error _=>rfl
 |.ok (_,_)=>rfl
theorem cB{s:Bs}{ts:List Tok}:∀r1,bU sz s ts r1->∃_:Nat,must sz s ts=Y2 (dD id r1):=fun _ h=>⟨0,by rw[BZ];exact h⟩
theorem iC{ts:List Tok}:∀r1,cO sz ts r1->∃_:Nat,name sz ts=Y2 (dD id r1):=fun _ h=>⟨0,by rw[BZ];exact h⟩
theorem sZ{ts:List Tok}:∀r1,uC sz ts r1->∃n:Nat,ex sz n 1 [] ts=Y2 (dD E.nodes r1):=fun _ h=>h.1
theorem eG(sz:Nat):∀b ts,dP fun n=>item sz n b ts:=fun b ts=>aS (bN sz 1 [] ts) fun _ _=>ag _
def qP{α:Type}(g:α->List Nd)(l:List α):List Nd×Nat:=(l.flatMap g,l.length)
theorem iI{α:Type}(g:α->List Nd)(l:List α)(a:α):qP g (l++[a])=((qP g l).1++g a,(qP g l).2+1):=by simp[qP]
theorem Hq(sz:Nat):xD (fun _=>uC sz) (item sz) (qP E.nodes):=by
 intro l ts r h;obtain⟨n,hn⟩:=h.1;refine⟨n,?_⟩;unfold item;rw[hn]
 match r with
 |.error e=>rfl
 |.ok (e,q)=>simp only[dD,aC,iI]
theorem jV(sz:Nat):∀b ts,dP fun n=>row sz n b ts:=fun b ts=>aS (ag _) fun _ _=>aS (aL (eG sz) _ _) fun _ _=>aS (ag _) fun _ _=>ag _
theorem K6(sz:Nat):xD (fun _=>CK sz) (row sz) (qP Jc):=by
 intro l ts r h;unfold row;refine aJ h cB (fun _ q _ h=> ?_) ?_ (fun _ _=> ?_);refine aJ h (fun _ h1=>mg (eG sz) (Hq sz) h1) (fun m q _ h=> ?_) ?_ (fun _ _=> ?_);refine aJ h cB (fun _ q _ h=> ?_) ?_ (fun _ _=> ?_);refine⟨0,?_⟩
 cases h
 simp only[dD,iI]
 rfl
 all_goals repeat' (first|exact ag _|exact bN _ _ _ _|exact aL (eG _) _ _|refine aS ?_ (fun _ _=> ?_)|refine bK ?_ ?_)
theorem iG(sz:Nat)(ts:List Tok):dP fun n=>iA sz n ts:=bK (aS (bN sz 1 [] _) fun _ _=>ag _) (ag _)
theorem oH{ts:List Tok}:∀r,dC sz ts r->∃n,iA sz n ts=Y2 (dD (fun w=>(dU w,one? w)) r):=by
 intro r h;unfold dC at h;unfold iA
 split at h
 · rename_i c;simp only[if_pos c];refine aJ h sZ (fun e q _ h=> ?_) ?_ (fun _ _=> ?_)
   cases h
   exact⟨0,rfl⟩
   all_goals repeat' (first|exact ag _|exact bN _ _ _ _|exact aL (eG _) _ _|refine aS ?_ (fun _ _=> ?_)|refine bK ?_ ?_)
 rename_i c;simp only[if_neg c]
 cases h
 exact⟨0,rfl⟩
theorem gF(sz:Nat):∀b ts,dP fun n=>Ch sz n b ts:=fun b ts=>aS (ag _) fun _ _=>aS (ag _) fun _ _=>aS (bN sz 1 [] _) fun _ _=>ag _
theorem Du(sz:Nat):xD (fun _=>CY sz) (Ch sz) (qP Ae):=by
 intro l ts r h;unfold Ch;refine aJ h iC (fun n q _ h=> ?_) ?_ (fun _ _=> ?_);refine aJ h cB (fun _ q _ h=> ?_) ?_ (fun _ _=> ?_);refine aJ h sZ (fun e q _ h=> ?_) ?_ (fun _ _=> ?_);refine⟨0,?_⟩
 cases h
 simp only[dD,iI]
 rfl
 all_goals repeat' (first|exact ag _|exact bN _ _ _ _|refine aS ?_ (fun _ _=> ?_)|refine bK ?_ ?_)
theorem iD(sz:Nat):∀b ts,dP fun n=>pick sz n b ts:=fun b ts=>bK (ag _) (eG sz b ts)
theorem G6(sz:Nat):xD (fun _=>fE sz) (pick sz) (qP jK):=by
 intro l ts r h;unfold fE at h;unfold pick
 split at h
 · rename_i c;simp only[if_pos c];refine⟨0,?_⟩
   cases h
   simp only[dD,iI]
   rfl
 rename_i c;simp only[if_neg c];unfold item;refine aJ h sZ (fun e q _ h=> ?_) ?_ (fun _ _=> ?_);refine⟨0,?_⟩
 cases h
 simp only[dD,iI]
 rfl
 all_goals repeat' (first|exact ag _|exact bN _ _ _ _|refine aS ?_ (fun _ _=> ?_)|refine bK ?_ ?_)
theorem l9{s t:Bs}{ts:List Tok}(h:sees s ts=true)(hne:s≠t):sees t ts=false:=by
 obtain⟨x,r,rfl⟩:=uQ h;simp only[sees,YD,beq_iff_eq]at h;simp only[sees,YG,beq_eq_false_iff_ne];exact .inr (by rw[h.2];exact hne)
theorem fK(sz:Nat):∀b ts,dP fun n=>order sz n b ts:=fun b ts=>aS (bN sz 1 [] _) fun _ _=>ag _
theorem DV{ts:List Tok}{r:kH St}(h:CU sz ts r):∃n,insert sz n ts=Y2 (dD St.nodes r):=by
 unfold insert;refine aJ h cB (fun _ q _ h=> ?_) ?_ (fun _ _=> ?_);refine aJ h iC (fun t q _ h=> ?_) ?_ (fun _ _=> ?_);refine aJ h cB (fun _ q _ h=> ?_) ?_ (fun _ _=> ?_);refine aJ h (fun _ h1=>mg (jV sz) (K6 sz) h1) (fun m q _ h=> ?_) ?_ (fun _ _=> ?_)
 cases h
 exact⟨0,rfl⟩
 all_goals repeat' (first|exact ag _|exact bN _ _ _ _|exact iG _ _|exact aL (eG _) _ _|exact aL (jV _) _ _|exact aL (gF _) _ _|exact aL (iD _) _ _|exact aL (fK _) _ _|refine aS ?_ (fun _ _=> ?_)|refine bK ?_ ?_)
theorem CX{ts:List Tok}{r:kH St}(h:D8 sz ts r):∃n,update sz n ts=Y2 (dD St.nodes r):=by
 unfold update;refine aJ h iC (fun t q _ h=> ?_) ?_ (fun _ _=> ?_);refine aJ h cB (fun _ q _ h=> ?_) ?_ (fun _ _=> ?_);refine aJ h (fun _ h1=>mg (gF sz) (Du sz) h1) (fun m q _ h=> ?_) ?_ (fun _ _=> ?_);refine aJ h oH (fun w q _ h=> ?_) ?_ (fun _ _=> ?_)
 cases h
 exact⟨0,rfl⟩
 all_goals repeat' (first|exact ag _|exact bN _ _ _ _|exact iG _ _|exact aL (eG _) _ _|exact aL (jV _) _ _|exact aL (gF _) _ _|exact aL (iD _) _ _|exact aL (fK _) _ _|refine aS ?_ (fun _ _=> ?_)|refine bK ?_ ?_)
theorem CO{ts:List Tok}{r:kH St}(h:DN sz ts r):∃n,delete sz n ts=Y2 (dD St.nodes r):=by
 unfold delete;refine aJ h cB (fun _ q _ h=> ?_) ?_ (fun _ _=> ?_);refine aJ h iC (fun t q _ h=> ?_) ?_ (fun _ _=> ?_);refine aJ h oH (fun w q _ h=> ?_) ?_ (fun _ _=> ?_)
 cases h
 exact⟨0,rfl⟩
 all_goals repeat' (first|exact ag _|exact bN _ _ _ _|exact iG _ _|exact aL (eG _) _ _|exact aL (jV _) _ _|exact aL (gF _) _ _|exact aL (iD _) _ _|exact aL (fK _) _ _|refine aS ?_ (fun _ _=> ?_)|refine bK ?_ ?_)
theorem IM{ts:List Tok}{r:kH St}(h:Sw sz ts r):∃_:Nat,drop sz ts=Y2 (dD St.nodes r):=by
 unfold drop;refine aJ h cB (fun _ q _ h=> ?_) ?_ (fun _ _=> ?_);refine aJ h iC (fun t q _ h=> ?_) ?_ (fun _ _=> ?_)
 cases h
 exact⟨0,rfl⟩
 all_goals repeat' (first|exact ag _|exact bN _ _ _ _|exact iG _ _|exact aL (eG _) _ _|exact aL (jV _) _ _|exact aL (gF _) _ _|exact aL (iD _) _ _|exact aL (fK _) _ _|refine aS ?_ (fun _ _=> ?_)|refine bK ?_ ?_)
end Px
end
section
namespace Px
open Lx (Bs Tok)
theorem tT(sz:Nat)(x:List Nd×Nat)(ts:List Tok):dP fun n=>orders sz n x ts:=bK (aS (ag _) fun _ _=>aL (fK sz) _ _) (ag _)
theorem yt(sz:Nat)(x:List Nd×Nat):xD (fun _=>nG sz) (order sz) (fun l=>(x.1++(qP dN l).1,x.2+(qP dN l).2)):=by
 intro l ts r h;unfold order;refine aJ h sZ (fun e q _ h=> ?_) (bN _ _ _ _) (fun _ _=>ag _);refine⟨0,?_⟩;unfold jM at h
 split at h
 · rename_i c;rw[if_neg (by rw[l9 c (by decide)];decide),if_pos c]
   cases h
   simp only[dD,iI,laa,YT]
   rfl
 rename_i c
 split at h
 · rename_i c2;rw[if_pos c2]
   cases h
   simp only[dD,iI,laa,YT]
   rfl
 rename_i c2;rw[if_neg c2,if_neg c]
 cases h
 simp only[dD,iI,laa,YT]
 rfl
theorem Cy{x:List Nd×Nat}{ts:List Tok}:∀r,fZ sz ts r->∃n,orders sz n x ts=Y2 (dD (fun l=>(x.1++(qP dN l).1,x.2+(qP dN l).2)) r):=by
 intro r h;unfold fZ at h;unfold orders
 split at h
 · rename_i c;simp only[if_pos c];refine aJ h cB (fun _ q _ h=> ?_) (ag _) (fun _ _=>aL (fK sz) _ _);have:=mg (fK sz) (yt sz x) h;simpa[qP]using this
 rename_i c;simp only[if_neg c]
 cases h
 exact⟨0,by simp[dD,qP]⟩
theorem Dz{x:List Nd×Nat}{ts:List Tok}:∀r,DK sz ts r->∃_:Nat,limits sz x ts=Y2 (dD (fun l=>(x.1++mX l,x.2+one? l)) r):=by
 intro r h;unfold DK at h;unfold limits
 split at h
 · rename_i c;simp only[if_pos c];refine aJ (g:=id) h (fun r1 h1=>⟨0,by rw[BZ];exact h1⟩) (fun _ q _ h=> ?_) (ag _) (fun _ _=>ag _)
   cases h
   exact⟨0,rfl⟩
 rename_i c;simp only[if_neg c]
 cases h
 exact⟨0,by simp[dD,mX,one?]⟩
theorem DJ{ts:List Tok}{r:kH St}(h:Cn sz ts r):∃n,choose sz n ts=Y2 (dD St.nodes r):=by
 unfold choose;refine aJ h (fun _ h1=>mg (iD sz) (G6 sz) h1) (fun i q _ h=> ?_) ?_ (fun _ _=> ?_);refine aJ h cB (fun _ q _ h=> ?_) ?_ (fun _ _=> ?_);refine aJ h iC (fun t q _ h=> ?_) ?_ (fun _ _=> ?_);refine aJ h oH (fun w q _ h=> ?_) ?_ (fun _ _=> ?_);refine aJ h Cy (fun o q _ h=> ?_) ?_ (fun _ _=> ?_);refine aJ h Dz (fun l q _ h=> ?_) ?_ (fun _ _=> ?_)
 · refine⟨0,?_⟩
   cases h
   simp only[dD,qP,St.nodes,id,Option.some.injEq,Except.ok.injEq,Prod.mk.injEq,List.cons.injEq,Nd.mk.injEq,true_and,and_true];omega
 all_goals repeat' (first|exact ag _|exact iG _ _|exact tT _ _ _|exact aL (iD _) _ _|refine aS ?_ (fun _ _=> ?_))
theorem yg{q:List Tok}{r:kH Nat}(h:gQ sz q r):Kb sz q=Y2 (dD (fun k:Nat=>(k:Int)) r)\/∃q1,r=.ok (1,q1)/\sees qC q1=true/\Kb sz q=Y2 (.error (nJ sz q1,4)):=by
 unfold gQ at h;unfold Kb
 split at h
 · rename_i c;rw[if_pos c];subst h;by_cases ht:sees qC q.tail=true
   · right;exact⟨_,rfl,ht,by rw[if_pos ht]⟩
   left;rw[if_neg ht];rfl
 rename_i c;rw[if_neg c]
 left
 split at h
 · rename_i c2;rw[if_pos c2,h];rfl
 rename_i c2;rw[if_neg c2];rcases seq_ok h with⟨e,h1,rfl⟩|⟨a,q1,h1,h2⟩
 · rw[show must sz ko q=_ from h1];rfl
 rw[show must sz ko q=_ from h1]
 cases h2;rfl
theorem p9(sz:Nat){l:List (Bs×Nat)}{ts:List Tok}{r:kH (Bs×Nat)}(hl:l.length<=6)(h:kV sz l.length ts r):
   Dw sz (l.map qW) ts=Y2 (dD (fun a=>(l++[a]).map qW) r)\/∃a q,r=.ok (a,q)/\sees qC q=true/\Dw sz (l.map qW) ts=Y2 (.error (nJ sz q,4)):=by
 unfold kV at h;unfold Dw;rcases seq_ok h with⟨e,h1,rfl⟩|⟨n,q,h1,h2⟩
 · left
   rw[show name sz ts=_ from h1];rfl
 rw[show name sz ts=_ from h1];simp only[aC,List.length_map]
 split at h2
 · rename_i c;subst h2
   left;rw[if_pos (by omega)];rfl
 rename_i c;rw[if_neg (by omega)];rcases seq_ok h2 with⟨e,h3,rfl⟩|⟨k,q1,h3,h4⟩
 · rcases yg h3 with h5|⟨_,h5,_⟩
   · left;rw[h5];rfl
   cases h5
 rcases yg h3 with h5|⟨q2,h5,h6,h7⟩
 · left
   rw[h5];simp only[dD];unfold kP at h4
   split at h4
   · rename_i c2;rw[if_pos c2];rcases seq_ok h4 with⟨e,h8,rfl⟩|⟨_,q3,h8,h9⟩
     · rw[show must sz bq q1.tail=_ from h8]
     rw[show must sz bq q1.tail=_ from h8]
     cases h9
     simp[dD,qW]
   rename_i c2;rw[if_neg c2];subst h4;simp[dD,qW]
 right
 cases h5
 have hn:=l9 h6 (t:=fH) (by decide);unfold kP at h4;rw[if_neg (by simp[hn])]at h4;exact⟨_,_,h4,h6,by rw[h7]⟩
theorem BK(sz:Nat):∀(b:List Nd) ts,dP fun n=>(fun(_:Nat) l q=>Dw sz l q) n b ts:=fun _ _=>ag _
theorem Bh{ts:List Tok}{l:List (Bs×Nat)}{q:List Tok}(h:Reach (kV sz) ts l q):
   l.length<=6/\((∀r,(∃n,lF (fun _ l q=>Dw sz l q) n (l.map qW) q=Y2 r)->∃n,sep (fun _ l q=>Dw sz l q) n [] ts=Y2 r)\/(sees qC q=true/\∃n,sep (fun _ l q=>Dw sz l q) n [] ts=Y2 (.error (nJ sz q,4)))):=by
 have six:∀{i:Nat} {ts:List Tok} {a:Bs×Nat} {q:List Tok},kV sz i ts (.ok (a,q))->i<6:=by
  intro i ts a q h;unfold kV at h;rcases seq_ok h with⟨e,h1,h2⟩|⟨n,q,h1,h2⟩
  · cases h2
  split at h2
  · cases h2
  omega
 induction h with
 |first h1=>
  rename_i a q;refine⟨by simp,?_⟩;rcases p9 sz (l:=[]) (by simp) h1 with h2|⟨a',q',h3,h4,h5⟩
  · left
    rintro r ⟨n,hn⟩;refine⟨n+1,?_⟩;rw[fT];rw[show Dw sz [] ts=_ from h2];exact hn
  right
  cases h3
  exact⟨h4,1,by rw[fT,show Dw sz [] ts=_ from h5];rfl⟩
 |step h1 hs hx ih=>
  rename_i l q a q';obtain⟨i1,i2⟩:=ih;have:=six hx;refine⟨by simp;omega,?_⟩;rcases i2 with i2|⟨i2,_⟩
  · rcases p9 sz i1 hx with h2|⟨a',q2,h3,h4,h5⟩
    · left
      rintro r ⟨n,hn⟩;refine i2 r ⟨n+1,?_⟩;unfold lF;rw[if_pos hs,fT,h2];exact hn
    right
    cases h3
    refine⟨h4,i2 _ ⟨1,?_⟩⟩;unfold lF;rw[if_pos hs,fT,h5];rfl
  exfalso
  rw[l9 i2 (by decide)]at hs
  cases hs
theorem Ea{ts:List Tok}{r:kH St}(h:D7 sz ts r):∃n,create sz n ts=Y2 (dD St.nodes r):=by
 unfold create;refine aJ h cB (fun _ q _ h=> ?_) (ag _) (fun _ _=> ?_);refine aJ h iC (fun t q _ h=> ?_) (ag _) (fun _ _=> ?_);refine aJ h cB (fun _ q _ h=> ?_) (ag _) (fun _ _=> ?_)
 · rcases seq_ok h with⟨e,h1,rfl⟩|⟨l,q1,h1,h2⟩
   · have key:∃n,sep (fun _ l q=>Dw sz l q) n [] q=Y2 (.error e):=by
      cases h1 with
      |err0 h3=>
       rcases p9 sz (l:=[]) (by simp) h3 with h4|⟨_,_,h4,_⟩
       · exact⟨1,by rw[fT,show Dw sz [] q=_ from h4];rfl⟩
       cases h4
      |err h3 hs h4=>
       rename_i l q2;obtain⟨i1,i2⟩:=Bh h3;rcases i2 with i2|⟨i2,_⟩
       · rcases p9 sz i1 h4 with h5|⟨_,_,h5,_⟩
         · refine i2 _ ⟨1,?_⟩;unfold lF;rw[if_pos hs,fT,h5];rfl
         cases h5
       exfalso
       rw[l9 i2 (by decide)]at hs
       cases hs
     obtain⟨n,hn⟩:=key;exact⟨n,by rw[hn];rfl⟩
   cases h1 with
   |stop h3 hs=>
    obtain⟨i1,i2⟩:=Bh h3;rcases i2 with i2|⟨i2,n,hn⟩
    · obtain⟨n,hn⟩:=i2 (.ok (l.map qW,q1)) ⟨0,by unfold lF;rw[if_neg (by simp[hs])]⟩;refine⟨n,?_⟩;rw[hn];simp only[aC];rcases seq_ok h2 with⟨e,h4,rfl⟩|⟨_,q3,h4,h5⟩
      · rw[show must sz kJ q1=_ from h4];rfl
      rw[show must sz kJ q1=_ from h4]
      cases h5
      simp[dD,St.nodes]
    refine⟨n,?_⟩;rw[hn];simp only[aC];rcases seq_ok h2 with⟨e,h4,rfl⟩|⟨_,q3,h4,h5⟩
    · rcases aU h4 with⟨h6,_⟩|⟨_,h6⟩
      · rw[l9 i2 (by decide)]at h6;cases h6
      cases h6;rfl
    rcases aU h4 with⟨h6,_⟩|⟨_,h6⟩
    · rw[l9 i2 (by decide)]at h6;cases h6
    cases h6
 all_goals repeat' (first|exact ag _|exact aL (BK sz) _ _|refine aS ?_ (fun _ _=> ?_))
def uq(t:Tok):Prop:=t.kind=51->Lx.hasB Lx.keys t.text=false
theorem Eu{s:Bs}{t:Tok}{r:List Tok}(hk:Lx.hasB Lx.keys s=true)(ht:uq t):(sees s (t::r)=true)↔(t.kind=50/\t.text=s):=by
 simp only[sees,YD,YC,decide_eq_true_eq,beq_iff_eq]
 constructor
 · rintro⟨h|h,h2⟩
   · exact⟨h,h2⟩
   have:=ht h;rw[h2,hk]at this
   cases this
 rintro⟨h1,h2⟩;exact⟨.inl h1,h2⟩
theorem Iu{ts:List Tok}{r:kH St}(ht:∀t∈ts,uq t)(h:bM sz ts r):∃n,stmt sz n ts=Y2 (dD St.nodes r):=by
 unfold bM at h
 cases ts with
 |nil=>
  simp only[sees,YS,if_false]at h;rcases seq_ok h with⟨e,h1,rfl⟩|⟨_,q3,h1,h5⟩
  · exact⟨0,by rcases aU h1 with⟨h6,_⟩|⟨_,h6⟩
               · cases h6
               cases h6;rfl⟩
  rcases aU h1 with⟨h6,_⟩|⟨_,h6⟩
  · cases h6
  cases h6
 |cons t q=>
  have hs:=ht t (by simp)
  have K:∀s,Lx.hasB Lx.keys s=true->((sees s (t::q)=true)↔(t.kind=50/\t.text=s)):=fun s hk=>Eu hk hs
  simp only[K iq (by decide),K oM (by decide),K jw (by decide),K iw (by decide),K lK (by decide),List.tail_cons]at h;by_cases h50:t.kind=50
  · simp only[h50,true_and]at h;unfold stmt;simp only[h50,ne_eq,not_true_eq_false,if_false]
    split at h
    · rename_i c;simp only[if_pos c];exact Ea h
    rename_i c;simp only[if_neg c]
    split at h
    · rename_i c;simp only[if_pos c];exact IM h
    rename_i c;simp only[if_neg c]
    split at h
    · rename_i c;simp only[if_pos c];exact DV h
    rename_i c;simp only[if_neg c]
    split at h
    · rename_i c;simp only[if_pos c];exact CO h
    rename_i c;simp only[if_neg c]
    split at h
    · rename_i c;simp only[if_pos c];exact CX h
    rename_i c;simp only[if_neg c];rcases seq_ok h with⟨e,h1,rfl⟩|⟨_,q3,h1,h5⟩
    · rcases aU h1 with⟨_,h6⟩|⟨h6,h7⟩
      · cases h6
      cases h7
      refine⟨0,?_⟩
      rw[if_neg (fun e=>by
       have:=(K jN (by decide)).2 ⟨h50,e⟩
       rw[h6]at this;cases this)]
      rfl
    rcases aU h1 with⟨h6,h7⟩|⟨_,h6⟩
    · cases h7
      simp only[if_pos ((K jN (by decide)).1 h6).2];exact DJ h5
    cases h6
  simp only[h50,false_and,if_false]at h;unfold stmt;simp only[h50,ne_eq,not_false_eq_true,if_true];rcases seq_ok h with⟨e,h1,rfl⟩|⟨_,q3,h1,h5⟩
  · rcases aU h1 with⟨_,h6⟩|⟨h6,h7⟩
    · cases h6
    cases h7;exact⟨0,rfl⟩
  rcases aU h1 with⟨h6,h7⟩|⟨_,h6⟩
  · exact absurd ((K jN (by decide)).1 h6).1 h50
  cases h6
end Px
end
section
namespace Px
open Lx (Bs Tok)
theorem iV(a b:List E):deepest (a++b)=max (deepest a) (deepest b):=by
 induction a with
 |nil=>simp[deepest]
 |cons e a ih=>simp[deepest,ih,YJ]
theorem ja.exprs:∀(l:List E),(∀e∈l,e.ok 2000)->ja (l.flatMap E.nodes) (deepest l)
 |[],_=>ja.nil
 |e::l,h=>by
  rw[YU];exact(ja.tree (e.tree (h e (by simp)))).append (ja.exprs l (fun x hx=>h x (by simp[hx])))
theorem ja.flat{α:Type}(g:α->List Nd)(ex:α->List E)(h:∀a,(∀e∈ex a,e.ok 2000)->ja (g a) (deepest (ex a))):∀(l:List α),(∀e∈l.flatMap ex,e.ok 2000)->ja (l.flatMap g) (deepest (l.flatMap ex))
 |[],_=>ja.nil
 |a::l,hl=>by
  rw[YU,YU,iV]
  exact(h a (fun e he=>hl e (by simp[he]))).append (ja.flat g ex h l (fun e he=>hl e (by
   rw[YU];exact List.mem_append.2 (.inr he))))
theorem ja.iA(w:Option E)(h:∀e∈w.toList,e.ok 2000):ja (dU w) (deepest w.toList):=by
 cases w with
 |none=>exact ja.nil
 |some e=>
  have:=ja.cons (x:=⟨11,[],0,1⟩) (by decide) (ja.tree (e.tree (h e (by simp))));simpa[deepest,dU,aX]using this
theorem o8{α β:Type}(f:α->β)(l:List α):l.flatMap (fun x=>[f x])=l.map f:=by
 induction l with
 |nil=>rfl
 |cons a l ih=>rw[YU,ih];rfl
theorem A9{α β:Type}(l:List α):l.flatMap (fun _=>([]:List β))=[]:=by
 induction l with
 |nil=>rfl
 |cons a l ih=>rw[YU,ih];rfl
theorem Fy(i:List (Option E)):i.filterMap id=i.flatMap YV:=by
 induction i with
 |nil=>rfl
 |cons a i ih=>cases a<;>simp[ih]
theorem St.X8(s:St)(h:∀e∈s.exprs,e.ok 2000):ja s.nodes (deepest s.exprs):=by
 cases s with
 |create t c=>
  refine ja.cons (by decide:gM (1:Int)=false) ?_;have:=ja.flat (fun x=>[qW x]) (fun _=>[]) (fun a _=>ja.plain _ rfl) c (by rw[A9];intro e he;cases he);rw[o8,A9]at this;exact this
 |drop t=>exact ja.plain _ rfl
 |insert t r=>
  refine ja.cons (by decide:gM (4:Int)=false) ?_;have:=ja.flat Jc id (fun a ha=>ja.cons (by decide:gM (5:Int)=false) (ja.exprs a ha)) r (by simpa[St.exprs]using h);simpa[St.exprs]using this
 |delete t w=>exact ja.cons (by decide:gM (6:Int)=false) (ja.iA w h)
 |update t s w=>
  refine ja.cons (by decide:gM (7:Int)=false) ?_
  have h1:=ja.flat Ae (fun x=>[x.2]) (fun a ha=>by
   have:=ja.cons (x:=⟨8,a.1,0,1⟩) rfl (ja.tree (a.2.tree (ha a.2 (by simp))))
   simpa[deepest,Ae]using this) s (fun e he=>h e (by
    rw[o8]at he;exact List.mem_append.2 (.inl he)))
  have h2:=ja.iA w (fun e he=>h e (by simp only[St.exprs];exact List.mem_append.2 (.inr he)));have:=h1.append h2;rw[<-iV]at this;rw[o8]at this;exact this
 |select i t w o l=>
  refine ja.cons (by decide:gM (9:Int)=false) ?_;simp only[St.exprs]at h⊢;rw[Fy]at h⊢
  have h1:=ja.flat jK YV (fun a ha=>by
   cases a with
   |none=>exact ja.plain _ rfl
   |some e=>have:=ja.tree (e.tree (ha e (by simp)));simpa[deepest,jK]using this) i (fun e he=>h e (by simp only[YW];exact .inl (.inl he)))
  have h2:=ja.iA w (fun e he=>h e (by simp only[YW];exact .inl (.inr he)))
  have h3:=ja.flat dN (fun x=>[x.1]) (fun a ha=>by
   have:=ja.cons (x:=⟨12,[],if a.2=true then 1 else 0,1⟩) rfl (ja.tree (a.1.tree (ha a.1 (by simp))))
   simpa[deepest,dN]using this) o (fun e he=>h e (by
    rw[o8]at he;exact List.mem_append.2 (.inr he)))
  rw[o8]at h3
  have h4:ja (mX l) 0:=by
   cases l with
   |none=>exact ja.nil
   |some n=>exact ja.plain _ rfl
  have:=((h1.append h2).append h3).append h4;rw[<-iV,<-iV,YL]at this;exact this
theorem xR(sz:Nat):All (uC sz) fun e=>e.ok 2000:=fun ts e q h=>(h.2 _ _ rfl).1
theorem uW(sz:Nat):All (dC sz) fun w=>∀e∈w.toList,e.ok 2000:=by
 intro ts w q h;unfold dC at h
 split at h
 · exact(xR sz).seq (fun e he=>All.ret (P:=fun w=>∀x∈YV w,E.ok 2000 x) (by simpa using he)) _ _ _ h
 cases h;simp
theorem O5(sz:Nat):All (bM sz) fun s:St=>∀e∈s.exprs,E.ok 2000 e:=by
 intro ts s q h;unfold bM at h
 split at h
 · refine All.seq (All.any _) (fun _ _=>All.seq (All.any _) fun t _=>All.seq (All.any _) fun _ _=>All.seq (All.any _) fun l _=>All.seq (All.any _) fun _ _=>All.ret (P:=fun s:St=>∀e∈s.exprs,E.ok 2000 e) ?_) _ _ _ h;simp[St.exprs]
 split at h
 · refine All.seq (All.any _) (fun _ _=>All.seq (All.any _) fun t _=>All.ret (P:=fun s:St=>∀e∈s.exprs,E.ok 2000 e) ?_) _ _ _ h;simp[St.exprs]
 split at h
 · have hrow:All (CK sz) fun l=>∀e∈l,e.ok 2000:=All.seq (All.any _) fun _ _=>All.seq (All.sep fun _=>xR sz) fun l hl=>All.seq (All.any _) fun _ _=>All.ret hl
   refine All.seq (All.any _) (fun _ _=>All.seq (All.any _) fun t _=>All.seq (All.any _) fun _ _=>All.seq (All.sep fun _=>hrow) fun l hl=>All.ret (P:=fun s:St=>∀e∈s.exprs,E.ok 2000 e) ?_) _ _ _ h;simp only[St.exprs,List.mem_flatten];rintro e ⟨r,h1,h2⟩;exact hl r h1 e h2
 split at h
 · refine All.seq (All.any _) (fun _ _=>All.seq (All.any _) fun t _=>All.seq (uW sz) fun w hw=>All.ret (P:=fun s:St=>∀e∈s.exprs,E.ok 2000 e) ?_) _ _ _ h;exact hw
 split at h
 · have hset:All (CY sz) fun x=>x.2.ok 2000:=All.seq (All.any _) fun n _=>All.seq (All.any _) fun _ _=>All.seq (xR sz) fun e he=>All.ret (P:=fun x:Bs×E=>x.2.ok 2000) he
   refine All.seq (All.any _) (fun t _=>All.seq (All.any _) fun _ _=>All.seq (All.sep fun _=>hset) fun l hl=>All.seq (uW sz) fun w hw=>All.ret (P:=fun s:St=>∀e∈s.exprs,E.ok 2000 e) ?_) _ _ _ h;simp only[St.exprs,YW,YX];rintro e (⟨x,h1,rfl⟩|h1)
   · exact hl x h1
   exact hw e h1
 have EZ:All (fE sz) fun x=>∀e∈x.toList,e.ok 2000:=by
  intro ts w q h;unfold fE at h
  split at h
  · cases h;simp
  exact(xR sz).seq (fun e he=>All.ret (P:=fun w=>∀x∈YV w,E.ok 2000 x) (by simpa using he)) _ _ _ h
 have Tu:All (nG sz) fun x=>x.1.ok 2000:=(xR sz).seq fun e he=>by
  intro ts x q h;unfold jM at h
  split at h
  · cases h;exact he
  split at h
  · cases h;exact he
  cases h;exact he
 have RO:All (fZ sz) fun l=>∀x∈l,x.1.ok 2000:=by
  intro ts l q h;unfold fZ at h
  split at h
  · exact All.seq (All.any _) (fun _ _=>All.sep fun _=>Tu) _ _ _ h
  cases h;simp
 refine All.seq (All.any _) (fun _ _=>All.seq (All.sep fun _=>EZ) fun i hi=>All.seq (All.any _) fun _ _=>All.seq (All.any _) fun t _=>All.seq (uW sz) fun w hw=>All.seq RO fun o ho=>All.seq (All.any _) fun l _=>All.ret (P:=fun s:St=>∀e∈s.exprs,E.ok 2000 e) ?_) _ _ _ h;simp only[St.exprs,YW,YX,Fy,List.mem_flatMap];rintro e ((⟨x,h1,h2⟩|h1)|⟨x,h1,rfl⟩)
 · exact hi x h1 e h2
 · exact hw e h1
 exact ho x h1
def Xf{α β:Type}(f:α->β):Except (Nat×Nat) α->Except (Nat×Nat) β
 |.error e=> .error e
 |.ok a=> .ok (f a)
theorem NW{l:Bs}{t:Bs}(h:Lx.bZ l=.ok (k,t,n))(p:Nat):uq ⟨k,t,p⟩:=by
 intro hk;simp only at hk;subst hk
 have two:∀x:Bs,Lx.hasB Lx.oq x=true->Lx.hasB Lx.keys x=false:=by
  intro x hx;simp only[Lx.oq,Lx.hasB,YC,beq_iff_eq,YS,or_false]at hx;rcases hx with rfl|rfl|rfl|rfl<;>decide
 have one:∀x:Bs,Lx.hasB Lx.ones x=true->Lx.hasB Lx.keys x=false:=by
  intro x hx;simp only[Lx.ones,Lx.hasB,YC,beq_iff_eq,YS,or_false]at hx;rcases hx with rfl|rfl|rfl|rfl|rfl|rfl|rfl|rfl|rfl|rfl|rfl|rfl<;>decide
 unfold Lx.bZ at h
 split at h
 · simp at h
 split at h
 · split at h<;>simp at h
 split at h
 · split at h
   · simp at h
   split at h<;>simp at h
 split at h
 · split at h
   · simp at h
   split at h
   · simp at h
   simp only[Except.ok.injEq,Prod.mk.injEq]at h;have:=h.1
   split at this<;>omega
 split at h
 · rename_i h3;simp only[Except.ok.injEq,Prod.mk.injEq]at h;obtain⟨_,rfl,_⟩:=h;exact two _ h3.2
 split at h
 · rename_i h3;simp only[Except.ok.injEq,Prod.mk.injEq]at h;obtain⟨_,rfl,_⟩:=h;exact one _ h3
 simp at h
theorem Pe:∀(m:Nat) (l:Bs) (pos:Nat) (ts:List Tok),l.length<=m->Lx.bO 0 pos l=.ok ts->∀t∈ts,uq t:=by
 intro m
 induction m with
 |zero=>
  intro l pos ts hl h;obtain rfl:=List.length_eq_zero_iff.1 (Nat.le_zero.1 hl);simp only[Lx.bO,Except.ok.injEq]at h;subst h;simp
 |succ m ih=>
  intro l pos ts hl h
  cases l with
  |nil=>
   simp only[Lx.bO,Except.ok.injEq]at h;subst h;simp
  |cons b r=>
   rw[Lx.eX]at h
   split at h
   · simp at h
   rename_i k t n h1;have hn:=Lx.gT h1;simp only[Yw]at hn hl
   split at h
   · rename_i us h2;simp only[Except.ok.injEq]at h;subst h;intro x hx;rcases List.mem_cons.1 hx with rfl|hx
     · exact NW h1 pos
     exact ih _ _ _ (by simp;omega) h2 x hx
   simp at h
theorem JH{l:Bs}{ts:List Tok}(h:Lx.lex l=.ok ts):∀t∈ts,uq t:=by
 unfold Lx.lex at h
 split at h
 · simp at h
 exact Pe _ _ _ _ (nlr _) h
theorem oF{s:Bs}{r:Except (Nat×Nat) St}(h:bL s r):Parse s (Xf St.nodes r):=by
 unfold bL at h;unfold Parse
 cases hl:Lx.lex s with
 |error e=>rw[hl]at h;simp only at h⊢;rw[h];rfl
 |ok ts=>
  rw[hl]at h;simp only at h⊢;obtain⟨q,h1,h2⟩:=h;obtain⟨n,hn⟩:=Iu (JH hl) h1;refine⟨n,?_⟩;unfold whole;rw[hn]
  match q,h1,h2 with
  |.error e,h1,h2=>
   simp only at h2;rw[h2];exact⟨_,rfl,rfl⟩
  |.ok (a,u),h1,h2=>
   simp only at h2;simp only[dD,aC];by_cases hu:u=[]
   · rw[if_pos hu]at h2;rw[if_pos hu];refine⟨_,rfl,deepest a.exprs,?_,?_⟩
     · exact(a.X8 (O5 _ _ _ _ h1)).deep
     rw[h2];split<;>rfl
   rw[if_neg hu]at h2;rw[if_neg hu,h2];exact⟨_,rfl,rfl⟩
end Px
end
section
namespace Px
open Lx (Bs Tok)
structure PT where
 out:Bs
 kind:Nat
 val:Bs
 pre:Bool
def rO(s:Bs):PT:=⟨s,50,s,false⟩
def Qk(s:Bs):PT:=⟨s,51,s,false⟩
def XZ:PT:=⟨[45],51,[45],true⟩
def QT(s:Bs):PT:=⟨qo s,18,s,false⟩
def X9(s:Bs):PT:=⟨WG 39 s,17,s,false⟩
def Xw(n:Nat):PT:=⟨wH 20 n,16,wH 20 n,false⟩
def apart(a b:PT):Bool:=if a.out=[40]\/b.out=[41]\/b.out=[44]then false else if a.pre=true then decide (b.out.head? =Y2 45)else true
def Hd(p:UInt8->Prop):Bs->Prop
 |[]=>True
 |c::_=>p c
def Ends:Bs->Prop
 |[]=>True
 |c::_=>c=32\/c=41\/c=44
structure PT.Ok(t:PT):Prop where
 ne:∃c r,t.out=c::r/\Lx.isSp c=false/\(c.toNat=45->t.out=[45])
 reads:∀rest,(Ends rest\/t.out=[40]\/t.pre=true)->Lx.bZ (t.out++rest)=.ok (t.kind,t.val,t.out.length)
 pre:t.pre=true->t.out=[45]
 small:t.out.length<=100000
theorem aV(p:UInt8->Bool):∀(a b:Bs),(∀c∈a,p c=true)->Hd (fun c=>p c=false) b->Lx.cnt p (a++b)=a.length
 |[],[],_,_=>rfl
 |[],c::b,_,h=>by simp only[YK,Lx.cnt,List.length_nil];rw[if_neg (by rw[show p c=false from h];decide)]
 |c::a,b,h,h'=>by
  simp only[YI,Lx.cnt,Yw];rw[if_pos (h c (by simp)),aV p a b (fun x hx=>h x (by simp[hx])) h']
theorem R9{b:Bs}(h:Ends b):Hd (fun c=>Lx.dx c=false) b:=by
 cases b with
 |nil=>trivial
 |cons c r=>show _=false;rcases h with rfl|rfl|rfl<;>decide
theorem GN{w rest:Bs}(h1:∃c r,w=c::r/\Lx.isLet c=true)(h2:∀c∈w,Lx.dx c=true)(he:Ends rest):
   Lx.bZ (w++rest)=if Lx.hasB Lx.keys (w.map Lx.Mo)=true then .ok (50,w.map Lx.Mo,w.length)else .ok (18,w.map Lx.zL,w.length):=by
 obtain⟨c,r,rfl,hc⟩:=h1;have hcnt:=aV Lx.dx (c::r) rest h2 (R9 he);unfold Lx.bZ;simp only[YI]at hcnt⊢;rw[if_pos hc,hcnt]
 rw[show List.take (c::r).length (c::(r++rest))=c::r from by
  rw[<-YI];exact List.take_left]
end Px
end
section
namespace Px
open Lx (Bs Tok)
theorem Jg(l:Bs):Lx.bC (32::l)=1+Lx.bC l:=by
 unfold Lx.bC
 conv=>lhs;unfold Lx.dW
 rw[if_neg (by simp),if_pos (by decide)]
end Px
end
section
namespace Px
open Lx (Bs Tok)
def Same(ts:List Tok)(l:List PT):Prop:=ts.map (fun t=>(t.kind,t.text))=l.map fun t=>(t.kind,t.val)
def E.lvl:E->Nat
 |.num z=>if z<0 then 8 else 9
 |.un k _=>if k=20 then 3 else if k=19 then 8 else 4
 |.bin k _ _=>(wL k).2
 |_=>9
def Mm(lvl least:Nat)(l:List PT):List PT:=if lvl<least then Qk [40]::(l++[Qk [41]])else l
def X0(k:Nat):PT:=if k<25 then rO (wL k).1 else Qk (wL k).1
def leftOf(k:Nat):Nat:=if(wL k).2=4 then 5 else(wL k).2
def E.pt:E->List PT
 |.null=>[rO bq]
 |.bool b=>[rO (if b=true then gW else dK)]
 |.num z=>if z<0 then[XZ,Xw z.natAbs]else[Xw z.natAbs]
 |.str s=>[X9 s]
 |.nm s=>[QT s]
 |.un k e=>if k=20 then rO fH::Mm e.lvl 3 e.pt else if k=19 then XZ::Mm e.lvl 8 e.pt
   else if k=21 then Mm e.lvl 5 e.pt++[rO AA,rO bq]else Mm e.lvl 5 e.pt++[rO AA,rO fH,rO bq]
 |.bin k a b=>Mm a.lvl (leftOf k) a.pt++X0 k::Mm b.lvl ((wL k).2+1) b.pt
def E.good:E->Prop
 |.str s=>Lx.dh s=true
 |.nm s=>isName s=true
 |.un _ e=>e.good
 |.bin _ a b=>a.good/\b.good
 |_=>True
def Stops(m:Nat)(rest:List Tok):Prop:=(∀l,m<=l->oper l rest=0)/\(m<=4->sees AA rest=false)
theorem Stops.up{rest:List Tok}(h:Stops m rest)(hn:m<=n):Stops n rest:=⟨fun l hl=>h.1 l (by omega),fun h4=>h.2 (by omega)⟩
theorem Lp{s:Bs}{r:List Tok}(h:(k≠50/\k≠51)\/((∀x∈cu,x.2.1≠s)/\s≠AA)):Stops m (⟨k,s,p⟩::r):=by
 constructor
 · intro l _;rw[sD]
   split
   · rename_i hk;rcases h with h|⟨h,_⟩
     · rcases hk with hk|hk
       · exact absurd hk h.1
       exact absurd hk h.2
     have:∀(t:List (Nat×Bs×Nat)),(∀x∈t,x.2.1≠s)->iU t l s=0:=by
      intro t
      induction t with
      |nil=>intro _;rfl
      |cons x t ih=>
       intro hx;unfold iU;rw[if_neg (fun e=>hx x (by simp) e.2)];exact ih (fun y hy=>hx y (by simp[hy]))
     exact this cu h
   rfl
 intro _;simp only[sees,YG,YF,decide_eq_false_iff_not,beq_eq_false_iff_ne];rcases h with h|⟨_,h⟩
 · exact .inl h
 exact .inr h
theorem MG{r:List Tok}(hm:5<=m):Stops m (⟨50,AA,p⟩::r):=by
 refine⟨fun l _=> ?_,fun h=>by omega⟩;rw[sD,if_pos (.inl rfl)];simp[cu,iU,AA,VY,Rj]
theorem stops_nil(m:Nat):Stops m []:=⟨fun _ _=>rfl,fun _=>rfl⟩
theorem down{X rest:List Tok}{b:List Nd}:∀(d m:Nat),1<=m->m+d<=9->Ex sz (m+d) [] X (.ok (b,rest))->Stops m rest->(m+d=9->sees lV X=false)->(4<=m+d->sees fH X=false)->Ex sz m [] X (.ok (b,rest))
 |0,m,_,_,h,_,_,_=>h
 |d+1,m,h1,h2,h,hs,h9,h4=>by
  have ih:Ex sz (m+1) [] X (.ok (b,rest)):=down d (m+1) (by omega) (by omega) (by rw[show m+1+d=m+(d+1) by omega];exact h) (hs.up (by omega)) (fun e=>h9 (by omega)) (fun e=>h4 (by omega));by_cases m3:m=3
  · subst m3;exact Ex.XU (h4 (by omega)) ih
  by_cases m4:m=4
  · subst m4;exact Ex.cmp ih (yI (hs.2 (by omega)) (hs.1 4 (by omega)))
  by_cases m8:m=8
  · subst m8;exact Ex.XV (h9 (by omega)) ih
  exact Ex.left (by omega) m3 m4 ih (Ex.end_ (hs.1 m (nlr _)))
theorem Ex.down{L:Nat}{X rest:List Tok}{b:List Nd}(h1:1<=m)(hL:L<=9)(hm:m<=L)(h:Ex sz L [] X (.ok (b,rest)))(hs:Stops m rest)(h9:L=9->sees lV X=false)(h4:4<=L->sees fH X=false):Ex sz m [] X (.ok (b,rest)):=by
 obtain⟨d,rfl⟩:∃d,L=m+d:=⟨L-m,by omega⟩;exact Px.down d m h1 hL h hs h9 h4
theorem Nr(s:Bs)(k:Nat)(v:Bs)(p:Nat)(r:List Tok):sees s (⟨k,v,p⟩::r)=((decide (k=50)||decide (k=51))&&v==s):=rfl
def VK(L:Nat):Prop:=L=1\/L=2\/L=5\/L=6\/L=7
def Loop(sz:Nat)(e:E):Prop:=VK e.lvl->∀ts rest r,Same ts e.pt->Stops (e.lvl+1) rest->Ex sz (e.lvl+10) e.nodes rest r->Ex sz e.lvl [] (ts++rest) r
end Px
end
section
namespace Px
open Lx (Bs Tok)
def Im:List (List PT)->List PT
 |[]=>[]
 |[a]=>a
 |a::b::r=>a++Qk [44]::Im (b::r)
def Vj(n:Nat):Bs:=if n%4=1 then o9 else if n%4=2 then qC else ko
def WC(c:Bs×Nat):List PT:=QT c.1::rO (Vj c.2)::(if 4<c.2 then[rO fH,rO bq]else[])
def WL(r:List E):List PT:=Qk [40]::(Im (r.map E.pt)++[Qk [41]])
def XJ(s:Bs×E):List PT:=QT s.1::Qk [61]::s.2.pt
def Vu:Option E->List PT
 |none=>[Qk [42]]
 |some e=>e.pt
def TP(o:E×Bool):List PT:=o.1.pt++(if o.2=true then[rO Ej]else[])
def Ie:Option E->List PT
 |none=>[]
 |some e=>rO bG::e.pt
def Xo:Option Nat->List PT
 |none=>[]
 |some n=>[rO nM,Xw n]
def Rb:List (E×Bool)->List PT
 |[]=>[]
 |o::r=>rO yK::rO VH::Im ((o::r).map TP)
def St.pt:St->List PT
 |.create t c=>rO iq::rO nS::QT t::Qk [40]::(Im (c.map WC)++[Qk [41]])
 |.drop t=>[rO oM,rO nS,QT t]
 |.insert t r=>rO jw::rO J2::QT t::rO wX::Im (r.map WL)
 |.delete t w=>rO iw::rO eT::QT t::Ie w
 |.update t s w=>rO lK::QT t::rO RF::(Im (s.map XJ)++Ie w)
 |.select i t w o l=>rO jN::(Im (i.map Vu)++rO eT::QT t::(Ie w++(Rb o++Xo l)))
structure St.Fit(s:St):Prop where
 exprs:∀e∈s.exprs,e.ok 2000
 parts:match s with
  |.create t c=>isName t=true/\1<=c.length/\c.length<=6/\∀x∈c,isName x.1=true/\1<=x.2/\x.2<=7/\x.2≠4
  |.drop t=>isName t=true
  |.insert t r=>isName t=true/\r≠[]/\∀x∈r,x≠[]
  |.delete t w=>isName t=true
  |.update t s w=>isName t=true/\s≠[]/\∀x∈s,isName x.1=true
  |.select i t w o l=>isName t=true/\i≠[]/\∀n,l=Y2 n->n<=1000000000
theorem dJ{b:Bool}(h:b=false):¬b=true:=by rw[h];decide
theorem GR{s:Bs}(h:isName s=true):s.length<=30:=by
 simp only[isName,YD,decide_eq_true_eq]at h;exact h.2
theorem CQ{s:Bs}{r:List Tok}(h:k=50\/k=51):bU sz s (⟨k,s,p⟩::r) (.ok ((),r)):=by
 unfold bU must;rw[if_pos (by rw[Nr];rcases h with rfl|rfl<;>simp)]
 rfl
theorem Jt{s:Bs}{r:List Tok}(h:isName s=true):cO sz (⟨18,s,p⟩::r) (.ok (s,r)):=by
 have:=GR h;show name sz (⟨18,s,p⟩::r)=_;simp only[name];rw[if_neg (by simp),if_neg (by omega)]
theorem EJ{s:Bs}{r:List Tok}(h:s≠AA/\∀x∈cu,x.2.1≠s):Stops 1 (⟨50,s,p⟩::r):=Lp (.inr ⟨h.2,h.1⟩)
section
variable {α:Type}{x:Nat->Rg α}{pt:α->List PT}{P:List Tok->Prop}{N:Nat}
end
theorem IB(sz:Nat)(ts:List Tok):dP fun n=>stmt sz n ts:=by
 cases ts with
 |nil=>exact ag _
 |cons t r=>
  unfold stmt;refine bK (ag _) (bK ?_ (bK (ag _) (bK ?_ (bK ?_ (bK ?_ (bK ?_ (ag _)))))))
  all_goals
   first|unfold create|unfold insert|unfold delete|unfold update|unfold choose
   repeat' (first|exact ag _|exact iG _ _|exact tT _ _ _|exact aL (BK sz) _ _|exact aL (jV _) _ _|exact aL (gF _) _ _|exact aL (iD _) _ _|refine aS ?_ (fun _ _=> ?_))
theorem vO(sz:Nat)(ts:List Tok):dP fun n=>whole sz n ts:=aS (IB sz ts) fun _ _=>ag _
theorem Parse.one{s:Bs}{r r':Except (Nat×Nat) (List Nd)}(h:Parse s r)(h':Parse s r'):r=r':=by
 unfold Parse at h h'
 cases hl:Lx.lex s with
 |error e=>rw[hl]at h h';simp only at h h';rw[h,h']
 |ok ts=>
  rw[hl]at h h';simp only at h h';obtain⟨n,q,h1,h2⟩:=h;obtain⟨n',q',h1',h2'⟩:=h';have e1:=vO s.length ts n (max n n') _ (Yy _ _) h1;have e2:=vO s.length ts n' (max n n') _ (Yz _ _) h1';simp only at e1 e2;rw[e1]at e2
  cases e2
  match q,h2,h2' with
  |.error e,h2,h2'=>simp only at h2 h2';rw[h2,h2']
  |.ok (a,_),h2,h2'=>
   obtain⟨d,d1,d2⟩:=h2;obtain⟨d',d1',d2'⟩:=h2';rw[d1]at d1'
   cases d1'
   rw[d2,d2']
end Px
end
theorem MW(s:ByteArray)(k lo hi:Nat):Lx.eQ s.data.toList k lo hi=decide (k<s.size/\lo<=(s.get! k).toNat/\(s.get! k).toNat<=hi):=by
 unfold Lx.eQ;by_cases h:k<s.size
 · rw[YP (by simpa using h)]
   have e:s.get! k=s[k]:=by
    simp[ByteArray.get!,getElem!_pos,h]
    rfl
   rw[e];simp[h]
   rfl
 rw[YY (by simpa using h)];simp[h]
theorem dH(s:ByteArray)(k:Nat)(h:k<s.size):s.get! k=s[k]:=by
 simp[ByteArray.get!,getElem!_pos,h]
 rfl
def lY(n b0 b1 b2 b3:Nat):Nat:=
 if b0<128 then 1
 else if(194<=b0/\b0<=223)/\(1<n/\128<=b1/\b1<=191)then 2
 else if(224<=b0/\b0<=239)/\(1<n/\Lx.ma b0<=b1/\b1<=Lx.qc b0)/\(2<n/\128<=b2/\b2<=191)then 3
 else if(240<=b0/\b0<=244)/\(1<n/\Lx.ma b0<=b1/\b1<=Lx.qc b0)/\(2<n/\128<=b2/\b2<=191)/\(3<n/\128<=b3/\b3<=191)then 4
 else 0
theorem vw(s:ByteArray)(i:Nat)(h:i<s.size):Lx.aR (s.data.toList.drop i)=lY (s.size-i) (s.get! i).toNat (s.get! (i+1)).toNat (s.get! (i+2)).toNat (s.get! (i+3)).toNat:=by
 rw[O8 s i h,dH s i h];unfold OV lY;simp only[MW,decide_eq_true_eq];have c1:(i+1<s.size)=(1<s.size-i):=propext ⟨fun h=>by omega,fun h=>by omega⟩;have c2:(i+2<s.size)=(2<s.size-i):=propext ⟨fun h=>by omega,fun h=>by omega⟩;have c3:(i+3<s.size)=(3<s.size-i):=propext ⟨fun h=>by omega,fun h=>by omega⟩;simp only[c1,c2,c3]
theorem QX(n b0 b1 b2 b3:Nat)(h0:b0<256)(h1:b1<256)(h2:b2<256)(h3:b3<256)(h:lY n b0 b1 b2 b3=0):Lib.decodeN n b0 b1 b2 b3=(65533,1)/\128<=b0:=by
 unfold lY Lx.ma Lx.qc at h;unfold Lib.decodeN
 repeat' split at h
 all_goals(try(exfalso;omega))
 all_goals
  refine⟨?_,by omega⟩
  repeat' split
  all_goals first|rfl|(exfalso;omega)
theorem Rv(n b0 b1 b2 b3:Nat)(h:lY n b0 b1 b2 b3=1):b0<128/\Lib.decodeN n b0 b1 b2 b3=(b0,1):=by
 unfold lY at h
 repeat' split at h
 all_goals(try(exfalso;omega))
 rename_i hb;exact⟨hb,by simp[Lib.decodeN,hb]⟩
theorem JS(n b0 b1 b2 b3:Nat)(h:lY n b0 b1 b2 b3=2):(194<=b0/\b0<=223)/\(1<n/\128<=b1/\b1<=191)/\Lib.decodeN n b0 b1 b2 b3=(b0%32*64+b1%64,2):=by
 unfold lY at h
 repeat' split at h
 all_goals(try(exfalso;omega))
 rename_i hb;refine⟨hb.1,hb.2,?_⟩;unfold Lib.decodeN;rw[if_neg (by omega),if_pos (by omega),if_pos (by omega)]
theorem BF(n b0 b1 b2 b3:Nat)(h:lY n b0 b1 b2 b3=3):(224<=b0/\b0<=239)/\(1<n/\Lx.ma b0<=b1/\b1<=Lx.qc b0)/\(2<n/\128<=b2/\b2<=191)/\Lib.decodeN n b0 b1 b2 b3=(b0%16*4096+b1%64*64+b2%64,3):=by
 unfold lY at h
 repeat' split at h
 all_goals(try(exfalso;omega))
 rename_i hb;refine⟨hb.1,hb.2.1,hb.2.2,?_⟩;have hl:=hb.2.1;unfold Lx.ma Lx.qc at hl;unfold Lib.decodeN
 repeat' split at hl
 all_goals rw[if_neg (by omega),if_neg (by omega),if_pos (by omega),if_pos (by omega)]
theorem Ei(n b0 b1 b2 b3:Nat)(h:lY n b0 b1 b2 b3=4):(240<=b0/\b0<=244)/\(1<n/\Lx.ma b0<=b1/\b1<=Lx.qc b0)/\(2<n/\128<=b2/\b2<=191)/\(3<n/\128<=b3/\b3<=191)/\Lib.decodeN n b0 b1 b2 b3=(b0%8*262144+b1%64*4096+b2%64*64+b3%64,4):=by
 unfold lY at h
 repeat' split at h
 all_goals(try(exfalso;omega))
 rename_i hb;refine⟨hb.1,hb.2.1,hb.2.2.1,hb.2.2.2,?_⟩;have hl:=hb.2.1;unfold Lx.ma Lx.qc at hl;unfold Lib.decodeN
 repeat' split at hl
 all_goals rw[if_neg (by omega),if_neg (by omega),if_neg (by omega),if_pos (by omega),if_pos (by omega)]
theorem byte_back(b:UInt8)(x:Int)(h:x=(b.toNat:Int)):x.toNat.toUInt8=b:=by
 subst h;simp
theorem rY(s:ByteArray)(i:Nat)(h:i<s.size)(hc:Lx.aR (s.data.toList.drop i)=0):Utf8.decode s i=(65533,1)/\128<=s[i].toNat:=by
 rw[vw s i h]at hc;have:=QX _ _ _ _ _ (UInt8.toNat_lt _) (UInt8.toNat_lt _) (UInt8.toNat_lt _) (UInt8.toNat_lt _) hc;rw[dH s i h]at this;rw[Lib.decode_at,dH s i h];exact this
theorem drop_take(s:ByteArray)(i n:Nat)(h:i+n<=s.size)(l:Lx.Bs)(hl:l.length=n)(hg:∀k,k<n->l[k]? =Y2 (s.get! (i+k))):(s.data.toList.drop i).take n=l:=by
 apply List.ext_getElem?;intro k;by_cases hk:k<n
 · rw[List.getElem?_take_of_lt hk,YO,hg k hk,dH s (i+k) (by omega),YP (by simp;have:s.data.size=s.size:=rfl;omega)]
   rfl
 rw[YY (by simp;omega),YY (by omega)]
theorem mh(s:ByteArray)(i:Nat)(h:i<s.size)(hc:Lx.aR (s.data.toList.drop i)≠0):
   (Utf8.decode s i).2=Lx.aR (s.data.toList.drop i)/\Lib.encodeRune ((Utf8.decode s i).1:Int)=(s.data.toList.drop i).take (Lx.aR (s.data.toList.drop i))/\
     ((Lx.aR (s.data.toList.drop i)=1/\(Utf8.decode s i).1=s[i].toNat/\s[i].toNat<128)\/(1<Lx.aR (s.data.toList.drop i)/\128<=(Utf8.decode s i).1/\128<=s[i].toNat)):=by
 have hle:=Lx.jy (s.data.toList.drop i);rw[Yv,show s.data.toList.length=s.size from by simp]at hle;have hcls:=vw s i h;rw[Lib.decode_at];rw[dH s i h]at hcls⊢;have B0:=s[i].toNat_lt
 have hcase:Lx.aR (s.data.toList.drop i)=1\/Lx.aR (s.data.toList.drop i)=2\/Lx.aR (s.data.toList.drop i)=3\/Lx.aR (s.data.toList.drop i)=4:=by
  have:∀n b0 b1 b2 b3,lY n b0 b1 b2 b3=0\/lY n b0 b1 b2 b3=1\/lY n b0 b1 b2 b3=2\/lY n b0 b1 b2 b3=3\/lY n b0 b1 b2 b3=4:=by
   intro n b0 b1 b2 b3;unfold lY
   repeat' split
   all_goals omega
  have:=this (s.size-i) s[i].toNat (s.get! (i+1)).toNat (s.get! (i+2)).toNat (s.get! (i+3)).toNat;rw[<-hcls]at this;omega
 rcases hcase with e|e|e|e
 · rw[e]at hcls hle⊢;obtain⟨q,d⟩:=Rv _ _ _ _ _ hcls.symm;rw[d];refine⟨rfl,?_,.inl ⟨rfl,rfl,q⟩⟩
   rw[drop_take s i 1 (by omega) [s.get! i] rfl (by intro k hk;have:k=0:=by omega
                                                    subst this;rfl)]
   unfold Lib.encodeRune;rw[Lib.encodeRuneZ_one (by omega) (by simp;omega)];simp only[YZ,Y0];rw[byte_back s[i] _ rfl,dH s i h]
 · rw[e]at hcls hle⊢;obtain⟨q,q1,d⟩:=JS _ _ _ _ _ hcls.symm;rw[d];refine⟨rfl,?_,.inr ⟨by omega,by simp only;omega,by omega⟩⟩
   rw[drop_take s i 2 (by omega) [s.get! i,s.get! (i+1)] rfl (by intro k hk;have:k=0\/k=1:=by omega
                                                                 rcases this with rfl|rfl<;>rfl)]
   unfold Lib.encodeRune;rw[Lib.encodeRuneZ_two (by simp only;omega) (by simp only;omega)];simp only[YZ,Y0];rw[byte_back s[i] _ (by omega),byte_back (s.get! (i+1)) _ (by omega),dH s i h]
 · rw[e]at hcls hle⊢;obtain⟨q,q1,q2,d⟩:=BF _ _ _ _ _ hcls.symm;unfold Lx.ma Lx.qc at q1;have B1:=(s.get! (i+1)).toNat_lt
   have hr:((2048:Int)<=((s[i].toNat%16*4096+(s.get! (i+1)).toNat%64*64+(s.get! (i+2)).toNat%64:Nat):Int)/\((s[i].toNat%16*4096+(s.get! (i+1)).toNat%64*64+(s.get! (i+2)).toNat%64:Nat):Int)<55296)\/((57343:Int)<((s[i].toNat%16*4096+(s.get! (i+1)).toNat%64*64+(s.get! (i+2)).toNat%64:Nat):Int)/\((s[i].toNat%16*4096+(s.get! (i+1)).toNat%64*64+(s.get! (i+2)).toNat%64:Nat):Int)<=65535):=by
    repeat' split at q1
    all_goals omega
   have hb1:128<=(s.get! (i+1)).toNat/\(s.get! (i+1)).toNat<=191:=by
    repeat' split at q1
    all_goals omega
   rw[d];refine⟨rfl,?_,.inr ⟨by omega,by simp only;omega,by omega⟩⟩
   rw[drop_take s i 3 (by omega) [s.get! i,s.get! (i+1),s.get! (i+2)] rfl (by intro k hk;have:k=0\/k=1\/k=2:=by omega
                                                                              rcases this with rfl|rfl|rfl<;>rfl)]
   unfold Lib.encodeRune;rw[Lib.encodeRuneZ_three hr];simp only[YZ,Y0];rw[byte_back s[i] _ (by omega),byte_back (s.get! (i+1)) _ (by omega),byte_back (s.get! (i+2)) _ (by omega),dH s i h]
 rw[e]at hcls hle⊢;obtain⟨q,q1,q2,q3,d⟩:=Ei _ _ _ _ _ hcls.symm;unfold Lx.ma Lx.qc at q1;have B1:=(s.get! (i+1)).toNat_lt
 have hb1:128<=(s.get! (i+1)).toNat/\(s.get! (i+1)).toNat<=191:=by
  repeat' split at q1
  all_goals omega
 have hr:(65536:Int)<=((s[i].toNat%8*262144+(s.get! (i+1)).toNat%64*4096+(s.get! (i+2)).toNat%64*64+(s.get! (i+3)).toNat%64:Nat):Int)/\((s[i].toNat%8*262144+(s.get! (i+1)).toNat%64*4096+(s.get! (i+2)).toNat%64*64+(s.get! (i+3)).toNat%64:Nat):Int)<=1114111:=by
  repeat' split at q1
  all_goals omega
 rw[d];refine⟨rfl,?_,.inr ⟨by omega,by simp only;omega,by omega⟩⟩
 rw[drop_take s i 4 (by omega) [s.get! i,s.get! (i+1),s.get! (i+2),s.get! (i+3)] rfl (by intro k hk;have:k=0\/k=1\/k=2\/k=3:=by omega
                                                                                         rcases this with rfl|rfl|rfl|rfl<;>rfl)]
 unfold Lib.encodeRune;rw[Lib.encodeRuneZ_four hr.1 hr.2];simp only[YZ,Y0];rw[byte_back s[i] _ (by omega),byte_back (s.get! (i+1)) _ (by omega),byte_back (s.get! (i+2)) _ (by omega),byte_back (s.get! (i+3)) _ (by omega),dH s i h]
end Go.Proofs.YthhhfcdakfbpkaaGreatDoor
