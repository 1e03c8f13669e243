import PyProof.Rows.All
import Wide.All
import OpenK.AllK
import Wide.FinOn
import Lean
import PyProof.EqAt
import PyProof.EqKinds
import PyProof.TupleCall
import PyProof.ExcInit
import PyProof.ExcClass3
import PyProof.ExcArgsOwn
import PyProof.ExcBaseAll.ValueError
import PyProof.ExcAttrAll.ValueError
import OpenK.KMake
import PyProof.InstStoreFacts
import PyProof.ExcArgs
import OpenK.KMore
import KE.KIsAll
import KE.KTryMore
import PyProof.Rows.FStr
import PyProof.FactsAll.range_1
import PyProof.MinMaxWalk
import PyProof.WalkInts
import PyProof.SeqI3
import PyProof.DictWalks
import KE.KMinBuiltin
import PyProof.Rows.CallKwBuiltin
import PyProof.NeKinds
import PyProof.Rows.SortWalk
import KE.KDictSum
import KE.KSortTup
import PyProof.ZipIter
import PyProof.WalksMore
import KE.KIntText
import PyProof.CallStr
import PyProof.Rows.StrSplitAre
import PyProof.StrLawsChain
import PyProof.Rows.CatFin
import PyProof.ToksMono
import PyProof.StrReplace2
import PyProof.StrCalls
import KE.KDictList
import KE.KDictOf
import PyProof.EnumIter
import PyProof.EnumMake
import PyProof.EnumFor
import KE.RegKIsAll
import KE.RegKTryMore
import PySem.Challenge.RW_shellround_k29_texts_of_no_house
set_option Elab.async false
set_option linter.all false
set_option maxRecDepth 100000
local macro_rules|`(tactic|left)=>`(tactic|decide +kernel)
local macro_rules|`(tactic|right)=>`(tactic|exact ⟨rfl,rfl,rfl,by decide +kernel,rfl,by decide +kernel,by decide +kernel⟩)
namespace L2
open PySem PySem.Spec PyProof.Rows
abbrev Key:=Sum Int Str
def tq:Key->Value->Bool
 | .inl k,v=>Value.isInt k v
 | .inr x,v=>Value.isStrOf x v
def WH(w:World):Key->Int
 | .inl k=>hashInt k
 | .inr x=>hashStr w x
theorem cm:∀ {k:Key} {v:Value},tq k v=true->(∃ i t,k=Sum.inl i/\v=Value.int i t)\/(∃ x t,k=Sum.inr x/\v=Value.str x t)
 | .inl i,v,h=>by
  obtain⟨t,e⟩:=Value.isInt_shape (k:=i) (v:=v) h
  exact .inl ⟨i,t,rfl,e⟩
 | .inr x,v,h=>by
  obtain⟨t,e⟩:=Value.isStrOf_shape (x:=x) (v:=v) h
  exact .inr ⟨x,t,rfl,e⟩
theorem D3(i:Int)(t:Tok):tq (.inl i) (.int i t)=true:=by simp [tq,Value.isInt]
theorem pW(x:Str)(t:Tok):tq (.inr x) (.str x t)=true:=by simp [tq,Value.isStrOf]
theorem NM(a b:Int):decide ((Sum.inl a:Key)=Sum.inl b)=(a == b):=by
 by_cases e:a=b
 ·subst e;simp
 ·have h:¬ (Sum.inl a:Key)=Sum.inl b:=fun q=>e (Sum.inl.inj q)
  rw[decide_eq_false h]
  exact(beq_eq_false_iff_ne.mpr e).symm
theorem F'(a b:Str):decide ((Sum.inr a:Key)=Sum.inr b)=decide (a=b):=by
 by_cases e:a=b
 ·subst e;simp
 ·have h:¬ (Sum.inr a:Key)=Sum.inr b:=fun q=>e (Sum.inr.inj q)
  rw[decide_eq_false h,decide_eq_false e]
theorem NN(a:Int)(b:Str):decide ((Sum.inl a:Key)=Sum.inr b)=false:=decide_eq_false (fun q=>nomatch q)
theorem NO(a:Str)(b:Int):decide ((Sum.inr a:Key)=Sum.inl b)=false:=decide_eq_false (fun q=>nomatch q)
def bW(prog:Program)(w:World):PySem.KeyKind prog w Key where
 is:=tq
 hash:=WH w
 inj:=fun v a b ha hb=>by
  rcases cm ha with ⟨i,t,rfl,rfl⟩ | ⟨x,t,rfl,rfl⟩
  ·rcases cm hb with ⟨j,u,rfl,e⟩ | ⟨y,u,rfl,e⟩
   ·injection e with e1 _;rw[e1]
   ·exact nomatch e
  ·rcases cm hb with ⟨j,u,rfl,e⟩ | ⟨y,u,rfl,e⟩
   ·exact nomatch e
   ·injection e with e1 _;rw[e1]
 byValue:=fun k v h=>by
  rcases cm h with ⟨i,t,rfl,rfl⟩ | ⟨x,t,rfl,rfl⟩<;>rfl
 pyHash:=fun hv h=>by
  rcases cm hv with ⟨i,t,rfl,rfl⟩ | ⟨x,t,rfl,rfl⟩
  ·exact wpAny_pyHash_int h
  ·exact wpAny_pyHash_str h
 eqBool:=fun hu hv h=>by
  rcases cm hu with ⟨i,t,rfl,rfl⟩ | ⟨x,t,rfl,rfl⟩
  ·rcases cm hv with ⟨j,u,rfl,rfl⟩ | ⟨y,u,rfl,rfl⟩
   ·rw[NM] at h;exact wpAny_eqBool_int h
   ·rw[NN] at h;exact SeqAt.EqAt.int_str i t y u _ _ _ _ h
  ·rcases cm hv with ⟨j,u,rfl,rfl⟩ | ⟨y,u,rfl,rfl⟩
   ·rw[NO] at h;exact SeqAt.EqAt.str_int x t j u _ _ _ _ h
   ·rw[F'] at h;exact wpAny_eqBool_str h
 «strs»:=fun k x t v h=>by
  rcases cm h with ⟨i,u,rfl,e⟩ | ⟨y,u,rfl,e⟩
  ·exact nomatch e
  ·injection e with e1 _
   subst e1
   cases v<;>rfl
theorem yC(prog:Program)(w:World)(i:Int)(t:Tok):(bW prog w).is (.inl i) (.int i t)=true:=D3 i t
theorem kT(prog:Program)(w:World)(x:Str)(t:Tok):(bW prog w).is (.inr x) (.str x t)=true:=pW x t
inductive V where
 | bY | bl (b:Bool) | int (i:Int) | str (x:Str) | AH (b:Array UInt8) | MI (b:UInt64) | ref (a:Addr) | ty (n:String)
 deriving DecidableEq
def RelV:V->Value->Prop
 | .bY,u=>u=Value.none
 | .bl b,u=>u=Value.bool b
 | .int i,u=>∃ t,u=Value.int i t
 | .str x,u=>∃ t,u=Value.str x t
 | .AH b,u=>∃ t,u=Value.bytes b t
 | .MI b,u=>∃ t,u=Value.float b t
 | .ref a,u=>u=Value.ref a
 | .ty n,u=>u=Value.type n
abbrev Vals:List V->List Value->Prop:=Paired RelV
theorem Vals.length{xs:List V}{us:List Value}(r:Vals xs us):xs.length=us.length:=Paired.length r
theorem Vals.get:∀ {xs:List V} {us:List Value} {i:Nat} {x:V},Vals xs us->xs[i]?=some x->∃ u,us[i]?=some u/\RelV x u
 | _,_,_,_,.nil,e=>by simp at e
 | _,_,0,_,.cons r _,e=>by simp at e;subst e;exact⟨_,rfl,r⟩
 | _,_,i+1,x,.cons _ t,e=>by
  obtain⟨u,h1,h2⟩:=Vals.get (i:=i) (x:=x) t (by simpa using e)
  exact⟨u,by simpa using h1,h2⟩
theorem Vals.set{x:V}{u:Value}(r:RelV x u):∀ {xs:List V} {us:List Value} (i:Nat),Vals xs us->Vals (xs.set i x) (us.set i u)
 | _,_,_,.nil=>.nil
 | _,_,0,.cons _ t=>.cons r t
 | _,_,i+1,.cons q t=>.cons q (Vals.set r i t)
theorem Vals.append:∀ {xs ys:List V} {us ws:List Value},Vals xs us->Vals ys ws->Vals (xs++ys) (us++ws)
 | _,_,_,_,.nil,s=>s
 | _,_,_,_,.cons r t,s=>.cons r (Vals.append t s)
theorem Vals.take:∀ {xs:List V} {us:List Value} (n:Nat),Vals xs us->Vals (xs.take n) (us.take n)
 | _,_,0,_=>.nil
 | _,_,_+1,.nil=>.nil
 | _,_,n+1,.cons r t=>.cons r (Vals.take n t)
theorem Vals.drop:∀ {xs:List V} {us:List Value} (n:Nat),Vals xs us->Vals (xs.drop n) (us.drop n)
 | _,_,0,r=>r
 | _,_,_+1,.nil=>.nil
 | _,_,n+1,.cons _ t=>Vals.drop n t
def j5:Option V->Option Value->Prop
 | some v,some u=>RelV v u
 | none,none=>True
 | _,_=>False
def KV{κ:Type}:List (κ×V)->List (κ×Value)->Prop:=Paired fun (p:κ×V) (q:κ×Value)=>p.1=q.1/\RelV p.2 q.2
def kV:Key->V
 | .inl i=>.int i
 | .inr x=>.str x
inductive HO where
 | lst (xs:List V)
 | tup (xs:List V)
 | dK (aJ:List (Key×V)) | dT (aJ:List (List Key×V))
 | set (S:Int->Bool) (n:Nat)
 | ins (C dx:Addr) (fs:List (Str×V))
 | own (x:Addr)
 | xd (fs:List (Str×V))
 | met (f x:Addr)
 | WI (lo hi:Int)
 | pX (o:Obj) (u:HO)
 | NP (ps:Array Value)
 | ext (φ:Heap->Prop)
abbrev Hp:=Addr->Option HO
def upd(H:Hp)(a:Addr)(o:HO):Hp:=fun b=>if b=a then some o else H b
theorem af{H:Hp}{a:Addr}{o:HO}:upd H a o a=some o:=by unfold upd;rw[if_pos rfl]
theorem aj{H:Hp}{a b:Addr}{o:HO}(h:b≠a):upd H a o b=H b:=by unfold upd;rw[if_neg h]
theorem lR{H:Hp}{a:Addr}{o u:HO}:upd (upd H a o) a u=upd H a u:=by
 funext b;unfold upd;split<;>rfl
theorem iq{H:Hp}{a b:Addr}{o u:HO}(h:H a=some o)(h':H b=some u)(d:o≠u):a≠b:=by
 intro e;subst e;rw[h] at h';exact d (Option.some.inj h')
theorem ah{H:Hp}{a b:Addr}{o:HO}(h:H a=some o)(h':H b=none):a≠b:=by
 intro e;subst e;rw[h] at h';cases h'
section
variable(P:Program)(w:World)
def bI(H:Hp)(h:Heap)(a:Addr):HO->Prop
 | .lst xs=>xs.length<=sizeLine/\∃ (its:List Value) (n:Nat),Vals xs its/\h.get? a=some { cls:=.type "list",data:=.seq its.toArray n }
 | .tup xs=>xs.length<=sizeLine/\∃ its:List Value,Vals xs its/\IsTup h a its.toArray
 | .dK aJ=>aJ.length<=sizeLine/\(a == sysModules)=false/\∃ vs,KV aJ vs/\h.DictOf (bW P w) a vs
 | .dT aJ=>aJ.length<=sizeLine/\(a == sysModules)=false/\∃ xs:List (List Key×Addr×Value),
   Paired (fun (p:List Key×V) (q:List Key×Addr×Value)=>p.1=q.1/\H q.2.1=some (.tup (p.1.map kV))/\RelV p.2 q.2.2) aJ xs /\
   ∃ o es ep,h.get? a=some o/\o.ExactDict/\o.data=.dict es ep/\es.toList=xs.map (entryOfKey (tupleKind (bW P w)))/\(xs.map (·.1)).Nodup
 | .set S n=>h.SetOf (intKind P w) a S n
 | .ins C dx fs=>H dx=some (.own a)/\fs.length<=1000/\dx≠a/\h.get? a=some (W.instObj C dx) /\
   ∃ mA,h.Ns1 dx mA/\(∀ f,j5 (fs.lookup f) (mA f))/\PySem.Within mA (fs.map (·.1))
 | .own _=>∃ o,h.get? a=some o
 | .xd fs=>∃ mA,h.Ns1 a mA/\∀ f,j5 (fs.lookup f) (mA f)
 | .WI lo hi=>∃ t u v,h.get? a=some { cls:=.type "range",data:=.fields #[.int lo t,.int hi u,.int 1 v] }
 | .pX o u=>h.get? a=some o/\bI H h a u
 | .NP ps=>h.get? a=some { cls:=.none,data:=.fields ps }
 | .met f x=>h.get? a=some (W.methodObj (.ref f) (.ref x))
 | .ext φ=>φ h/\(∃ o,h.get? a=some o)/\∀ h1 h2:Heap,φ h1->(∀ o,h1.get? a=some o->h2.get? a=some o)->φ h2
def lS(H:Hp)(h:Heap):Prop:=∀ a o,H a=some o->bI P w H h a o
end
section
variable{P:Program}{w:World}{H H':Hp}{h h':Heap}{a:Addr}{o:HO}
theorem bI.lt(x:bI P w H h a o):a<h.objs.size:=by
 cases o with
 | lst xs=>obtain⟨_,_,_,_,e⟩:=x;exact Heap.lt_size e
 | tup xs=>obtain⟨_,_,_,p⟩:=x;exact p.lt
 | dK aJ=>obtain⟨_,_,_,_,o,_,_,e,_⟩:=x;exact Heap.lt_size e
 | dT aJ=>obtain⟨_,_,_,_,o,_,_,e,_⟩:=x;exact Heap.lt_size e
 | set S n=>obtain⟨o,_,_,_,e,_⟩:=x;exact Heap.lt_size e
 | ins C dx fs=>obtain⟨_,_,_,e,_⟩:=x;exact Heap.lt_size e
 | own y=>obtain⟨_,e⟩:=x;exact Heap.lt_size e
 | xd fs=>obtain⟨_,⟨_,_,_,e,_⟩,_⟩:=x;exact Heap.lt_size e
 | WI lo hi=>obtain⟨_,_,_,e⟩:=x;exact Heap.lt_size e
 | pX ob u=>obtain⟨e,_⟩:=x;exact Heap.lt_size e
 | NP ps=>exact Heap.lt_size (show h.get? a=some _ from x)
 | met f y=>exact Heap.lt_size (show h.get? a=some _ from x)
 | ext φ=>obtain⟨_,⟨_,e⟩,_⟩:=x;exact Heap.lt_size e
theorem Paired.AI{α β:Type}{F G:α->β->Prop}:∀ {Ga:List α} {Gb:List β},Paired F Ga Gb->(∀ a b,F a b->G a b)->Paired G Ga Gb
 | _,_,.nil,_=>.nil
 | _,_,.cons r t,f=>.cons (f _ _ r) (Paired.AI t f)
theorem bI.oi(x:bI P w H h a o)(k:∀ b u,(b=a\/H b=some (.own a))->h.get? b=some u->h'.get? b=some u)
  (ho:∀ b,H b=some (.own a)->H' b=some (.own a)) (ht:∀ b xs,H b=some (.tup xs)->H' b=some (.tup xs)):bI P w H' h' a o:=by
 induction o with
 | lst xs=>obtain⟨z,its,n,r,e⟩:=x;exact⟨z,its,n,r,k _ _ (.inl rfl) e⟩
 | tup xs=>obtain⟨z,its,r,ob,e,c⟩:=x;exact⟨z,its,r,ob,k _ _ (.inl rfl) e,c⟩
 | dK aJ=>obtain⟨z,y,vs,r,ob,es,ep,e,c⟩:=x;exact⟨z,y,vs,r,ob,es,ep,k _ _ (.inl rfl) e,c⟩
 | dT aJ =>
  obtain⟨z,y,xs,r,ob,es,ep,e,c⟩:=x
  exact⟨z,y,xs,Paired.AI r fun p q z=>⟨z.1,ht _ _ z.2.1,z.2.2⟩,ob,es,ep,k _ _ (.inl rfl) e,c⟩
 | set S n=>obtain⟨ob,es,ep,t,e,c⟩:=x;exact⟨ob,es,ep,t,k _ _ (.inl rfl) e,c⟩
 | ins C dx fs =>
  obtain⟨d,z,ne,e,mA,⟨od,es,ep,e2,c⟩,r⟩:=x
  exact⟨ho _ d,z,ne,k _ _ (.inl rfl) e,mA,⟨od,es,ep,k _ _ (.inr d) e2,c⟩,r⟩
 | own y=>obtain⟨ob,e⟩:=x;exact⟨ob,k _ _ (.inl rfl) e⟩
 | xd fs=>obtain⟨mA,⟨od,es,ep,e,c⟩,r⟩:=x;exact⟨mA,⟨od,es,ep,k _ _ (.inl rfl) e,c⟩,r⟩
 | WI lo hi=>obtain⟨t,u,v,e⟩:=x;exact⟨t,u,v,k _ _ (.inl rfl) e⟩
 | pX ob u ih=>obtain⟨e,q⟩:=x;exact⟨k _ _ (.inl rfl) e,ih q⟩
 | NP ps =>
  have e:h.get? a=some { cls:=.none,data:=.fields ps }:=x
  show h'.get? a=some { cls:=.none,data:=.fields ps }
  exact k a _ (.inl rfl) e
 | met f y =>
  have e:h.get? a=some (W.methodObj (.ref f) (.ref y)):=x
  show h'.get? a=some (W.methodObj (.ref f) (.ref y))
  exact k a _ (.inl rfl) e
 | ext φ=>obtain⟨p,⟨o,e⟩,st⟩:=x;exact⟨st _ _ p fun o q=>k _ _ (.inl rfl) q,⟨o,k _ _ (.inl rfl) e⟩,st⟩
theorem lS.lt(x:lS P w H h)(e:H a=some o):a<h.objs.size:=(x a o e).lt
theorem lS.fresh(x:lS P w H h)(e:h.objs.size<=a):H a=none:=by
 cases q:H a with
 | none=>rfl
 | some u=>exact absurd (Nat.lt_of_lt_of_le (x.lt q) e) (Nat.lt_irrefl _)
theorem lS.kept(x:lS P w H h)(k:∀ b u,h.get? b=some u->h'.get? b=some u):lS P w H h':=fun a o e =>
 (x a o e).oi (fun b u _ q=>k b u q) (fun _ q=>q) fun _ _ q=>q
theorem lS.laid(x:lS P w H h)(k:∀ b u,h.get? b=some u->h'.get? b=some u)(hp:h.objs.size<=a)(new:bI P w (upd H a o) h' a o):lS P w (upd H a o) h':=fun b u e=>by
 have hn:=x.fresh hp
 by_cases hb:b=a
 ·subst hb;rw[af] at e;cases e;exact new
 ·rw[aj hb] at e
  exact(x b u e).oi (fun c v _ q=>k c v q) (fun c q=>by rw[aj (ah q hn)];exact q) fun c xs q=>by rw[aj (ah q hn)];exact q
end
def Rd(H:Hp)(a:Addr)(u:HO):Prop:=H a=some u\/∃ o,H a=some (.pX o u)
theorem Rd.ok{P:Program}{w:World}{H:Hp}{h:Heap}{a:Addr}{u:HO}(r:Rd H a u)(x:lS P w H h):bI P w H h a u:=by
 rcases r with r | ⟨o,r⟩
 ·exact x a u r
 ·obtain⟨_,q⟩:=x a _ r
  exact q
def R7:Option HO->Prop
 | some (.lst _)=>True
 | some (.dK _)=>True
 | some (.dT _)=>True
 | some (.set _ _)=>True
 | some (.ins _ _ _)=>True
 | some (.ext _)=>True
 | _=>False
section
variable{P:Program}{w:World}{H:Hp}{h h':Heap}{x e:Addr}{o':HO}
theorem lS.write(ok:lS P w H h)(mu:R7 (H x))(he:e=x\/H e=some (.own x))(k:∀ b u,b≠e->h.get? b=some u->h'.get? b=some u)(RG:∃ u,h'.get? e=some u)
  (new:bI P w (upd H x o') h' x o'):lS P w (upd H x o') h':=fun b u q=>by
 have Gd:∀ c y,H c=some (.own y)->c≠x:=fun c y r z=>by subst z;rw[r] at mu;exact mu
 have NQ:∀ c xs,H c=some (.tup xs)->c≠x:=fun c xs r z=>by subst z;rw[r] at mu;exact mu
 by_cases hb:b=x
 ·subst hb;rw[af] at q;cases q;exact new
 ·rw[aj hb] at q
  by_cases wR:b=e
  ·have q':H b=some (.own x):=by
    rcases he with z | z
    ·exact absurd (wR.trans z) hb
    ·rw[wR];exact z
   rw[q] at q';cases q'
   obtain⟨v,hv⟩:=RG
   exact⟨v,by rw[wR];exact hv⟩
  ·refine(ok b u q).oi (fun c v hc r=>k c v ?_ r) (fun c r=>by rw[aj (Gd c b r)];exact r) fun c xs r=>by rw[aj (NQ c xs r)];exact r
   rcases hc with rfl | hc
   ·exact wR
   ·rintro rfl
    rcases he with z | z
    ·exact Gd c b hc z
    ·rw[hc] at z;cases z;exact hb rfl
end
structure Un(fs ex:List Addr)(H H':Hp)(h h':Heap):Prop where
 keep:∀ b o,h.get? b=some o->H b=none->b∉fs->b∉ex->h'.get? b=some o
 slot:∀ b o,h.get? b=some o->H b=none->b∈fs->b∉ex->∃ sl,h'.get? b=some { o with slots:=sl }
 free:∀ b o,h.get? b=some o->H b=none->b∉ex->H' b=none
 there:∀ b o,h.get? b=some o->b∉ex->∃ o',h'.get? b=some o'
 om:∀ b xs,H b=some (.tup xs)->H' b=some (.tup xs)
 pY:∀ b o u,H b=some (.pX o u)->H' b=some (.pX o u)
 rz:∀ b ps,H b=some (.NP ps)->∃ more,H' b=some (.NP (ps++more))
section
variable{fs Kp ex ex':List Addr}{H H1 H2:Hp}{h h1 h2 h':Heap}{a x e:Addr}{o:HO}
theorem Un.any(u:Un fs ex H H1 h h1){b:Addr}{ob:Obj}(q:h.get? b=some ob)(n:H b=none)(hx:b∉ex):∃ sl,h1.get? b=some { ob with slots:=sl }:=by
 by_cases hb:b∈fs
 ·exact u.slot b ob q n hb hx
 ·exact⟨ob.slots,u.keep b ob q n hb hx⟩
theorem Un.kept(k:∀ b u,h.get? b=some u->h'.get? b=some u):Un fs ex H H h h' :=
 ⟨fun b ob q _ _ _=>k b ob q,fun b ob q _ _ _=>⟨ob.slots,k b ob q⟩,fun _ _ _ n _=>n,fun b ob q _=>⟨ob,k b ob q⟩,fun _ _ q=>q,fun _ _ _ q=>q,fun _ ps q=>⟨#[],by rw[q];simp⟩⟩
theorem Un.refl:Un fs ex H H h h:=Un.kept fun _ _ q=>q
theorem Un.laid(k:∀ b u,h.get? b=some u->h'.get? b=some u)(hp:h.objs.size<=a)(hn:H a=none):Un fs ex H (upd H a o) h h' where
 keep:=fun b u q _ _ _=>k b u q
 slot:=fun b u q _ _ _=>⟨u.slots,k b u q⟩
 free:=fun b u q n _=>by rw[aj (Nat.ne_of_lt (Nat.lt_of_lt_of_le (Heap.lt_size q) hp))];exact n
 there:=fun b u q _=>⟨u,k b u q⟩
 om:=fun b xs q=>by rw[aj (ah q hn)];exact q
 pY:=fun b u xs q=>by rw[aj (ah q hn)];exact q
 rz:=fun b ps q=>⟨#[],by rw[aj (ah q hn),q];simp⟩
theorem Un.write(mu:R7 (H x))(he:e=x\/H e=some (.own x))(k:∀ b u,b≠e->h.get? b=some u->h'.get? b=some u)(RG:∃ u,h'.get? e=some u):Un fs ex H (upd H x o) h h':=by
 have hx:∀ b,H b=none->b≠x:=fun b n z=>by subst z;rw[n] at mu;exact mu
 have hb:∀ b,H b=none->b≠e:=fun b n z=>by
  subst z
  rcases he with r | r
  ·exact hx b n r
  ·rw[n] at r;cases r
 have hm:∀ b u,H b=some u->¬ R7 (some u)->b≠x:=fun b u q nm z=>by subst z;rw[q] at mu;exact nm mu
 refine⟨fun b u q n _ _=>k b u (hb b n) q,fun b u q n _ _=>⟨u.slots,k b u (hb b n) q⟩,fun b u q n _=>by rw[aj (hx b n)];exact n,fun b u q _=>?_,
  fun b xs q=>by rw[aj (hm b _ q fun z=>z)];exact q,fun b u xs q=>by rw[aj (hm b _ q fun z=>z)];exact q,fun b ps q=>⟨#[],by rw[aj (hm b _ q fun z=>z),q];simp⟩⟩
 by_cases wR:b=e
 ·subst wR;exact RG
 ·exact⟨u,k b u wR q⟩
end
def VS(h:Heap)(H:Hp):List Addr:=(List.range h.objs.size).filter fun a=>(H a).isSome
def wU(h:Heap)(H:Hp):Heap:=W.hideAll h (VS h H)
theorem D4(h:Heap)(H:Hp):(wU h H).objs.size=h.objs.size:=W.hideAll_size _ _
theorem Ge{h:Heap}{H:Hp}{b:Addr}{o:Obj}(e:h.get? b=some o)(n:H b=none):(wU h H).get? b=some o :=
 W.hideAll_get _ e fun hm=>by
  have q:(H b).isSome=true:=(List.mem_filter.mp hm).2
  rw[n] at q;simp at q
theorem Kq{h:Heap}{H:Hp}{b:Addr}{o:Obj}(e:(wU h H).get? b=some o):h.get? b=some o/\H b=none:=by
 have e':h.get? b=some o:=W.of_hideAll (VS h H) e
 refine⟨e',?_⟩
 cases q:H b with
 | none=>rfl
 | some x =>
  have hm:b∈VS h H:=List.mem_filter.mpr ⟨List.mem_range.mpr (Heap.lt_size e'),by simp [q]⟩
  have z:(wU h H).get? b=none:=W.hideAll_none (VS h H) hm
  rw[z] at e;cases e
def Kr(g h:Heap)(L:Addr):List (Addr×Obj):=(List.range h.objs.size).filterMap fun a=>if a=L\/(g.get? a).isSome=true then none else (h.get? a).map fun o=>(a,o)
def rest(g h:Heap)(L d:Addr):List (Addr×Obj):=(Kr g h L).filter fun p=>decide (p.1≠d)
structure Mod(K:W.Frag)(mg:Str->Option Value)(base:Heap):Prop where
 MJ:K.In base
 glob:base.Ns mainGlobals mg
 blt:∃ mb,base.Ns builtinsNs mb/\∀ x:Str,x ≠ "__name__" -> mb x=bootBuiltins x
 nolimit:base.NoLimit
structure Cx where
 prog:Program
 w:World
 K:W.Frag
 mg:Str->Option Value
 base:Heap
 A:Around
 N:List Str
 g0:Shared
 D5:Hp
 env:Env
 outer:List Env
 stack:List Env
 ex:List Addr
 fn:Str->Bool
 calm:Bool
 pn:List (Addr×Obj)
 xe:Value->Shared->Prop
def ni(l:List Env):List Addr:=l.filterMap (·.frame)
abbrev Cx.fs(X:Cx):List Addr:=ni X.outer
def MK(sc:Scope)(x:Str):Prop:=sc.names.lookup x=some .local\/sc.names.lookup x=some .cell\/sc.names.lookup x=some .free
def Loc(sc:Scope)(x:Str):Prop:=sc.names.lookup x=some .local\/sc.names.lookup x=some .cell
def Look(env:Env)(h:Heap)(m:Str->Option Value)(x:Str)(u:Value):Prop :=
 (env.kindOf x=some .local/\m x=some u)\/((env.kindOf x=some .cell\/env.kindOf x=some .free)/\∃ c,env.cells.lookup x=some c/\h.IsCell c (some u))
structure Cx.Ok(X:Cx):Prop where
 mod:Mod X.K X.mg X.base
 kind:X.env.scope.kind=.function
 glob:X.env.globals=mainGlobals
 blt:X.env.builtins=builtinsNs
 above:X.g0.heap.objs.size<=X.env.locals
 inj:∀ x y c,X.env.cells.lookup x=some c->X.env.cells.lookup y=some c->x=y
 has:∀ x,(X.env.kindOf x=some .cell\/X.env.kindOf x=some .free)->∃ c,X.env.cells.lookup x=some c
 Ks:∀ x c,X.fn x=true->X.env.cells.lookup x=some c->X.g0.heap.objs.size<=c
 hd:X.calm=true->X.A.handled=none
 frames:X.A.frames=some X.stack
 ML:X.stack=X.outer\/(X.stack=X.env::X.outer/\X.env.frame=some X.env.locals)
 RH:∀ b∈X.ex,b≠X.env.locals/\∀ x c,X.env.cells.lookup x=some c->c≠b
 bs:∀ b o,X.base.get? b=some o->X.g0.heap.get? b=some o/\X.D5 b=none
 AA:X.base.objs.size<=X.g0.heap.objs.size
 vh:∀ b o,X.base.get? b=some o->b∉X.ex
 wV:∀ b∈X.ex,b∉X.fs
 jH:X.g0.heap.FunFrames X.base X.outer
 CQ:∀ b∈X.fs,X.D5 b=none
structure Inv(X:Cx)(pins:List (Addr×Obj))(σ:List (Option V))(H:Hp)(s:Shared):Prop where
 ok:X.Ok
 os:s.os=X.g0.os
 bare:AllBare s.gens
 base:Un X.fs X.ex X.D5 H X.g0.heap s.heap
 loc:∃ m,s.heap.Ns X.env.locals m/\∀ (i:Nat) (x:Str) (v:V),X.N[i]?=some x->σ[i]?=some (some v)->MK X.env.scope x->∃ u,RelV v u/\Look X.env s.heap m x u
 cell:∀ x c,X.env.cells.lookup x=some c->∃ v,s.heap.IsCell c v
 free:H X.env.locals=none
 ir:∀ x c,X.env.cells.lookup x=some c->H c=none
 pin:∀ p∈X.pn++pins,s.heap.get? p.1=some p.2/\H p.1=none/\p.1≠X.env.locals/\p.1∉X.fs/\∀ v,p.2.data≠.cell v
 a8:lS X.prog X.w H s.heap
 len:σ.length=X.N.length
section
variable{X:Cx}{pins:List (Addr×Obj)}{σ:List (Option V)}{H H':Hp}{s:Shared}{h':Heap}
theorem Cx.Ok.WJ(ok:X.Ok){b:Addr}{o:Obj}(e:X.base.get? b=some o):b∉X.fs:=fun hb=>by
 have:=(ok.jH.mem hb).1
 rw[e] at this;cases this
theorem Inv.bs(I:Inv X pins σ H s):∀ b o,X.base.get? b=some o->s.heap.get? b=some o/\H b=none:=fun b o e =>
 ⟨I.base.keep b o (I.ok.bs b o e).1 (I.ok.bs b o e).2 (I.ok.WJ e) (I.ok.vh b o e),I.base.free b o (I.ok.bs b o e).1 (I.ok.bs b o e).2 (I.ok.vh b o e)⟩
theorem Inv.bk(I:Inv X pins σ H s):∀ b o,X.base.get? b=some o->s.heap.get? b=some o:=fun b o e=>(I.bs b o e).1
theorem Inv.mod(I:Inv X pins σ H s):Mod X.K X.mg X.base:=I.ok.mod
theorem Inv.jI(I:Inv X pins σ H s):X.K.In s.heap:=I.ok.mod.MJ.keeps I.bk
theorem Inv.fr(I:Inv X pins σ H s):∃ m,Fr X.base X.env.locals s.heap m :=
 let ⟨m,hn,_⟩:=I.loc
 ⟨m,hn,I.bk,Nat.le_trans I.ok.AA I.ok.above⟩
theorem Inv.lt(I:Inv X pins σ H s):X.env.locals<s.heap.objs.size:=let ⟨_,hn,_⟩:=I.loc;hn.lt
theorem Inv.sz(I:Inv X pins σ H s):X.g0.heap.objs.size<=s.heap.objs.size:=Nat.le_trans I.ok.above (Nat.le_of_lt I.lt)
theorem Inv.WK(I:Inv X pins σ H s){a:Addr}(h:s.heap.objs.size<=a):a∉X.fs:=fun hb=>by
 obtain⟨_,o,ho,_⟩:=I.ok.jH.mem hb
 exact absurd (Nat.lt_of_lt_of_le (Heap.lt_size ho) (Nat.le_trans I.sz h)) (Nat.lt_irrefl _)
theorem Inv.MM(I:Inv X pins σ H s):∀ x c,X.env.cells.lookup x=some c->c≠X.env.locals:=fun x c e z=>by
 obtain⟨v,o,ho,hd⟩:=I.cell x c e
 obtain⟨m,⟨o',es,ep,tu,Kt,_⟩,_⟩:=I.loc
 rw[z,tu] at ho;cases ho;rw[Kt] at hd;cases hd
theorem Inv.jH(I:Inv X pins σ H s):s.heap.FunFrames X.base X.outer:=by
 have all:∀ (l:List Env),(∀ b∈ni l,b∈X.fs)->X.g0.heap.FunFrames X.base l->s.heap.FunFrames X.base l:=by
  intro l
  induction l with
  | nil=>intro _ _;trivial
  | cons env r ih =>
   intro hs hl
   obtain⟨hk,⟨L,o,hf,hn,ho,hd⟩,hr⟩:=hl
   have hL:L∈X.fs:=hs L (by unfold ni;rw[List.filterMap_cons,hf];exact List.mem_cons_self)
   obtain⟨sl,e⟩:=I.base.slot L o ho (I.ok.CQ L hL) hL fun z=>I.ok.wV L z hL
   exact⟨hk,⟨L,_,hf,hn,e,hd⟩,ih (fun b hb=>hs b (by unfold ni;rw[List.filterMap_cons,hf];exact List.mem_cons_of_mem _ hb)) hr⟩
 exact all X.outer (fun _ hb=>hb) I.ok.jH
theorem Inv.stack(I:Inv X pins σ H s):s.heap.FunFrames X.base X.stack:=by
 rcases I.ok.ML with e | ⟨e,hf⟩
 ·rw[e];exact I.jH
 ·rw[e]
  obtain⟨m,hn,_⟩:=I.loc
  refine .cons (by rw[I.ok.kind];decide) hf hn ?_ I.jH
  exact Heap.get?_none_of_le (Nat.le_trans I.ok.AA I.ok.above)
theorem Inv.kU(I:Inv X pins σ H s):∀ b∈ni X.stack,b∈X.env.locals::X.fs:=fun b hb=>by
 rcases I.ok.ML with e | ⟨e,hf⟩
 ·rw[e] at hb;exact List.mem_cons_of_mem _ hb
 ·rw[e] at hb
  unfold ni at hb
  rw[List.filterMap_cons,hf] at hb
  exact hb
theorem Inv.rY(I:Inv X pins σ H s):∀ b∈ni X.stack,H b=none:=fun b hb=>by
 rcases List.mem_cons.mp (I.kU b hb) with e | hb
 ·rw[e];exact I.free
 ·obtain⟨_,o,ho,_⟩:=I.ok.jH.mem hb
  exact I.base.free b o ho (I.ok.CQ b hb) fun z=>I.ok.wV b z hb
theorem Inv.step{g':Array GenState}{t':Nat}{d':Drawn}{ch:List Addr}(I:Inv X pins σ H s)
  (J8:∀ b∈ch,(b∈X.ex\/X.g0.heap.objs.size<=b)/\b≠X.env.locals/\(∀ x c,X.env.cells.lookup x=some c->c≠b)/\∀ p∈X.pn++pins,p.1≠b)
  (keep:∀ b o,b≠X.env.locals->b∉X.fs->b∉ch->s.heap.get? b=some o->H b=none->h'.get? b=some o)
  (slot:∀ b o,b≠X.env.locals->b∈X.fs->b∉ch->s.heap.get? b=some o->H b=none->∃ sl,h'.get? b=some { o with slots:=sl }) (free:∀ b o,b∉ch->s.heap.get? b=some o->H b=none->H' b=none)
  (there:∀ b o,b∉ch->s.heap.get? b=some o->∃ o',h'.get? b=some o')
  (om:∀ b xs,H b=some (.tup xs)->H' b=some (.tup xs)) (pY:∀ b o u,H b=some (.pX o u)->H' b=some (.pX o u)) (rz:∀ b ps,H b=some (.NP ps)->∃ more,H' b=some (.NP (ps++more)))
  (ns:∀ m,s.heap.Ns X.env.locals m->h'.Ns X.env.locals m) (a8:lS X.prog X.w H' h') (hg:AllBare g') :
  Inv X pins σ H' { s with heap:=h',gens:=g',drawn:=d',toks:=t' }:=by
 have neL:∀ b o,X.g0.heap.get? b=some o->b≠X.env.locals:=fun b o e=>Nat.ne_of_lt (Nat.lt_of_lt_of_le (Heap.lt_size e) I.ok.above)
 have VT:∀ b o,X.g0.heap.get? b=some o->b∉X.ex->b∉ch:=fun b o e hx hb=>by
  rcases(J8 b hb).1 with z | z
  ·exact hx z
  ·exact absurd (Nat.lt_of_lt_of_le (Heap.lt_size e) z) (Nat.lt_irrefl _)
 have cellK:∀ x c,X.env.cells.lookup x=some c->∀ v,s.heap.IsCell c v->h'.IsCell c v:=fun x c e v ⟨o,ho,hd⟩=>by
  have R8:c∉ch:=fun z=>(J8 c z).2.2.1 x c e rfl
  by_cases hc:c∈X.fs
  ·obtain⟨sl,q⟩:=slot c o (I.MM x c e) hc R8 ho (I.ir x c e)
   exact⟨_,q,hd⟩
  ·exact⟨o,keep c o (I.MM x c e) hc R8 ho (I.ir x c e),hd⟩
 refine⟨I.ok,I.os,hg,⟨fun b o e n hb hx=>?_,fun b o e n hb hx=>?_,fun b o e n hx=>?_,fun b o e hx=>?_,fun b xs e=>om b xs (I.base.om b xs e),fun b o xs e=>pY b o xs (I.base.pY b o xs e),fun b ps e=>?_⟩,?_,fun x c e=>?_,?_,fun x c e=>?_,fun p hp=>?_,a8,I.len⟩
 ·exact keep b o (neL b o e) hb (VT b o e hx) (I.base.keep b o e n hb hx) (I.base.free b o e n hx)
 ·obtain⟨sl,e1⟩:=I.base.slot b o e n hb hx
  obtain⟨NR,e2⟩:=slot b _ (neL b o e) hb (VT b o e hx) e1 (I.base.free b o e n hx)
  exact⟨NR,e2⟩
 ·obtain⟨o',e1⟩:=I.base.there b o e hx
  exact free b o' (VT b o e hx) e1 (I.base.free b o e n hx)
 ·obtain⟨o',e1⟩:=I.base.there b o e hx
  exact there b o' (VT b o e hx) e1
 ·obtain⟨m1,e1⟩:=I.base.rz b ps e
  obtain⟨m2,e2⟩:=rz b _ e1
  exact⟨m1++m2,by rw[e2,Array.append_assoc]⟩
 ·obtain⟨m,hn,hl⟩:=I.loc
  refine⟨m,ns m hn,fun i x v e1 e2 e3=>?_⟩
  obtain⟨u,r,l⟩:=hl i x v e1 e2 e3
  refine⟨u,r,?_⟩
  rcases l with l | ⟨k,c,e,z⟩
  ·exact .inl l
  ·exact .inr ⟨k,c,e,cellK x c e _ z⟩
 ·obtain⟨v,z⟩:=I.cell x c e
  exact⟨v,cellK x c e v z⟩
 ·obtain⟨m,⟨o,_,_,ho,_⟩,_⟩:=I.loc
  exact free _ o (fun z=>(J8 _ z).2.1 rfl) ho I.free
 ·obtain⟨v,o,ho,hd⟩:=I.cell x c e
  exact free c o (fun z=>(J8 c z).2.2.1 x c e rfl) ho (I.ir x c e)
 ·obtain⟨e,n,ne,nf,d⟩:=I.pin p hp
  have R8:p.1∉ch:=fun z=>(J8 p.1 z).2.2.2 p hp rfl
  exact⟨keep p.1 p.2 ne nf R8 e n,free p.1 p.2 R8 e n,ne,nf,d⟩
theorem Inv.un{t':Nat}(I:Inv X pins σ H s)(u:Un X.fs [] H H' s.heap h')(a8:lS X.prog X.w H' h'):Inv X pins σ H' { s with heap:=h',toks:=t' }:=by
 obtain⟨m,⟨o,es,ep,ho,r⟩,_⟩:=id I.loc
 obtain⟨sl,hL⟩:=u.any ho I.free (by simp)
 exact I.step (g':=s.gens) (d':=s.drawn) (ch:=[]) (fun _ z=>nomatch z) (fun b o _ hb _ e n=>u.keep b o e n hb (by simp)) (fun b o _ hb _ e n=>u.slot b o e n hb (by simp)) (fun b o _ e n=>u.free b o e n (by simp)) (fun b o _ e=>u.there b o e (by simp)) u.om u.pY u.rz (fun m' hm=>by
  obtain⟨o',R9,R_,tu,r'⟩:=hm
  rw[ho] at tu;cases tu
  exact⟨_,R9,R_,hL,r'⟩) a8 I.bare
theorem Inv.call{g':Array GenState}{t':Nat}{d':Drawn}{ch:List Addr}(I:Inv X pins σ H s)(u:Un (ni X.stack) ch H H' s.heap h')(a8:lS X.prog X.w H' h')(hg:AllBare g')
  (J8:∀ b∈ch,(b∈X.ex\/X.g0.heap.objs.size<=b)/\b≠X.env.locals/\(∀ x c,X.env.cells.lookup x=some c->c≠b)/\∀ p∈X.pn++pins,p.1≠b) :
  Inv X pins σ H' { s with heap:=h',gens:=g',drawn:=d',toks:=t' }:=by
 obtain⟨m,⟨o,es,ep,ho,r⟩,_⟩:=id I.loc
 obtain⟨sl,hL⟩:=u.any ho I.free fun z=>(J8 _ z).2.1 rfl
 exact I.step (ch:=ch) J8 (fun b o hL hb hc e n=>u.keep b o e n (fun z=>(List.mem_cons.mp (I.kU b z)).elim hL hb) hc) (fun b o _ _ hc e n=>u.any e n hc) (fun b o hc e n=>u.free b o e n hc) (fun b o hc e=>u.there b o e hc) u.om u.pY u.rz (fun m' hm=>by
  obtain⟨o',R9,R_,tu,r'⟩:=hm
  rw[ho] at tu;cases tu
  exact⟨_,R9,R_,hL,r'⟩) a8 hg
theorem Inv.turned{t':Nat}{it:Addr}(I:Inv X pins σ H s)(k:∀ b o,b≠it->s.heap.get? b=some o->h'.get? b=some o)(hn:H it=none)(hL:it≠X.env.locals)
  (h1:it∈X.ex\/X.g0.heap.objs.size<=it) (h2:∀ x c,X.env.cells.lookup x=some c->c≠it) (h3:∀ p∈X.pn++pins,p.1≠it):Inv X pins σ H { s with heap:=h',toks:=t' }:=by
 have MN:∀ b u,H b=some u->b≠it:=fun b u e z=>by rw[z,hn] at e;cases e
 refine I.step (g':=s.gens) (d':=s.drawn) (ch:=[it]) (fun b hb=>?_) (fun b o _ _ hc e _=>k b o (fun z=>hc (by simp [z])) e) (fun b o _ _ hc e _=>⟨o.slots,k b o (fun z=>hc (by simp [z])) e⟩) (fun _ _ _ _ n=>n)
  (fun b o hc e=>⟨o,k b o (fun z=>hc (by simp [z])) e⟩) (fun _ _ e=>e) (fun _ _ _ e=>e) (fun b ps e=>⟨#[],by rw[e];simp⟩) (fun m hm=>?_) (fun b u e=>?_) I.bare
 ·have e:b=it:=by simpa using hb
  subst e
  exact⟨h1,hL,h2,h3⟩
 ·obtain⟨o,es,ep,ho,r⟩:=hm
  exact⟨o,es,ep,k _ o (Ne.symm hL) ho,r⟩
 ·refine(I.a8 b u e).oi (fun c v hc q=>k c v ?_ q) (fun _ q=>q) fun _ _ q=>q
  rcases hc with z | z
  ·rw[z];exact MN b u e
  ·exact MN c _ z
theorem Inv.tok(I:Inv X pins σ H s)(t:Nat):Inv X pins σ H { s with toks:=t }:=I.un (h':=s.heap) (t':=t) Un.refl I.a8
theorem Inv.kept{t':Nat}(I:Inv X pins σ H s)(k:∀ b u,s.heap.get? b=some u->h'.get? b=some u):Inv X pins σ H { s with heap:=h',toks:=t' }:=I.un (Un.kept k) (I.a8.kept k)
theorem Inv.laid{a:Addr}{o:HO}{t':Nat}(I:Inv X pins σ H s)(k:∀ b u,s.heap.get? b=some u->h'.get? b=some u)(hp:s.heap.objs.size<=a)(new:bI X.prog X.w (upd H a o) h' a o) :
  Inv X pins σ (upd H a o) { s with heap:=h',toks:=t' }:=I.un (Un.laid k hp (I.a8.fresh hp)) (I.a8.laid k hp new)
theorem Inv.write{x e:Addr}{o:HO}{t':Nat}(I:Inv X pins σ H s)(mu:R7 (H x))(he:e=x\/H e=some (.own x))(k:∀ b u,b≠e->s.heap.get? b=some u->h'.get? b=some u)(RG:∃ u,h'.get? e=some u)
  (new:bI X.prog X.w (upd H x o) h' x o):Inv X pins σ (upd H x o) { s with heap:=h',toks:=t' }:=I.un (Un.write mu he k RG) (I.a8.write mu he k RG new)
theorem Inv.CS{oq:List (Addr×Obj)}(I:Inv X pins σ H s)(h:∀ p∈oq,s.heap.get? p.1=some p.2/\H p.1=none/\p.1≠X.env.locals/\p.1∉X.fs/\∀ v,p.2.data≠.cell v):Inv X oq σ H s :=
 ⟨I.ok,I.os,I.bare,I.base,I.loc,I.cell,I.free,I.ir,fun p hp=>(List.mem_append.mp hp).elim (fun z=>I.pin p (List.mem_append_left _ z)) (h p),I.a8,I.len⟩
theorem yD{N:List Str}(hN:N.Nodup){i j:Nat}{x:Str}(a:N[i]?=some x)(b:N[j]?=some x):i=j:=by
 obtain⟨h1,e1⟩:=List.getElem?_eq_some_iff.mp a
 obtain⟨h2,e2⟩:=List.getElem?_eq_some_iff.mp b
 exact(List.getElem_inj hN).mp (e1.trans e2.symm)
theorem pZ{M:Model}{A:Around}{E:Value->Shared->Prop}{i:Nat}{x:Str}{v:V}{u:Value}{Q:Unit->Shared->Prop}(I:Inv X pins σ H s)(hN:X.N.Nodup)(hi:X.N[i]?=some x)(hx:Loc X.env.scope x)(r:RelV v u)
  (h:∀ s',Inv X pins (σ.set i (some v)) H s'->(∃ a,Heap.SameBut a s.heap s'.heap/\(a=X.env.locals\/X.env.cells.lookup x=some a))->Q () s') (hf:X.fn x=true\/X.env.scope.names.lookup x=some .local:=by first | exact .inl rfl | exact .inr rfl | assumption):wpAny M A (storeName X.env x u) Q E s:=by
 obtain⟨m,hn,hl⟩:=id I.loc
 have WL:(X.env.scope.kind == .class||(X.env.scope.kind == .module&&X.env.locals != X.env.globals))=false:=by rw[I.ok.kind];rfl
 have Sa:i<σ.length:=by rw[I.len];exact(List.getElem?_eq_some_iff.mp hi).1
 have MM:=I.MM
 have tracked:∀ {a:Addr} {h':Heap},(∃ o,s.heap.get? a=some o/\H a=none)->Heap.SameBut a s.heap h'->lS X.prog X.w H h':=fun {a h'} ha hs b ob e=>by
  obtain⟨_,_,MO⟩:=ha
  refine(I.a8 b ob e).oi (fun c w' hc q=>(hs.2 c ?_).trans q) (fun _ q=>q) fun _ _ q=>q
  rintro rfl
  rcases hc with rfl | hc
  ·rw[MO] at e;cases e
  ·rw[MO] at hc;cases hc
 rcases hx with hk | hk
 ·refine wpAny_storeName_local hk hn (fun h' yz hs=>?_) WL
  obtain⟨oL,_,_,hoL,_⟩:=id hn
  refine h _ ⟨I.ok,I.os,I.bare,⟨fun b o e n hb hx=>?_,fun b o e n hb hx=>?_,I.base.free,fun b o e hx=>?_,I.base.om,I.base.pY,I.base.rz⟩,⟨_,yz,fun j y v' e1 e2 e3=>?_⟩,fun y c e=>?_,I.free,I.ir,fun p hp=>?_,tracked ⟨oL,hoL,I.free⟩ hs,by simpa using I.len⟩ ⟨_,hs,.inl rfl⟩
  ·exact(hs.2 b (Nat.ne_of_lt (Nat.lt_of_lt_of_le (Heap.lt_size e) I.ok.above))).trans (I.base.keep b o e n hb hx)
  ·obtain⟨sl,e1⟩:=I.base.slot b o e n hb hx
   exact⟨sl,(hs.2 b (Nat.ne_of_lt (Nat.lt_of_lt_of_le (Heap.lt_size e) I.ok.above))).trans e1⟩
  ·obtain⟨o',e1⟩:=I.base.there b o e hx
   exact⟨o',(hs.2 b (Nat.ne_of_lt (Nat.lt_of_lt_of_le (Heap.lt_size e) I.ok.above))).trans e1⟩
  ·by_cases hj:j=i
   ·subst hj
    rw[hi] at e1;cases e1
    rw[List.getElem?_set_self Sa] at e2
    cases e2
    exact⟨u,r,.inl ⟨hk,by simp⟩⟩
   ·rw[List.getElem?_set_ne (Ne.symm hj)] at e2
    obtain⟨u',r',q⟩:=hl j y v' e1 e2 e3
    refine⟨u',r',?_⟩
    rcases q with ⟨k,e⟩ | ⟨k,c,e,z⟩
    ·refine .inl ⟨k,?_⟩
     have:y≠x:=fun e=>hj (yD hN e1 (e▸hi))
     simp [this,e]
    ·exact .inr ⟨k,c,e,z.sameBut hs (MM y c e)⟩
  ·obtain⟨w',z⟩:=I.cell y c e
   exact⟨w',z.sameBut hs (MM y c e)⟩
  ·obtain⟨e,n,ne,nf,d⟩:=I.pin p hp
   exact⟨(hs.2 p.1 ne).trans e,n,ne,nf,d⟩
 ·have Sb:X.fn x=true:=by
   rcases hf with z | z
   ·exact z
   ·rw[z] at hk;cases hk
  obtain⟨c,hc⟩:=I.ok.has x (.inl hk)
  obtain⟨w',z⟩:=I.cell x c hc
  refine wpAny_storeName_cell I.ok.kind hk hc z (fun h' VU hs=>?_)
  obtain⟨oc,J9,WM⟩:=id z
  refine h { s with heap:=h' } ⟨I.ok,I.os,I.bare,⟨fun b o e n hb hx=>?_,fun b o e n hb hx=>?_,I.base.free,fun b o e hx=>?_,I.base.om,I.base.pY,I.base.rz⟩,⟨m,hn.sameBut hs (Ne.symm (MM x c hc)),fun j y v' e1 e2 e3=>?_⟩,fun y c' e=>?_,I.free,I.ir,fun p hp=>?_,tracked ⟨oc,J9,I.ir x c hc⟩ hs,by simpa using I.len⟩ ⟨c,hs,.inr hc⟩
  ·exact(hs.2 b (Nat.ne_of_lt (Nat.lt_of_lt_of_le (Heap.lt_size e) (I.ok.Ks x c Sb hc)))).trans (I.base.keep b o e n hb hx)
  ·obtain⟨sl,e1⟩:=I.base.slot b o e n hb hx
   exact⟨sl,(hs.2 b (Nat.ne_of_lt (Nat.lt_of_lt_of_le (Heap.lt_size e) (I.ok.Ks x c Sb hc)))).trans e1⟩
  ·obtain⟨o',e1⟩:=I.base.there b o e hx
   exact⟨o',(hs.2 b (Nat.ne_of_lt (Nat.lt_of_lt_of_le (Heap.lt_size e) (I.ok.Ks x c Sb hc)))).trans e1⟩
  ·by_cases hj:j=i
   ·subst hj
    rw[hi] at e1;cases e1
    rw[List.getElem?_set_self Sa] at e2
    cases e2
    exact⟨u,r,.inr ⟨.inl hk,c,hc,VU⟩⟩
   ·rw[List.getElem?_set_ne (Ne.symm hj)] at e2
    obtain⟨u',r',q⟩:=hl j y v' e1 e2 e3
    refine⟨u',r',?_⟩
    rcases q with q | ⟨k,c',e,z'⟩
    ·exact .inl q
    ·refine .inr ⟨k,c',e,z'.sameBut hs ?_⟩
     rintro rfl
     exact hj (yD hN e1 (I.ok.inj _ _ _ e hc▸hi))
  ·by_cases Ku:c'=c
   ·subst Ku;exact⟨_,VU⟩
   ·obtain⟨w2,z2⟩:=I.cell y c' e
    exact⟨w2,z2.sameBut hs Ku⟩
  ·obtain⟨e,n,ne,nf,d⟩:=I.pin p hp
   refine⟨(hs.2 p.1 ?_).trans e,n,ne,nf,d⟩
   intro q
   rw[q,J9] at e
   have q':oc=p.2:=Option.some.inj e
   exact d w' (by rw[<- q'];exact WM)
theorem ou{M:Model}{A:Around}{E:Value->Shared->Prop}{i:Nat}{x:Str}{v:V}{u:Value}{Q:Unit->Shared->Prop}(I:Inv X pins σ H s)(hN:X.N.Nodup)(hi:X.N[i]?=some x)(hx:Loc X.env.scope x)(r:RelV v u)
  (h:∀ s',Inv X pins (σ.set i (some v)) H s'->Q () s') (hf:X.fn x=true\/X.env.scope.names.lookup x=some .local:=by first | exact .inl rfl | exact .inr rfl | assumption):wpAny M A (storeName X.env x u) Q E s :=
 pZ I hN hi hx r (fun s' I' _=>h s' I') hf
theorem Inv.Gg{s':Shared}{ch:List Addr}(I:Inv X pins σ H s)(ho:s'.os=s.os)(u:Un (ni X.stack) ch H H' s.heap s'.heap)(a8:lS X.prog X.w H' s'.heap)(hg:AllBare s'.gens)
  (J8:∀ b∈ch,(b∈X.ex\/X.g0.heap.objs.size<=b)/\b≠X.env.locals/\(∀ x c,X.env.cells.lookup x=some c->c≠b)/\∀ p∈X.pn++pins,p.1≠b):Inv X pins σ H' s':=by
 obtain⟨h',g',d',t',o'⟩:=s'
 have e:o'=s.os:=ho
 subst e
 exact I.call (g':=g') (t':=t') (d':=d') u a8 hg J8
end
abbrev XK:=Value->Option Addr->Hp->Prop
abbrev St:=List (Option V)
abbrev VK:=V->Hp->Prop
abbrev TE:=St->Hp->VK->Prop
abbrev TT:=St->Hp->(Bool->Hp->Prop)->Prop
abbrev TA:=St->Hp->(List V->Hp->Prop)->Prop
structure Ends where
 nx:St->Hp->Prop
 rt:VK
 bk:St->Hp->Prop:=fun _ _=>False
 ct:St->Hp->Prop:=fun _ _=>False
abbrev TS:=Ends->St->Hp->Prop
def EP(X:Cx)(pins:List (Addr×Obj))(σ:St)(Q:VK)(u:Value)(s':Shared):Prop:=∃ v H',Inv X pins σ H' s'/\RelV v u/\Q v H'
def TP(X:Cx)(pins:List (Addr×Obj))(σ:St)(Q:Bool->Hp->Prop)(b:Bool)(s':Shared):Prop:=∃ H',Inv X pins σ H' s'/\Q b H'
def AP(X:Cx)(pins:List (Addr×Obj))(σ:St)(Q:List V->Hp->Prop)(us:List Value)(s':Shared):Prop:=∃ vs H',Inv X pins σ H' s'/\Vals vs us/\Q vs H'
def SP(X:Cx)(pins:List (Addr×Obj))(D:Ends)(f:Flow)(s':Shared):Prop :=
 match f with
 | .next=>∃ bf H',Inv X pins bf H' s'/\D.nx bf H'
 | .brk=>∃ bf H',Inv X pins bf H' s'/\D.bk bf H'
 | .cont=>∃ bf H',Inv X pins bf H' s'/\D.ct bf H'
 | .ret u=>∃ v bf H',Inv X pins bf H' s'/\RelV v u/\D.rt v H'
def PE(X:Cx)(e:Expr)(t:TE):Prop :=
 ∀ (pins:List (Addr×Obj)) (s:Shared) (σ:St) (H:Hp) (Q:VK),Inv X pins σ H s->t σ H Q->wpAny (model X.prog X.w) X.A (eval e X.env) (EP X pins σ Q) X.xe s
def PT(X:Cx)(e:Expr)(t:TT):Prop :=
 ∀ (pins:List (Addr×Obj)) (s:Shared) (σ:St) (H:Hp) (Q:Bool->Hp->Prop),Inv X pins σ H s->t σ H Q->wpAny (model X.prog X.w) X.A (isTrue e X.env (eval e X.env)) (TP X pins σ Q) X.xe s
def PW(X:Cx)(e:Expr)(t:TT):Prop :=
 ∀ (whole:Sem Value) (pins:List (Addr×Obj)) (s:Shared) (σ:St) (H:Hp) (Q:Bool->Hp->Prop),Inv X pins σ H s->t σ H Q->wpAny (model X.prog X.w) X.A (isTrue e X.env whole) (TP X pins σ Q) X.xe s
theorem PW.pt{X:Cx}{e:Expr}{t:TT}(h:PW X e t):PT X e t:=h _
def PA(X:Cx)(es:List Expr)(t:TA):Prop :=
 ∀ (pos:Pos) (pins:List (Addr×Obj)) (s:Shared) (σ:St) (H:Hp) (Q:List V->Hp->Prop),Inv X pins σ H s->t σ H Q->wpAny (model X.prog X.w) X.A (spliced (backTo pos (starEach es X.env))) (AP X pins σ Q) X.xe s
def PS(X:Cx)(st:Stmt)(t:TS):Prop :=
 ∀ (pins:List (Addr×Obj)) (s:Shared) (σ:St) (H:Hp) (D:Ends),Inv X pins σ H s->t D σ H->wpAny (model X.prog X.w) X.A (exec st X.env) (SP X pins D) X.xe s
def vj(X:Cx)(st:List Stmt)(t:TS):Prop :=
 ∀ (pins:List (Addr×Obj)) (s:Shared) (σ:St) (H:Hp) (D:Ends),Inv X pins σ H s->t D σ H->wpAny (model X.prog X.w) X.A (execs st X.env) (SP X pins D) X.xe s
theorem bg{α:Type}{t:Sem α}{Q Q':α->Shared->Prop}{M:Model}{A:Around}{E:Value->Shared->Prop}{s:Shared}(h:wpAny M A t Q E s)(hQ:∀ a s,Q a s->Q' a s):wpAny M A t Q' E s:=wpAny_mono h hQ fun _ _ x=>x
section
variable{X:Cx}
def tw(i:Nat):TE:=fun σ H Q=>∃ v,σ[i]?=some (some v)/\Q v H
def tC(v:V):TE:=fun _ H Q=>Q v H
theorem NS{i:Nat}{x:Str}{pos:Pos}(hN:X.N[i]?=some x)(hv:MK X.env.scope x)(hd:(x == ("__debug__" : Str))=false:=by decide)(yA:(x == ("__classdict__" : Str))=false:=by decide):PE X (.Name x pos) (tw i):=by
 intro pins s σ H Q I h
 obtain⟨v,e,h⟩:=h
 obtain⟨m,hn,hl⟩:=I.loc
 obtain⟨u,r,l⟩:=hl i x v hN e hv
 have fin:EP X pins σ Q u s:=⟨v,H,I,r,h⟩
 rcases l with ⟨hk,hm⟩ | ⟨hk,c,hc,CT⟩
 ·exact wpAny_Name (wpAny_loadName_local I.ok.kind hk hn hm fin) hd
 ·rcases hk with hk | hk
  ·exact wpAny_Name (wpAny_loadName_cell I.ok.kind hk hc CT fin) hd
  ·exact wpAny_Name (wpAny_loadName_free I.ok.kind hk hc CT fin yA) hd
theorem az{i j pos}:PE X (.Constant (.int i) j pos) (tC (.int i)):=fun _ _ _ H _ I h=>wpAny_Constant_int ⟨.int i,H,I.tok _,⟨_,rfl⟩,h⟩
theorem CU{b j pos}:PE X (.Constant (.bool b) j pos) (tC (.bl b)):=fun _ _ _ H _ I h=>Constant_bool ⟨.bl b,H,I,rfl,h⟩
theorem AJ{j pos}:PE X (.Constant .none j pos) (tC .bY):=fun _ _ _ H _ I h=>Constant_none ⟨.bY,H,I,rfl,h⟩
theorem aq{x j pos}:PE X (.Constant (.str x) j pos) (tC (.str x)):=fun _ _ _ H _ I h=>Calls.Constant_str ⟨.str x,H,I.tok _,⟨_,rfl⟩,h⟩
def Gl(X:Cx)(x:Str):Prop:=X.env.kindOf x=some .globalImplicit
theorem j6{E:Value->Shared->Prop}{pins:List (Addr×Obj)}{s:Shared}{σ:St}{H:Hp}{x:Str}{u:Value}{pos:Pos}{Q:Value->Shared->Prop}(I:Inv X pins σ H s)(hg:Gl X x)(hm:X.mg x=some u)(h:Q u s)
  (hd:(x == ("__debug__" : Str))=false:=by decide):wpAny (model X.prog X.w) X.A (eval (.Name x pos) X.env) Q E s :=
 Calls.Name_function_global I.ok.kind hg (Calls.loadGlobal_global (by rw[I.ok.glob];exact I.mod.glob.keeps I.bk) hm h) hd
theorem kW{E:Value->Shared->Prop}{pins:List (Addr×Obj)}{s:Shared}{σ:St}{H:Hp}{x:Str}{u:Value}{pos:Pos}{Q:Value->Shared->Prop}(I:Inv X pins σ H s)(hg:Gl X x)(hm:X.mg x=none)(hv:bootBuiltins x=some u)(h:Q u s)
  (hn:x ≠ "__name__" := by decide) (hd:(x == ("__debug__" : Str))=false:=by decide):wpAny (model X.prog X.w) X.A (eval (.Name x pos) X.env) Q E s:=by
 obtain⟨mb,h1,h2⟩:=I.mod.blt
 exact Calls.Name_function_global I.ok.kind hg (Calls.loadGlobal_builtin (by rw[I.ok.glob];exact I.mod.glob.keeps I.bk) hm (by rw[I.ok.blt];exact h1.keeps I.bk) ((h2 x hn).trans hv) h) hd
theorem aX{x:Str}{v:V}{u:Value}{pos:Pos}(hg:Gl X x)(hm:X.mg x=some u)(r:RelV v u)(hd:(x == ("__debug__" : Str))=false:=by decide):PE X (.Name x pos) (tC v) :=
 fun _ _ _ H _ I h=>j6 I hg hm ⟨v,H,I,r,h⟩ hd
theorem bF{x:Str}{v:V}{u:Value}{pos:Pos}(hg:Gl X x)(hm:X.mg x=none)(hv:bootBuiltins x=some u)(r:RelV v u)(hn:x ≠ "__name__" := by decide)(hd:(x == ("__debug__" : Str))=false:=by decide):PE X (.Name x pos) (tC v) :=
 fun _ _ _ H _ I h=>kW I hg hm hv ⟨v,H,I,r,h⟩ hn hd
variable{a b:Expr}{ta tb:TE}{pos:Pos}
def PC(X:Cx)(op:CmpOp)(a b:Expr)(t:TE):Prop :=
 ∀ (pins:List (Addr×Obj)) (s:Shared) (σ:St) (H:Hp) (Q:VK),Inv X pins σ H s->t σ H Q ->
  wpAny (model X.prog X.w) X.A (eval a X.env) (fun v bq=>wpAny (model X.prog X.w) X.A (eval b X.env) (fun u kJ=>wpAny (model X.prog X.w) X.A (compareOp op v u) (EP X pins σ Q) X.xe kJ) X.xe bq) X.xe s
theorem yE(b:Expr){op:CmpOp}(h:op≠.In)(h2:op≠.NotIn):behindInMarks op b=false:=by
 have e1:(op == CmpOp.In)=false:=by cases op<;>first | rfl | exact absurd rfl h
 have e2:(op == CmpOp.NotIn)=false:=by cases op<;>first | rfl | exact absurd rfl h2
 cases b<;>simp [behindInMarks,e1,e2]
def WN(ta:TE):TE:=fun σ H Q=>ta σ H fun x H1=>Q (.bl (decide (x=.bY))) H1
def Sd(ta:TE):TE:=fun σ H Q=>ta σ H fun x H1=>Q (.bl (!decide (x=.bY))) H1
theorem RelV.yF{x:V}{v:Value}(r:RelV x v):(v == Value.none)=decide (x=.bY):=by
 cases x with
 | bY=>cases r;rfl
 | bl _=>cases r;rfl
 | int _=>obtain⟨t,rfl⟩:=r;rfl
 | str _=>obtain⟨t,rfl⟩:=r;rfl
 | AH _=>obtain⟨t,rfl⟩:=r;rfl
 | MI _=>obtain⟨t,rfl⟩:=r;rfl
 | ref _=>cases r;rfl
 | ty _=>cases r;rfl
theorem jC{j pos'}(ha:PE X a ta):PC X .Is a (.Constant .none j pos') (WN ta):=by
 intro pins s σ H Q I h
 refine bg (ha pins s σ H _ I h) fun v s1 ⟨x,H1,I1,r1,q1⟩=>?_
 exact Constant_none (is_none_gen ⟨.bl _,H1,I1,by rw[r1.yF];rfl,q1⟩)
theorem rZ{j pos'}(ha:PE X a ta):PC X .IsNot a (.Constant .none j pos') (Sd ta):=by
 intro pins s σ H Q I h
 refine bg (ha pins s σ H _ I h) fun v s1 ⟨x,H1,I1,r1,q1⟩=>?_
 exact Constant_none (isnot_none_gen ⟨.bl _,H1,I1,by rw[r1.yF];rfl,q1⟩)
def tB(t:TE):TT:=fun σ H Q=>t σ H fun x H1=>∃ c,x=.bl c/\Q c H1
theorem Gh{op:CmpOp}{t:TE}(h:PC X op a b t)(h1:behindInMarks op b=false:=by first | exact yE _ (by decide) (by decide) | rfl):PE X (.Compare a [op] [b] pos) t:=fun pins s σ H Q I hw=>wpAny_Compare1 (h pins s σ H Q I hw) h1
theorem cg{op:CmpOp}{t:TE}(h:PC X op a b t)(h1:behindInMarks op b=false:=by first | exact yE _ (by decide) (by decide) | rfl):PT X (.Compare a [op] [b] pos) (tB t):=by
 intro pins s σ H Q I hw
 refine wpAny_isTrue_Compare1 (bg (h pins s σ H _ I hw) fun v s1 h1=>bg h1 fun u s2 h2=>bg h2 fun c s3 ⟨x,H1,I1,r1,q1⟩=>?_) h1
 obtain⟨d,rfl,q⟩:=q1
 cases r1
 exact wpAny_truthy_bool ⟨H1,I1,q⟩
theorem dQ{e:Expr}{t:TE}(h:PE X e t)(he:∀ whole,isTrue e X.env whole=(do let v <- whole;standAt e.pos;holding [v] (truthy v)):=by intro _;rfl):PT X e (tB t):=by
 intro pins s σ H Q I hw
 refine isTrue_plain (bg (h pins s σ H _ I hw) fun v s1 ⟨x,H1,I1,r1,q1⟩=>?_) (he _)
 obtain⟨d,rfl,q⟩:=q1
 cases r1
 exact wpAny_truthy_bool ⟨H1,I1,q⟩
variable{tA VW:TT}{rest:List Expr}
def Se(t u:TT):TT:=fun σ H Q=>t σ H fun c H1=>if c=true then u σ H1 Q else Q false H1
def WO(t u:TT):TT:=fun σ H Q=>t σ H fun c H1=>if c=true then Q true H1 else u σ H1 Q
def Sf(t:TT):TT:=fun σ H Q=>t σ H fun c H1=>Q (!c) H1
theorem r9(ha:PT X a tA):PW X (.BoolOp .And [a] pos) tA:=by
 intro wh pins s σ H Q I h
 refine isTrue_and (bg (ha pins s σ H Q I h) fun c s1 e=>?_)
 cases c with
 | true=>exact isTrue_and_nil e
 | false=>exact e
theorem j7(ha:PT X a tA):PW X (.BoolOp .Or [a] pos) tA:=by
 intro wh pins s σ H Q I h
 refine isTrue_or (bg (ha pins s σ H Q I h) fun c s1 e=>?_)
 cases c with
 | false=>exact isTrue_or_nil e
 | true=>exact e
theorem wW(ha:PT X a tA)(hb:PW X (.BoolOp .And (b::rest) pos) VW):PW X (.BoolOp .And (a::b::rest) pos) (Se tA VW):=by
 intro wh pins s σ H Q I h
 refine isTrue_and (bg (ha pins s σ H _ I h) fun c s1 ⟨H1,I1,q1⟩=>?_)
 cases c with
 | true=>exact hb wh pins s1 σ H1 Q I1 q1
 | false=>exact⟨H1,I1,q1⟩
theorem mQ(ha:PT X a tA)(hb:PW X (.BoolOp .Or (b::rest) pos) VW):PW X (.BoolOp .Or (a::b::rest) pos) (WO tA VW):=by
 intro wh pins s σ H Q I h
 refine isTrue_or (bg (ha pins s σ H _ I h) fun c s1 ⟨H1,I1,q1⟩=>?_)
 cases c with
 | true=>exact⟨H1,I1,q1⟩
 | false=>exact hb wh pins s1 σ H1 Q I1 q1
theorem wX(ha:PT X a tA):PT X (.UnaryOp .Not a pos) (Sf tA):=by
 intro pins s σ H Q I h
 exact isTrue_not (ha pins s σ H (fun c H1=>Q (!c) H1) I h)
def Sg(ta tb:TE):TE:=fun σ H Q=>ta σ H fun x H1=>∃ c,x=.bl c/\if c=true then tb σ H1 Q else Q (.bl false) H1
def WQ(ta tb:TE):TE:=fun σ H Q=>ta σ H fun x H1=>∃ c,x=.bl c/\if c=true then Q (.bl true) H1 else tb σ H1 Q
def Sh(ta:TE):TE:=fun σ H Q=>ta σ H fun x H1=>∃ c,x=.bl c/\Q (.bl (!c)) H1
theorem j8{op}{t:TE}(h:PE X a t):PE X (.BoolOp op [a] pos) t:=fun pins s σ H Q I hw=>BoolOp_one (h pins s σ H Q I hw)
theorem kX(ha:PE X a ta)(hb:PE X (.BoolOp .And (b::rest) pos) tb):PE X (.BoolOp .And (a::b::rest) pos) (Sg ta tb):=by
 intro pins s σ H Q I h
 refine BoolOp_and (bg (ha pins s σ H _ I h) fun v s1 ⟨x,H1,I1,r1,q1⟩=>?_)
 obtain⟨c,rfl,q1⟩:=q1
 cases r1
 refine wpAny_truthy_bool ?_
 cases c with
 | true=>exact hb pins s1 σ H1 Q I1 q1
 | false=>exact⟨.bl false,H1,I1,rfl,q1⟩
theorem Si(ha:PE X a ta)(hb:PE X (.BoolOp .Or (b::rest) pos) tb):PE X (.BoolOp .Or (a::b::rest) pos) (WQ ta tb):=by
 intro pins s σ H Q I h
 refine BoolOp_or (bg (ha pins s σ H _ I h) fun v s1 ⟨x,H1,I1,r1,q1⟩=>?_)
 obtain⟨c,rfl,q1⟩:=q1
 cases r1
 refine wpAny_truthy_bool ?_
 cases c with
 | false=>exact hb pins s1 σ H1 Q I1 q1
 | true=>exact⟨.bl true,H1,I1,rfl,q1⟩
theorem NT(ha:PE X a ta):PE X (.UnaryOp .Not a pos) (Sh ta):=by
 intro pins s σ H Q I h
 refine UnaryOp_ (bg (ha pins s σ H _ I h) fun v s1 ⟨x,H1,I1,r1,q1⟩=>?_)
 obtain⟨c,rfl,q1⟩:=q1
 cases r1
 exact not_of (wpAny_truthy_bool ⟨.bl (!c),H1,I1,rfl,q1⟩)
def tIf(t:TT)(ta tb:TE):TE:=fun σ H Q=>t σ H fun c H1=>if c=true then ta σ H1 Q else tb σ H1 Q
theorem tE{c:Expr}(hc:PT X c tA)(ha:PE X a ta)(hb:PE X b tb):PE X (.IfExp c a b pos) (tIf tA ta tb):=by
 intro pins s σ H Q I h
 refine wpAny_IfExp (bg (hc pins s σ H _ I h) fun d s1 ⟨H1,I1,q1⟩=>?_)
 cases d with
 | true=>exact ha pins s1 σ H1 Q I1 q1
 | false=>exact hb pins s1 σ H1 Q I1 q1
end
def bx(K:W.Frag)(H:Hp)(a:Addr)(xs:List V):Prop :=
 Rd H a (.lst xs) \/
  ∃ (o:Obj) (its:Array Value) (n:Nat),K.lookup a=some o/\o.cls=.type "list" /\ o.dict=none/\o.data=.seq its n/\its.size<=sizeLine/\Vals xs its.toList
def bV(K:W.Frag)(H:Hp)(a:Addr)(xs:List V):Prop :=
 Rd H a (.tup xs) \/
  ∃ (o:Obj) (its:Array Value) (n:Nat),K.lookup a=some o/\o.cls=.type "tuple" /\ o.data=.seq its n/\its.size<=sizeLine/\Vals xs its.toList
def WR:Value->Option V
 | .none=>some .bY
 | .bool b=>some (.bl b)
 | .int i _=>some (.int i)
 | .str x _=>some (.str x)
 | .bytes b _=>some (.AH b)
 | .float b _=>some (.MI b)
 | .ref a=>some (.ref a)
 | .type n=>some (.ty n)
 | _=>none
theorem RelV.abs{x:V}{u:Value}(r:RelV x u):WR u=some x:=by
 cases x with
 | bY=>cases r;rfl
 | bl _=>cases r;rfl
 | int _=>obtain⟨t,rfl⟩:=r;rfl
 | str _=>obtain⟨t,rfl⟩:=r;rfl
 | AH _=>obtain⟨t,rfl⟩:=r;rfl
 | MI _=>obtain⟨t,rfl⟩:=r;rfl
 | ref _=>cases r;rfl
 | ty _=>cases r;rfl
theorem RelV.inj{x y:V}{u:Value}(r:RelV x u)(q:RelV y u):x=y:=Option.some.inj (r.abs.symm.trans q.abs)
theorem Vals.inj:∀ {xs ys:List V} {us:List Value},Vals xs us->Vals ys us->xs=ys
 | _,_,_,.nil,.nil=>rfl
 | _,_,_,.cons r t,.cons r' t'=>by rw[r.inj r',Vals.inj t t']
section
variable{X:Cx}{pins:List (Addr×Obj)}{σ:St}{H:Hp}{s:Shared}{a:Addr}{xs ys:List V}
theorem bx.of{K:W.Frag}(h:H a=some (.lst xs)):bx K H a xs:=.inl (.inl h)
theorem bV.of{K:W.Frag}(h:H a=some (.tup xs)):bV K H a xs:=.inl (.inl h)
theorem Inv.list(I:Inv X pins σ H s)(h:bx X.K H a xs):∃ its:List Value,Vals xs its/\PlainL s.heap a its.toArray/\xs.length<=sizeLine:=by
 rcases h with h | ⟨o,its,n,hk,hc,hd,hs,hz,r⟩
 ·obtain⟨z,its,n,r,e⟩:=h.ok I.a8
  exact⟨its,r,⟨_,n,e,rfl,rfl,rfl⟩,z⟩
 ·refine⟨its.toList,r,⟨o,n,I.jI a o hk,hc,hd,by simpa using hs⟩,?_⟩
  have e:=r.length
  simp only[Array.length_toList] at e
  omega
theorem Inv.tuple(I:Inv X pins σ H s)(h:bV X.K H a xs):∃ its:List Value,Vals xs its/\IsTup s.heap a its.toArray/\xs.length<=sizeLine:=by
 rcases h with h | ⟨o,its,n,hk,hc,hs,hz,r⟩
 ·obtain⟨z,its,r,p⟩:=h.ok I.a8
  exact⟨its,r,p,z⟩
 ·refine⟨its.toList,r,⟨o,I.jI a o hk,hc,n,by simpa using hs⟩,?_⟩
  have e:=r.length
  simp only[Array.length_toList] at e
  omega
theorem Inv.yG(I:Inv X pins σ H s)(h:bx X.K H a xs)(h':bx X.K H a ys):xs=ys:=by
 obtain⟨its,r,⟨o,n,e,_,_,d⟩,_⟩:=I.list h
 obtain⟨its',r',⟨o',n',e',_,_,d'⟩,_⟩:=I.list h'
 rw[e] at e';cases e'
 rw[d] at d'
 injection d' with d1 _
 have:its=its':=by simpa using congrArg Array.toList d1
 subst this
 exact r.inj r'
theorem Inv.p_(I:Inv X pins σ H s)(h:bV X.K H a xs)(h':bV X.K H a ys):xs=ys:=by
 obtain⟨its,r,⟨o,e,_,n,d⟩,_⟩:=I.tuple h
 obtain⟨its',r',⟨o',e',_,n',d'⟩,_⟩:=I.tuple h'
 rw[e] at e';cases e'
 rw[d] at d'
 injection d' with d1 _
 have:its=its':=by simpa using congrArg Array.toList d1
 subst this
 exact r.inj r'
end
abbrev Cx.fi(X:Cx)(E:Value->Shared->Prop):Cx:={ X with xe:=E }
abbrev Cx.NU(X:Cx):Cx:=X.fi fun _ _=>False
theorem Cx.Ok.fi{X:Cx}(ok:X.Ok)(E:Value->Shared->Prop):(X.fi E).Ok :=
 ⟨ok.mod,ok.kind,ok.glob,ok.blt,ok.above,ok.inj,ok.has,ok.Ks,ok.hd,ok.frames,ok.ML,ok.RH,ok.bs,ok.AA,ok.vh,ok.wV,ok.jH,ok.CQ⟩
theorem Cx.Ok.iG{X:Cx}{E:Value->Shared->Prop}(ok:(X.fi E).Ok):X.Ok :=
 ⟨ok.mod,ok.kind,ok.glob,ok.blt,ok.above,ok.inj,ok.has,ok.Ks,ok.hd,ok.frames,ok.ML,ok.RH,ok.bs,ok.AA,ok.vh,ok.wV,ok.jH,ok.CQ⟩
section
variable{X:Cx}{pins:List (Addr×Obj)}{σ:St}{H:Hp}{s:Shared}{E:Value->Shared->Prop}
theorem Inv.fi(I:Inv X pins σ H s)(E:Value->Shared->Prop):Inv (X.fi E) pins σ H s:=⟨I.ok.fi E,I.os,I.bare,I.base,I.loc,I.cell,I.free,I.ir,I.pin,I.a8,I.len⟩
theorem Inv.iG(I:Inv (X.fi E) pins σ H s):Inv X pins σ H s:=⟨I.ok.iG,I.os,I.bare,I.base,I.loc,I.cell,I.free,I.ir,I.pin,I.a8,I.len⟩
theorem SP.iG{D:Ends}{f:Flow}{s':Shared}(h:SP (X.fi E) pins D f s'):SP X pins D f s':=by
 cases f with
 | next=>obtain⟨bf,H',I,q⟩:=h;exact⟨bf,H',I.iG,q⟩
 | brk=>obtain⟨bf,H',I,q⟩:=h;exact⟨bf,H',I.iG,q⟩
 | cont=>obtain⟨bf,H',I,q⟩:=h;exact⟨bf,H',I.iG,q⟩
 | ret u=>obtain⟨v,bf,H',I,r,q⟩:=h;exact⟨v,bf,H',I.iG,r,q⟩
theorem vj.NU{st:List Stmt}{t:TS}(h:vj X.NU st t):vj X st t:=fun pins s σ H D I hw =>
 wpAny_mono (h pins s σ H D (I.fi _) hw) (fun _ _ q=>q.iG) fun _ _ z=>False.elim z
end
section
variable{X:Cx}{st:Stmt}{rest:List Stmt}{t u:TS}{e:Expr}{te:TE}{pos:Pos}
def MP:TS:=fun D σ H=>D.nx σ H
def Kv(t u:TS):TS:=fun D σ H=>t { D with nx:=u D } σ H
theorem ay:vj X [] MP:=fun _ _ σ H _ I h=>wpAny_execs_nil ⟨σ,H,I,h⟩
theorem aa(h1:PS X st t)(h2:vj X rest u):vj X (st::rest) (Kv t u):=by
 intro pins s σ H D I h
 refine wpAny_execs_cons (bg (h1 pins s σ H { D with nx:=u D } I h) fun f s1 q=>?_)
 cases f with
 | next =>
  obtain⟨bf,H',I',q⟩:=q
  exact h2 pins s1 bf H' D I' q
 | ret v=>exact q
 | brk=>exact q
 | cont=>exact q
theorem ai(h1:PS X st t):vj X [st] t:=by
 intro pins s σ H D I h
 refine wpAny_execs_cons (bg (h1 pins s σ H D I h) fun f s1 q=>?_)
 cases f with
 | next=>exact wpAny_execs_nil q
 | ret v=>exact q
 | brk=>exact q
 | cont=>exact q
theorem Inv.quiet{pins:List (Addr×Obj)}{σ:St}{H:Hp}{s:Shared}(I:Inv X pins σ H s):interactive X.env=false:=by simp [interactive,I.ok.kind]
def Sj(te:TE):TS:=fun D σ H=>te σ H fun _ H1=>D.nx σ H1
theorem aK(he:PE X e te)(hs:swapsWith e none pos.line X.env=pure false:=by rfl):PS X (.Expr e pos) (Sj te):=by
 intro pins s σ H D I h
 exact wpAny_Expr_any (bg (he pins s σ H _ I h) fun v s1 ⟨x,H1,I1,r1,q1⟩=>⟨σ,H1,I1,q1⟩) I.quiet hs
def Kw(te:TE):TS:=fun D σ H=>te σ H D.rt
theorem aI(he:PE X e te):PS X (.Return (some e) pos) (Kw te):=by
 intro pins s σ H D I h
 exact wpAny_Return_some (bg (he pins s σ H _ I h) fun v s1 ⟨x,H1,I1,r1,q1⟩=>⟨x,σ,H1,I1,r1,q1⟩)
def Kx(c:TT)(t u:TS):TS:=fun D σ H=>c σ H fun b H1=>if b=true then t D σ H1 else u D σ H1
theorem aP{c:Expr}{a b:List Stmt}{tc:TT}(hc:PT X c tc)(ha:vj X a t)(hb:vj X b u):PS X (.If c a b pos) (Kx tc t u):=by
 intro pins s σ H D I h
 refine wpAny_If (bg (hc pins s σ H _ I h) fun d s1 ⟨H1,I1,q1⟩=>?_)
 cases d with
 | true=>exact ha pins s1 σ H1 D I1 q1
 | false=>exact hb pins s1 σ H1 D I1 q1
def Gi:TS:=fun _ _ _=>False
theorem b9:PS X st Gi:=fun _ _ _ _ _ _ h=>h.elim
theorem aZ{sts:List Stmt}:vj X sts Gi:=fun _ _ _ _ _ _ h=>h.elim
end
abbrev TG:=V->St->Hp->(St->Hp->Prop)->Prop
abbrev NV:=List V->St->Hp->(St->Hp->Prop)->Prop
def PG(X:Cx)(target:Expr)(t:TG):Prop :=
 ∀ (pins:List (Addr×Obj)) (s:Shared) (σ:St) (H:Hp) (v:V) (u:Value) (Q:St->Hp->Prop),Inv X pins σ H s->RelV v u->t v σ H Q ->
  wpAny (model X.prog X.w) X.A (assign target X.env u) (fun _ s'=>∃ bf H',Inv X pins bf H' s'/\Q bf H') X.xe s
def VX(X:Cx)(ts:List Expr)(t:NV):Prop :=
 ∀ (pins:List (Addr×Obj)) (s:Shared) (σ:St) (H:Hp) (vs:List V) (us:List Value) (Q:St->Hp->Prop),Inv X pins σ H s->Vals vs us->t vs σ H Q ->
  wpAny (model X.prog X.w) X.A (assignInOrder ((assignEach ts X.env).map (·.2)) us) (fun _ s'=>∃ bf H',Inv X pins bf H' s'/\Q bf H') X.xe s
abbrev NW:=V->V->V->Hp->(Hp->Prop)->Prop
def Sk(X:Cx)(t:NW):Prop :=
 ∀ (pins:List (Addr×Obj)) (s:Shared) (σ:St) (H:Hp) (o i v:V) (ov iv u:Value) (Q:Hp->Prop),Inv X pins σ H s->RelV o ov->RelV i iv->RelV v u->t o i v H Q ->
  wpAny (model X.prog X.w) X.A (setItem ov iv u) (fun _ s'=>∃ H',Inv X pins σ H' s'/\Q H') X.xe s
abbrev VY:=V->V->Hp->VK->Prop
def PIp(X:Cx)(op:Operator)(t:VY):Prop :=
 ∀ (pins:List (Addr×Obj)) (s:Shared) (σ:St) (H:Hp) (x y:V) (v u:Value) (Q:VK),Inv X pins σ H s->RelV x v->RelV y u->t x y H Q ->
  wpAny (model X.prog X.w) X.A (inplaceOp op v u) (EP X pins σ Q) X.xe s
section
variable{X:Cx}{pos:Pos}
def jm(i:Nat):TG:=fun v σ H Q=>Q (σ.set i (some v)) H
theorem bz{i:Nat}{x:Str}(hN:X.N.Nodup)(hi:X.N[i]?=some x)(hx:Loc X.env.scope x)(hf:X.fn x=true\/X.env.scope.names.lookup x=some .local:=by first | exact .inl rfl | exact .inr rfl | assumption):PG X (.Name x pos) (jm i):=by
 intro pins s σ H v u Q I r h
 exact wpAny_assign_Name (ou I hN hi hx r (fun s' I'=>⟨_,H,I',h⟩) hf)
def Sl:NV:=fun vs σ H Q=>vs=[]/\Q σ H
def Gj(t:TG)(u:NV):NV:=fun vs σ H Q=>∃ v r,vs=v::r/\t v σ H fun bf H'=>u r bf H' Q
theorem j9:VX X [] Sl:=by
 intro pins s σ H vs us Q I r h
 obtain⟨e,h⟩:=h
 subst e
 cases r
 exact assignInOrder_nil ⟨σ,H,I,h⟩
theorem bC{e:Expr}{es:List Expr}{t:TG}{u:NV}(h1:PG X e t)(h2:VX X es u)
  (hs:(assignEach (e::es) X.env).map (·.2)=assign e X.env::(assignEach es X.env).map (·.2):=by rfl):VX X (e::es) (Gj t u):=by
 intro pins s σ H vs us Q I r h
 obtain⟨v,vr,e1,h⟩:=h
 subst e1
 cases r with
 | cons r rr =>
  rw[hs]
  refine assignInOrder_cons (bg (h1 pins s σ H _ _ _ I r h) fun _ s1 ⟨CV,H1,I1,q1⟩=>?_)
  exact h2 pins s1 CV H1 _ _ Q I1 rr q1
def Sm(K:W.Frag)(n:Nat)(t:NV):TG:=fun v σ H Q=>∃ a xs,v=.ref a/\bV K H a xs/\xs.length=n/\t xs σ H Q
theorem nj{es:List Expr}{k:Nat}{t:NV}{n:Nat}(hc:X.calm=true)(h:VX X es t)
  (hn:(assignEach es X.env).length=n:=by rfl) (tG:(assignEach es X.env).findIdx? (·.1)=none:=by rfl):PG X (.Tuple es k pos) (Sm X.K n t):=by
 intro pins s σ H v u Q I r hw
 obtain⟨a,xs,e1,hq,hl,hw⟩:=hw
 subst e1
 cases r
 obtain⟨its,rv,ht,hz⟩:=I.tuple hq
 refine assign_Tuple_tuple (I.ok.hd hc) ht (by simp [hn,<- hl,rv.length]) tG fun h' hx=>?_
 have I1:Inv X pins σ H { s with heap:=h' }:=I.kept (t':=s.toks) fun b o e=>hx b o (Nat.ne_of_lt (Heap.lt_size e)) e
 exact h pins _ σ H xs _ Q I1 (by simpa using rv) hw
def WS(to ti:TE)(t:NW):TG:=fun v σ H Q=>to σ H fun o H1=>ti σ H1 fun i H2=>t o i v H2 fun H3=>Q σ H3
theorem Gk{o i:Expr}{to ti:TE}{t:NW}(ho:PE X o to)(hi:PE X i ti)(hs:Sk X t)
  (ha:∀ v,assign (.Subscript o i pos) X.env v=(do
   let ov <- holding [v] (eval o X.env)
   let iv <- holding [v,ov] (eval i X.env)
   standAt pos
   holding [v,ov,iv] (setItem ov iv v)
   release [v,ov,iv] []):=by intro _;rfl):PG X (.Subscript o i pos) (WS to ti t):=by
 intro pins s σ H v u Q I r h
 rw[ha]
 refine wpAny_bind (wpAny_holding (bg (ho pins s σ H _ I h) fun ov s1 ⟨x,H1,I1,r1,q1⟩=>?_))
 refine wpAny_bind (wpAny_holding (bg (hi pins s1 σ H1 _ I1 q1) fun iv s2 ⟨y,H2,I2,r2,q2⟩=>?_))
 refine wpAny_bind (wpAny_standAt (wpAny_bind (wpAny_holding (bg (hs pins s2 σ H2 x y v ov iv u _ I2 r1 r2 r q2) fun _ s3 ⟨H3,I3,q3⟩=>?_))))
 exact wpAny_release ⟨σ,H3,I3,q3⟩
def D6(te:TE)(g:TG):TS:=fun D σ H=>te σ H fun x H1=>g x σ H1 D.nx
theorem tH{tg e:Expr}{te:TE}{g:TG}(he:PE X e te)(hg:PG X tg g)(hs:swapsWithSole [tg] e pos.line X.env=pure false:=by rfl)(hw:swappedStores [tg] e X.env=pure none:=by rfl)
  (h1:(assignEach [tg] X.env).map (·.2)=[assign tg X.env]:=by rfl):PS X (.Assign [tg] e pos) (D6 te g):=by
 intro pins s σ H D I h
 refine wpAny_Assign_stores (bg (he pins s σ H _ I h) fun v s1 ⟨x,H1,I1,r1,q1⟩=>?_) hs hw
 rw[h1]
 exact bg (hg pins s1 σ H1 x v _ I1 r1 q1) fun _ s2 q=>q
theorem aD{i:Nat}{x:Str}{e:Expr}{te:TE}{pos':Pos}(hN:X.N.Nodup)(hi:X.N[i]?=some x)(hx:Loc X.env.scope x)(he:PE X e te)(hs:swapsWith e (some (.Name x pos')) pos.line X.env=pure false:=by rfl)(hf:X.fn x=true\/X.env.scope.names.lookup x=some .local:=by first | exact .inl rfl | exact .inr rfl | assumption) :
  PS X (.Assign [.Name x pos'] e pos) (D6 te (jm i)):=by
 intro pins s σ H D I h
 refine wpAny_Assign_Name (bg (he pins s σ H _ I h) fun v s1 ⟨y,H1,I1,r1,q1⟩=>?_) hs
 exact ou I1 hN hi hx r1 (fun s2 I2=>⟨_,H1,I2,q1⟩) hf
def WU(i:Nat)(te:TE)(ti:VY):TS:=fun D σ H=>∃ x,σ[i]?=some (some x)/\te σ H fun y H1=>ti x y H1 fun z H2=>D.nx (σ.set i (some z)) H2
theorem NX{i:Nat}{x:Str}{e:Expr}{te:TE}{op:Operator}{ti:VY}{pos':Pos}(hN:X.N.Nodup)(hi:X.N[i]?=some x)(hx:Loc X.env.scope x)(he:PE X e te)(ho:PIp X op ti)(hf:X.fn x=true\/X.env.scope.names.lookup x=some .local:=by first | exact .inl rfl | exact .inr rfl | assumption) :
  PS X (.AugAssign (.Name x pos') op e pos) (WU i te ti):=by
 intro pins s σ H D I h
 obtain⟨v,e1,h⟩:=h
 obtain⟨m,hn,hl⟩:=I.loc
 have Ky:MK X.env.scope x:=by rcases hx with k | k;exact .inl k;exact .inr (.inl k)
 obtain⟨u,r,l⟩:=hl i x v hi e1 Ky
 refine wpAny_AugAssign_Name ?_
 have go:wpAny (model X.prog X.w) X.A (eval e X.env) (fun w kJ=>wpAny (model X.prog X.w) X.A (inplaceOp op u w) (fun r jJ=>wpAny (model X.prog X.w) X.A (storeName X.env x r) (fun _=>SP X pins D .next) X.xe jJ) X.xe kJ) X.xe s:=by
  refine bg (he pins s σ H _ I h) fun w s1 ⟨y,H1,I1,r1,q1⟩=>?_
  refine bg (ho pins s1 σ H1 v y u w _ I1 r r1 q1) fun z s2 ⟨zv,H2,I2,r2,q2⟩=>?_
  exact ou I2 hN hi hx r2 (fun s3 I3=>⟨_,H2,I3,q2⟩) hf
 rcases l with ⟨hk,hm⟩ | ⟨hk,c,hc,CT⟩
 ·exact wpAny_loadName_local I.ok.kind hk hn hm go
 ·rcases hk with hk | hk
  ·exact wpAny_loadName_cell I.ok.kind hk hc CT go
  ·rcases hx with k | k
   ·have:X.env.scope.names.lookup x=some .free:=hk
    rw[k] at this;cases this
   ·have:X.env.scope.names.lookup x=some .free:=hk
    rw[k] at this;cases this
def ipI(f:Int->Int->Int):VY:=fun x y H Q=>∃ i j,x=.int i/\y=.int j/\Q (.int (f i j)) H
theorem NY:PIp X .Add (ipI fun i j=>i+j):=by
 intro pins s σ H x y v u Q I r1 r2 h
 obtain⟨i,j,e1,e2,q⟩:=h
 subst e1;subst e2
 obtain⟨t,rfl⟩:=r1
 obtain⟨t',rfl⟩:=r2
 exact iadd_int ⟨.int _,H,I.tok _,⟨_,rfl⟩,q⟩
end
section
variable{X:Cx}{pos:Pos}
def Gm(c:TT)(tb:TS):TS:=fun D σ H=>∃ Wq:Nat->St->Hp->Prop,(∃ m,Wq m σ H)/\∀ m σ H,Wq m σ H ->
 c σ H fun b H1=>if b=true then ∃ N:St->Hp->Prop,(∀ bf H',N bf H'->∃ m',m'<m/\Wq m' bf H')/\tb { D with nx:=N,ct:=N,bk:=D.nx } σ H1 else D.nx σ H1
theorem yH{c:Expr}{body:List Stmt}{tc:TT}{tb:TS}(hp:PassesOwn (model X.prog X.w) X.A X.env X.xe)(hc:PT X c tc)(hb:vj X body tb):PS X (.While c body [] pos) (Gm tc tb):=by
 intro pins s σ H D I h
 obtain⟨Wq,⟨m0,w0⟩,turn⟩:=h
 refine wpAny_While (codeAny_whileLoop (fun n s'=>∃ bf H',Inv X pins bf H' s'/\Wq n bf H') ?_ m0 ⟨σ,H,I,w0⟩)
 rintro n s1 ⟨CV,H1,I1,w1⟩
 refine wpAny_passesOwn hp (bg (hc pins s1 CV H1 _ I1 (turn n CV H1 w1)) fun b s2 ⟨H2,I2,q2⟩=>?_)
 cases b with
 | true =>
  obtain⟨N,hN,q2⟩:=q2
  rw[if_pos rfl]
  refine wpAny_passesOwn hp (bg (hb pins s2 CV H2 _ I2 q2) fun f s3 q3=>?_)
  cases f with
  | next =>
   obtain⟨yI,H3,I3,n3⟩:=q3
   obtain⟨m',hm,w3⟩:=hN yI H3 n3
   exact⟨m',hm,yI,H3,I3,w3⟩
  | cont =>
   obtain⟨yI,H3,I3,n3⟩:=q3
   obtain⟨m',hm,w3⟩:=hN yI H3 n3
   exact⟨m',hm,yI,H3,I3,w3⟩
  | brk=>exact q3
  | ret v=>exact q3
 | false =>
  rw[if_neg Bool.false_ne_true]
  exact wpAny_execs_nil ⟨CV,H2,I2,q2⟩
end
structure It where
 go:Nat->Hp->Prop
 MQ:Nat->Hp->V->Hp->Prop
 stop:Nat->Hp->Prop
def c6(X:Cx)(pins:List (Addr×Obj))(H:Hp)(b:Addr):Prop :=
 H b=none/\b≠X.env.locals/\b∉X.fs/\(b∈X.ex\/X.g0.heap.objs.size<=b)/\(∀ x c,X.env.cells.lookup x=some c->c≠b)/\∀ p∈X.pn++pins,p.1≠b
theorem Inv.qa{X:Cx}{pins:List (Addr×Obj)}{σ:St}{H H':Hp}{s:Shared}{b:Addr}(I:Inv X pins σ H s)(hb:s.heap.objs.size<=b)(hn:H' b=none):c6 X pins H' b:=by
 refine⟨hn,Nat.ne_of_gt (Nat.lt_of_lt_of_le I.lt hb),I.WK hb,.inr (Nat.le_trans I.sz hb),fun x c e z=>?_,fun p hp z=>?_⟩
 ·obtain⟨v,q⟩:=I.cell x c e
  exact absurd (Nat.lt_of_lt_of_le q.lt (by rw[z];exact hb)) (Nat.lt_irrefl _)
 ·exact absurd (Nat.lt_of_lt_of_le (Heap.lt_size (I.pin p hp).1) (by rw[z];exact hb)) (Nat.lt_irrefl _)
structure Turn(P:Program)(w:World)(K:W.Frag)(tg:Expr)(J:It)(fp:List Addr)(it:Addr)(tn:Nat->Heap->Prop):Prop where
 mem:it∈fp
 obj:∀ i h,tn i h->∀ b∈fp,∃ o,h.get? b=some o/\∀ v,o.data≠.cell v
 keep:∀ i h h',tn i h->(∀ b∈fp,∀ o,h.get? b=some o->h'.get? b=some o)->tn i h'
 item:∀ (X:Cx),X.prog=P->X.w=w->X.K=K->X.calm=true->∀ (i:Nat) (pins:List (Addr×Obj)) (s:Shared) (σ:St) (H:Hp) (E:Value->Shared->Prop),Inv X pins σ H s->(∀ b∈fp,c6 X pins H b)->tn i s.heap->J.go i H ->
  wpAny (model P w) X.A (pyNext (.ref it)) (fun r s1=>∃ u,r=some u /\
   wpAny (model P w) X.A (letOwnedTupleGo tg (.ref it) u) (fun _ s2=>∃ x H',Inv X pins σ H' s2/\RelV x u/\J.MQ i H x H'/\tn (i+1) s2.heap/\∀ b∈fp,H' b=none) E s1) E s
 done:∀ (X:Cx),X.prog=P->X.w=w->X.K=K->X.calm=true->∀ (i:Nat) (pins:List (Addr×Obj)) (s:Shared) (σ:St) (H:Hp) (E:Value->Shared->Prop),Inv X pins σ H s->(∀ b∈fp,c6 X pins H b)->tn i s.heap->J.stop i H ->
  wpAny (model P w) X.A (pyNext (.ref it)) (fun r s1=>r=none/\Inv X pins σ H s1) E s
 self:∀ (A:Around) (i:Nat) (s:Shared) (Q:Value->Shared->Prop) (E:Value->Shared->Prop),tn i s.heap->Q (.ref it) s->wpAny (model P w) A (pyIter (.ref it)) Q E s
abbrev TI:=St->Hp->(It->Hp->Prop)->Prop
def PIE(X:Cx)(pins:List (Addr×Obj))(σ:St)(tg:Expr)(R:It->Hp->Prop)(MR:Value)(s2:Shared):Prop :=
 ∃ (it:Addr) (fp:List Addr) (tn:Nat->Heap->Prop) (J:It) (H':Hp),MR=.ref it/\Inv X pins σ H' s2/\Turn X.prog X.w X.K tg J fp it tn/\tn 0 s2.heap/\(∀ b∈fp,c6 X pins H' b)/\R J H'
def PI(X:Cx)(tg iter:Expr)(wi:TI):Prop :=
 ∀ (pins:List (Addr×Obj)) (s:Shared) (σ:St) (H:Hp) (R:It->Hp->Prop),Inv X pins σ H s->wi σ H R ->
  wpAny (model X.prog X.w) X.A (eval iter X.env) (fun v s1=>wpAny (model X.prog X.w) X.A (pyIter v) (PIE X pins σ tg R) X.xe s1) X.xe s
theorem v9{M:Model}{A:Around}{E:Value->Shared->Prop}{s:Shared}{tg:Expr}{it:Addr}{u:Value}{o:Obj}{n:String}{vs:Array Value}{Q:Unit->Shared->Prop}(ho:s.heap.get? it=some o)(hc:o.cls=.type n)(hd:o.data=.fields vs)
  (hn:["enumerate", "zip", "dict_itemiterator", "dict_reverseitemiterator", "odict_iterator", "itertools.zip_longest", "itertools.pairwise"].contains n=false) (hQ:Q () s):wpAny M A (letOwnedTupleGo tg (.ref it) u) Q E s:=by
 unfold letOwnedTupleGo
 cases tg<;>first
  | exact wpAny_pure hQ
  | (
    cases u<;>first
    | exact wpAny_pure hQ
    | (
      refine wpAny_bind (wpAny_load ho ?_)
      rw[hc,hd]
      show wpAny M A (if (["enumerate", "zip", "dict_itemiterator", "dict_reverseitemiterator", "odict_iterator", "itertools.zip_longest", "itertools.pairwise"].contains n&&vs[0]? == some (rawInt _))=true then _ else _) Q E s
      rw[if_neg (by intro h;rw[hn,Bool.false_and] at h;cases h)]
      exact wpAny_pure hQ))
def Gn(K:W.Frag)(a:Addr):It :=
 ⟨fun i H=>∃ xs x,bx K H a xs/\xs[i]?=some x,fun i H x H'=>H'=H/\∀ xs,bx K H a xs->xs[i]?=some x,fun i H=>∃ xs,bx K H a xs/\xs.length<=i⟩
def Sn(K:W.Frag)(a:Addr):It :=
 ⟨fun i H=>∃ xs x,bV K H a xs/\xs[i]?=some x,fun i H x H'=>H'=H/\∀ xs,bV K H a xs->xs[i]?=some x,fun i H=>∃ xs,bV K H a xs/\xs.length<=i⟩
def MS(lo:Int)(n:Nat):It:=⟨fun i _=>i<n,fun i H x H'=>H'=H/\x=.int (lo+i),fun i _=>n<=i⟩
theorem D7{P:Program}{w:World}{K:W.Frag}{tg:Expr}(a it:Addr):Turn P w K tg (Gn K a) [it] it (fun i h=>h.IsListIter it a i) where
 mem:=by simp
 obj:=fun i h st b hb=>by
  have e:b=it:=by simpa using hb
  subst e
  obtain⟨o,e,c,d⟩:=st
  exact⟨o,e,fun v z=>by rw[d] at z;cases z⟩
 keep:=fun i h h' st k=>st.at fun o e=>k it (by simp) o e
 item:=by
  intro X hP hw hK hc i pins s σ H E I hf st hg
  subst hP hw hK
  obtain⟨xs,x,hq,hx⟩:=hg
  obtain⟨its,rv,p,hz⟩:=I.list hq
  obtain⟨u,hu,ru⟩:=rv.get hx
  obtain⟨f0,f1,f2,f3,f4,f5⟩:=hf it (by simp)
  refine wpAny_pyNext_list_item st p.isList (x:=u) (by simpa using hu) fun h' yJ sb=>?_
  have I1:Inv X pins σ H { s with heap:=h' }:=I.turned (t':=s.toks) (fun b o hb e=>(sb.2 b hb).trans e) f0 f1 f3 f4 f5
  obtain⟨o,e,c,d⟩:=id yJ
  exact⟨u,rfl,v9 (s:={ s with heap:=h' }) e c d (by decide) ⟨x,H,I1,ru,⟨rfl,fun ys hy=>by rw[I.yG hy hq];exact hx⟩,yJ,fun b hb=>(hf b hb).1⟩⟩
 done:=by
  intro X hP hw hK hc i pins s σ H E I hf st hg
  subst hP hw hK
  obtain⟨xs,hq,hx⟩:=hg
  obtain⟨its,rv,p,hz⟩:=I.list hq
  obtain⟨f0,f1,f2,f3,f4,f5⟩:=hf it (by simp)
  have hl:=rv.length
  exact wpAny_pyNext_list_end (I.ok.hd hc) st p.isList (by simp;omega) fun h' eb=>⟨rfl,I.turned (t':=s.toks) (fun b o hb e=>eb b o hb e) f0 f1 f3 f4 f5⟩
 self:=fun _ _ _ _ _ st h=>wpAny_pyIter_listiter st h
theorem AK{P:Program}{w:World}{K:W.Frag}{tg:Expr}(a it:Addr):Turn P w K tg (Sn K a) [it] it (fun i h=>h.IsTupleIter it a i) where
 mem:=by simp
 obj:=fun i h st b hb=>by
  have e:b=it:=by simpa using hb
  subst e
  obtain⟨o,e,c,d⟩:=st
  exact⟨o,e,fun v z=>by rw[d] at z;cases z⟩
 keep:=fun i h h' st k=>st.at fun o e=>k it (by simp) o e
 item:=by
  intro X hP hw hK hc i pins s σ H E I hf st hg
  subst hP hw hK
  obtain⟨xs,x,hq,hx⟩:=hg
  obtain⟨its,rv,p,hz⟩:=I.tuple hq
  obtain⟨u,hu,ru⟩:=rv.get hx
  obtain⟨f0,f1,f2,f3,f4,f5⟩:=hf it (by simp)
  refine wpAny_pyNext_tuple_item st (show s.heap.IsTuple a its.toArray from p) (x:=u) (by simpa using hu) fun h' yJ sb=>?_
  have I1:Inv X pins σ H { s with heap:=h' }:=I.turned (t':=s.toks) (fun b o hb e=>(sb.2 b hb).trans e) f0 f1 f3 f4 f5
  obtain⟨o,e,c,d⟩:=id yJ
  exact⟨u,rfl,v9 (s:={ s with heap:=h' }) e c d (by decide) ⟨x,H,I1,ru,⟨rfl,fun ys hy=>by rw[I.p_ hy hq];exact hx⟩,yJ,fun b hb=>(hf b hb).1⟩⟩
 done:=by
  intro X hP hw hK hc i pins s σ H E I hf st hg
  subst hP hw hK
  obtain⟨xs,hq,hx⟩:=hg
  obtain⟨its,rv,p,hz⟩:=I.tuple hq
  obtain⟨f0,f1,f2,f3,f4,f5⟩:=hf it (by simp)
  have hl:=rv.length
  exact wpAny_pyNext_tuple_end (I.ok.hd hc) st (show s.heap.IsTuple a its.toArray from p) (by simp;omega) fun h' eb=>⟨rfl,I.turned (t':=s.toks) (fun b o hb e=>eb b o hb e) f0 f1 f3 f4 f5⟩
 self:=fun _ _ _ _ _ st h=>wpAny_pyIter_tupleiter st h
theorem AL{P:Program}{w:World}{K:W.Frag}{tg:Expr}(it:Addr)(lo:Int)(n:Nat):Turn P w K tg (MS lo n) [it] it (fun i h=>IsRangeIter h it (lo+(i:Nat)*1) ((n:Int) - (i:Nat)) 1) where
 mem:=by simp
 obj:=fun i h st b hb=>by
  have e:b=it:=by simpa using hb
  subst e
  exact⟨_,st,fun v z=>by
   have z':Data.fields _=Data.cell v:=z
   cases z'⟩
 keep:=fun i h h' st k=>k it (by simp) _ st
 item:=by
  intro X hP hw hK hc i pins s σ H E I hf st hg
  subst hP hw hK
  obtain⟨f0,f1,f2,f3,f4,f5⟩:=hf it (by simp)
  have Wq:=Walks.range (prog:=X.prog) (w:=X.w) (I.ok.hd hc) it lo 1 n
  refine Wq.item i s _ _ hg st fun v h' tk hv yJ kk=>?_
  obtain⟨t,rfl⟩:=hv
  have I1:Inv X pins σ H { s with heap:=h',toks:=tk }:=I.turned (fun b o hb e=>kk b o (by simpa using hb) e) f0 f1 f3 f4 f5
  refine⟨_,rfl,v9 (s:={ s with heap:=h',toks:=tk }) (n := "range_iterator") yJ rfl rfl (by decide) ⟨.int (lo+i),H,I1,⟨t,?_⟩,⟨rfl,rfl⟩,yJ,fun b hb=>(hf b hb).1⟩⟩
  rw[Int.mul_one]
 done:=by
  intro X hP hw hK hc i pins s σ H E I hf st hg
  subst hP hw hK
  obtain⟨f0,f1,f2,f3,f4,f5⟩:=hf it (by simp)
  exact wpAny_pyNext_range_end (I.ok.hd hc) st (by have:n<=i:=hg;omega) fun h' eb=>⟨rfl,I.turned (t':=s.toks) (fun b o hb e=>eb b o hb e) f0 f1 f3 f4 f5⟩
 self:=fun _ _ _ _ _ st h=>wpAny_pyIter_rangeiter st h
section
variable{X:Cx}{tg:Expr}
def So(K:W.Frag)(tl:TE):TI:=fun σ H R=>tl σ H fun x H1=>∃ a,x=.ref a/\(∃ xs,bx K H1 a xs)/\R (Gn K a) H1
def WV(K:W.Frag)(tl:TE):TI:=fun σ H R=>tl σ H fun x H1=>∃ a,x=.ref a/\(∃ xs,bV K H1 a xs)/\R (Sn K a) H1
theorem jq{l:Expr}{tl:TE}(hl:PE X l tl):PI X tg l (So X.K tl):=by
 intro pins s σ H R I h
 refine bg (hl pins s σ H _ I h) fun v s1 ⟨x,H1,I1,r1,q1⟩=>?_
 obtain⟨a,e,⟨xs,hq⟩,q⟩:=q1
 subst e
 cases r1
 obtain⟨its,rv,p,hz⟩:=I1.list hq
 refine wpAny_pyIter_list p.isList ?_
 refine⟨s1.heap.objs.size,[s1.heap.objs.size],_,_,H1,rfl,I1.kept (t':=s1.toks) fun b o e=>Heap.get?_push_of_some _ e,D7 a _,⟨_,Heap.get?_push_size _ rfl,rfl,rfl⟩,fun b hb=>?_,q⟩
 have e:b=s1.heap.objs.size:=by simpa using hb
 subst e
 exact I1.qa (Nat.le_refl _) (I1.a8.fresh (Nat.le_refl _))
theorem NZ{l:Expr}{tl:TE}(hl:PE X l tl):PI X tg l (WV X.K tl):=by
 intro pins s σ H R I h
 refine bg (hl pins s σ H _ I h) fun v s1 ⟨x,H1,I1,r1,q1⟩=>?_
 obtain⟨a,e,⟨xs,hq⟩,q⟩:=q1
 subst e
 cases r1
 obtain⟨its,rv,p,hz⟩:=I1.tuple hq
 refine wpAny_pyIter_tuple (show s1.heap.IsTuple a its.toArray from p) ?_
 refine⟨s1.heap.objs.size,[s1.heap.objs.size],_,_,H1,rfl,I1.kept (t':=s1.toks) fun b o e=>Heap.get?_push_of_some _ e,AK a _,⟨_,Heap.get?_push_size _ rfl,rfl,rfl⟩,fun b hb=>?_,q⟩
 have e:b=s1.heap.objs.size:=by simpa using hb
 subst e
 exact I1.qa (Nat.le_refl _) (I1.a8.fresh (Nat.le_refl _))
theorem Gp{pins:List (Addr×Obj)}{σ:St}{H:Hp}{s:Shared}{R:It->Hp->Prop}{E:Value->Shared->Prop}{lo hi:Int}{t u v:Tok}{tk:Nat}(I:Inv X pins σ H s)(h1 : -(2 ^ 62)<=lo)(h2:lo<2 ^ 62)(h3 : -(2 ^ 62)<=hi)(h4:hi<2 ^ 62)
  (q:R (MS lo (hi - lo).toNat) H):wpAny (model X.prog X.w) X.A (pyIter (.ref s.heap.objs.size)) (PIE X pins σ tg R) E { s with heap:=s.heap.push { cls:=.type "range",data:=.fields #[.int lo t,.int hi u,.int 1 v] },toks:=tk }:=by
 refine wpAny_pyIter_range (IsRange.new ..) (small_one h1 h2 h3 h4) ?_
 have I1:Inv X pins σ H { s with heap:=s.heap.push { cls:=.type "range",data:=.fields #[.int lo t,.int hi u,.int 1 v] },toks:=tk }:=I.kept fun b o e=>Heap.get?_push_of_some _ e
 refine⟨(s.heap.push { cls:=.type "range",data:=.fields #[.int lo t,.int hi u,.int 1 v] }).objs.size,[(s.heap.push { cls:=.type "range",data:=.fields #[.int lo t,.int hi u,.int 1 v] }).objs.size],_,_,H,rfl,
  I1.kept (t':=tk) fun b o e=>Heap.get?_push_of_some _ e,AL _ lo (hi - lo).toNat,?_,fun b hb=>?_,q⟩
 ·have e1:lo+((0:Nat):Int)*1=lo:=by simp
  have e2:(((hi - lo).toNat:Nat):Int) - ((0:Nat):Int)=Builtin.Range.rangeSize lo hi 1:=by rw[rangeSize_one];split<;>omega
  show IsRangeIter _ _ (lo+((0:Nat):Int)*1) ((((hi - lo).toNat:Nat):Int) - ((0:Nat):Int)) 1
  rw[e1,e2]
  exact Heap.get?_push_size _ rfl
 ·have e:b=(s.heap.push { cls:=.type "range",data:=.fields #[.int lo t,.int hi u,.int 1 v] }).objs.size:=by simpa using hb
  subst e
  exact I1.qa (Nat.le_refl _) (I1.a8.fresh (Nat.le_refl _))
def Sq(ta:TA):TI:=fun σ H R=>ta σ H fun vs H1=>∃ j:Int,vs=[.int j] /\ -(2 ^ 62)<=j/\j<2 ^ 62/\R (MS 0 j.toNat) H1
theorem lU{a:Expr}{ta:TA}{p pos:Pos}(hg:Gl X "range")(hm:X.mg "range" = none)(ha:PA X [a] ta)(hs:starEach [a] X.env=[(false,eval a X.env)]:=by rfl):PI X tg (.Call (.Name "range" p) [a] [] pos) (Sq ta):=by
 intro pins s σ H R I h
 refine Call_ (kW I hg hm boot_range (PyProof.Rows.callWith_type1 (bg (ha pos pins s σ H _ I h) fun us s1 ⟨vs,H1,I1,r1,q1⟩=>?_) hs rfl))
 obtain⟨j,e,q1,q2,q⟩:=q1
 subst e
 cases r1 with
 | cons r rr =>
  cases rr
  obtain⟨t,rfl⟩:=r
  exact call_range_1 (Gp I1 (by omega) (by omega) q1 q2 (by simpa using q))
def N1(wi:TI)(g:TG)(tb:TS):TS:=fun D σ H=>wi σ H fun J H1=>∃ Wq:Nat->Nat->St->Hp->Prop,(∃ m,Wq 0 m σ H1)/\∀ i m σ H,Wq i m σ H ->
 (J.stop i H/\D.nx σ H)\/(J.go i H/\∃ N:St->Hp->Prop,(∀ bf H',N bf H'->∃ m',m'<m/\Wq (i+1) m' bf H')/\∀ x H',J.MQ i H x H'->g x σ H' fun kY H2=>tb { D with nx:=N,ct:=N,bk:=D.nx } kY H2)
def kZ(fp:List Addr)(h:Heap):List (Addr×Obj):=fp.filterMap fun b=>(h.get? b).map fun o=>(b,o)
theorem cZ{fp:List Addr}{h:Heap}{b:Addr}{o:Obj}(hb:b∈fp)(e:h.get? b=some o):(b,o)∈kZ fp h:=List.mem_filterMap.mpr ⟨b,hb,by rw[e];rfl⟩
theorem D8{fp:List Addr}{h:Heap}{p:Addr×Obj}(hp:p∈kZ fp h):p.1∈fp/\h.get? p.1=some p.2:=by
 obtain⟨b,hb,e⟩:=List.mem_filterMap.mp hp
 cases q:h.get? b with
 | none=>rw[q] at e;cases e
 | some o =>
  rw[q] at e
  have e':(b,o)=p:=Option.some.inj e
  subst e'
  exact⟨hb,q⟩
theorem Inv.pinned{pins:List (Addr×Obj)}{σ:St}{H:Hp}{s:Shared}{fp:List Addr}(I:Inv X pins σ H s)(hf:∀ b∈fp,c6 X pins H b)(ho:∀ b∈fp,∃ o,s.heap.get? b=some o/\∀ v,o.data≠.cell v):Inv X (pins++kZ fp s.heap) σ H s :=
 I.CS fun p hp=>(List.mem_append.mp hp).elim (fun z=>I.pin p (List.mem_append_right _ z)) fun z=>by
  obtain⟨hb,e⟩:=D8 z
  obtain⟨f0,f1,f2,_⟩:=hf p.1 hb
  obtain⟨o,e',d⟩:=ho p.1 hb
  rw[e] at e';cases e'
  exact⟨e,f0,f1,f2,d⟩
theorem Inv.c9{pins pl:List (Addr×Obj)}{σ:St}{H:Hp}{s:Shared}(I:Inv X (pins++pl) σ H s):Inv X pins σ H s:=I.CS fun p hp=>I.pin p (List.mem_append_right _ (List.mem_append_left _ hp))
theorem tI{iter:Expr}{body:List Stmt}{wi:TI}{g:TG}{tb:TS}{pos:Pos}(hp:PassesOwn (model X.prog X.w) X.A X.env X.xe)(hc:X.calm=true)(hi:PI X tg iter wi)(hg:PG X tg g)(hb:vj X body tb)
  (hs:∀ x,foldedSetIterable iter X.env x=pure x:=by intro _;rfl):PS X (.For tg iter body [] pos) (N1 wi g tb):=by
 intro pins s σ H D I h
 refine wpAny_For (bg (hi pins s σ H _ I h) fun v s1 h1=>bg h1 fun MR s2 h2=>?_) hs
 obtain⟨it,fp,tn,J,H2,e,I2,T,vb,f2,Wq,⟨m0,w0⟩,turn⟩:=h2
 subst e
 have j_:∀ {H':Hp},(∀ b∈fp,H' b=none)->∀ b∈fp,c6 X pins H' b:=fun hn b hb=>⟨hn b hb,(f2 b hb).2⟩
 refine codeAny_forLoop_any (fun n s'=>∃ i bf H',Inv X pins bf H' s'/\tn i s'.heap/\(∀ b∈fp,H' b=none)/\Wq i n bf H') ?_ m0 ⟨0,σ,H2,I2,vb,fun b hb=>(f2 b hb).1,w0⟩
 rintro n s3 ⟨i,yI,H3,I3,CW,CY,w3⟩
 rcases turn i n yI H3 w3 with ⟨stop,qn⟩ | ⟨go,N,hN,step⟩
 ·refine wpAny_passesOwn hp (bg (T.done X rfl rfl rfl hc i pins s3 yI H3 X.xe I3 (j_ CY) CW stop) fun r s4 ⟨hr,I4⟩=>?_)
  subst hr
  exact wpAny_execs_nil ⟨yI,H3,I4,qn⟩
 ·refine wpAny_passesOwn hp (bg (T.item X rfl rfl rfl hc i pins s3 yI H3 X.xe I3 (j_ CY) CW go) fun r s4 ⟨u,hr,h4⟩=>?_)
  subst hr
  refine wpAny_passesOwn hp (bg h4 fun _ s5 ⟨x,H5,I5,r5,y5,wY,Kz⟩=>?_)
  have KA:=I5.pinned (j_ Kz) (T.obj _ _ wY)
  refine wpAny_passesOwn hp (bg (hg _ s5 yI H5 x u _ KA r5 (step x H5 y5)) fun _ s6 ⟨RI,H6,I6,q6⟩=>?_)
  refine wpAny_passesOwn hp (bg (hb _ s6 RI H6 _ I6 q6) fun f s7 q7=>?_)
  have again:∀ {mz:St} {H7:Hp},Inv X (pins++kZ fp s5.heap) mz H7 s7->N mz H7->∃ m,m<n/\∃ i bf H',Inv X pins bf H' s7/\tn i s7.heap/\(∀ b∈fp,H' b=none)/\Wq i m bf H':=fun {mz H7} I7 n7=>by
   obtain⟨m',hm,w7⟩:=hN mz H7 n7
   refine⟨m',hm,i+1,mz,H7,I7.c9,T.keep _ _ _ wY fun b hb o e=>(I7.pin (b,o) (List.mem_append_right _ (List.mem_append_right _ (cZ hb e)))).1,fun b hb=>?_,w7⟩
   obtain⟨o,e,d⟩:=T.obj _ _ wY b hb
   exact(I7.pin (b,o) (List.mem_append_right _ (List.mem_append_right _ (cZ hb e)))).2.1
  cases f with
  | next=>obtain⟨mz,H7,I7,n7⟩:=q7;exact again I7 n7
  | cont=>obtain⟨mz,H7,I7,n7⟩:=q7;exact again I7 n7
  | brk=>obtain⟨mz,H7,I7,q7⟩:=q7;exact⟨mz,H7,I7.c9,q7⟩
  | ret v=>obtain⟨x7,mz,H7,I7,r7,q7⟩:=q7;exact⟨x7,mz,H7,I7.c9,r7,q7⟩
end
theorem tJ{K:W.Frag}{a:Addr}{xs:List V}{g:TG}{tb:TS}{D:Ends}{σ:St}{H:Hp}(Pv:Nat->St->Hp->Prop)(h0:Pv 0 σ H)(hl:∀ i σ H,i<=xs.length->Pv i σ H->bx K H a xs)
  (hs:∀ i x σ H,xs[i]?=some x->Pv i σ H->g x σ H fun kY H2=>tb { D with nx:=Pv (i+1),ct:=Pv (i+1),bk:=D.nx } kY H2) (hd:∀ σ H,Pv xs.length σ H->D.nx σ H) :
  ∃ Wq:Nat->Nat->St->Hp->Prop,(∃ m,Wq 0 m σ H)/\∀ i m σ H,Wq i m σ H ->
   ((Gn K a).stop i H/\D.nx σ H)\/((Gn K a).go i H/\∃ N:St->Hp->Prop,(∀ bf H',N bf H'->∃ m',m'<m/\Wq (i+1) m' bf H')/\∀ x H',(Gn K a).MQ i H x H'->g x σ H' fun kY H2=>tb { D with nx:=N,ct:=N,bk:=D.nx } kY H2):=by
 refine⟨fun i m σ H=>m=xs.length - i/\i<=xs.length/\Pv i σ H,⟨xs.length,by simp,Nat.zero_le _,h0⟩,?_⟩
 rintro i m σ H ⟨rfl,hi,p⟩
 have q:=hl i σ H hi p
 by_cases c_:i<xs.length
 ·refine .inr ⟨⟨xs,xs[i],q,by simp [c_]⟩,Pv (i+1),fun bf H' p'=>⟨xs.length - (i+1),by omega,rfl,c_,p'⟩,fun x H' y=>?_⟩
  obtain⟨e,y⟩:=y
  subst e
  exact hs i x σ _ (y xs q) p
 ·have e:i=xs.length:=by omega
  subst e
  exact .inl ⟨⟨xs,q,Nat.le_refl _⟩,hd σ H p⟩
theorem KC{K:W.Frag}{a:Addr}{xs:List V}{g:TG}{tb:TS}{D:Ends}{σ:St}{H:Hp}(Pv:Nat->St->Hp->Prop)(h0:Pv 0 σ H)(hl:∀ i σ H,i<=xs.length->Pv i σ H->bV K H a xs)
  (hs:∀ i x σ H,xs[i]?=some x->Pv i σ H->g x σ H fun kY H2=>tb { D with nx:=Pv (i+1),ct:=Pv (i+1),bk:=D.nx } kY H2) (hd:∀ σ H,Pv xs.length σ H->D.nx σ H) :
  ∃ Wq:Nat->Nat->St->Hp->Prop,(∃ m,Wq 0 m σ H)/\∀ i m σ H,Wq i m σ H ->
   ((Sn K a).stop i H/\D.nx σ H)\/((Sn K a).go i H/\∃ N:St->Hp->Prop,(∀ bf H',N bf H'->∃ m',m'<m/\Wq (i+1) m' bf H')/\∀ x H',(Sn K a).MQ i H x H'->g x σ H' fun kY H2=>tb { D with nx:=N,ct:=N,bk:=D.nx } kY H2):=by
 refine⟨fun i m σ H=>m=xs.length - i/\i<=xs.length/\Pv i σ H,⟨xs.length,by simp,Nat.zero_le _,h0⟩,?_⟩
 rintro i m σ H ⟨rfl,hi,p⟩
 have q:=hl i σ H hi p
 by_cases c_:i<xs.length
 ·refine .inr ⟨⟨xs,xs[i],q,by simp [c_]⟩,Pv (i+1),fun bf H' p'=>⟨xs.length - (i+1),by omega,rfl,c_,p'⟩,fun x H' y=>?_⟩
  obtain⟨e,y⟩:=y
  subst e
  exact hs i x σ _ (y xs q) p
 ·have e:i=xs.length:=by omega
  subst e
  exact .inl ⟨⟨xs,q,Nat.le_refl _⟩,hd σ H p⟩
theorem D9{lo:Int}{n:Nat}{g:TG}{tb:TS}{D:Ends}{σ:St}{H:Hp}(Pv:Nat->St->Hp->Prop)(h0:Pv 0 σ H)
  (hs:∀ i σ H,i<n->Pv i σ H->g (.int (lo+i)) σ H fun kY H2=>tb { D with nx:=Pv (i+1),ct:=Pv (i+1),bk:=D.nx } kY H2) (hd:∀ σ H,Pv n σ H->D.nx σ H) :
  ∃ Wq:Nat->Nat->St->Hp->Prop,(∃ m,Wq 0 m σ H)/\∀ i m σ H,Wq i m σ H ->
   ((MS lo n).stop i H/\D.nx σ H)\/((MS lo n).go i H/\∃ N:St->Hp->Prop,(∀ bf H',N bf H'->∃ m',m'<m/\Wq (i+1) m' bf H')/\∀ x H',(MS lo n).MQ i H x H'->g x σ H' fun kY H2=>tb { D with nx:=N,ct:=N,bk:=D.nx } kY H2):=by
 refine⟨fun i m σ H=>m=n - i/\i<=n/\Pv i σ H,⟨n,by simp,Nat.zero_le _,h0⟩,?_⟩
 rintro i m σ H ⟨rfl,hi,p⟩
 by_cases c_:i<n
 ·refine .inr ⟨c_,Pv (i+1),fun bf H' p'=>⟨n - (i+1),by omega,rfl,c_,p'⟩,fun x H' y=>?_⟩
  obtain⟨e,y⟩:=y
  subst e y
  exact hs i σ _ c_ p
 ·have e:i=n:=by omega
  subst e
  exact .inl ⟨Nat.le_refl _,hd σ H p⟩
theorem yK{c:TT}{tb:TS}{D:Ends}{σ:St}{H:Hp}(Pv:St->Hp->Prop)(μ:St->Hp->Nat)(h0:Pv σ H)
  (hs:∀ σ H,Pv σ H->c σ H fun b H1=>if b=true then tb { D with nx:=fun bf H'=>Pv bf H'/\μ bf H'<μ σ H,ct:=fun bf H'=>Pv bf H'/\μ bf H'<μ σ H,bk:=D.nx } σ H1 else D.nx σ H1)
  (mono:∀ σ H Q Q',(∀ b H1,Q b H1->Q' b H1)->c σ H Q->c σ H Q'):Gm c tb D σ H:=by
 refine⟨fun m σ H=>m=μ σ H/\Pv σ H,⟨_,rfl,h0⟩,?_⟩
 rintro m σ H ⟨rfl,p⟩
 refine mono σ H _ _ (fun b H1 q=>?_) (hs σ H p)
 cases b with
 | true=>exact⟨_,fun bf H' ⟨p',l⟩=>⟨_,l,rfl,p'⟩,q⟩
 | false=>exact q
abbrev R2:=V->V->Hp->VK->Prop
def pV(X:Cx)(f:Value->Value->Sem Value)(r:R2):Prop :=
 ∀ (pins:List (Addr×Obj)) (s:Shared) (σ:St) (H:Hp) (x y:V) (v u:Value) (Q:VK),Inv X pins σ H s->RelV x v->RelV y u->r x y H Q ->
  wpAny (model X.prog X.w) X.A (f v u) (EP X pins σ Q) X.xe s
def WW(X:Cx)(f:Value->Sem Value)(r:V->Hp->VK->Prop):Prop :=
 ∀ (pins:List (Addr×Obj)) (s:Shared) (σ:St) (H:Hp) (x:V) (v:Value) (Q:VK),Inv X pins σ H s->RelV x v->r x H Q ->
  wpAny (model X.prog X.w) X.A (f v) (EP X pins σ Q) X.xe s
def g9(X:Cx)(f:Value)(r:List V->Hp->VK->Prop):Prop :=
 ∀ (pins:List (Addr×Obj)) (s:Shared) (σ:St) (H:Hp) (xs:List V) (us:List Value) (Q:VK),Inv X pins σ H s->Vals xs us->r xs H Q ->
  wpAny (model X.prog X.w) X.A (call f us) (EP X pins σ Q) X.xe s
def WX(X:Cx)(r:V->Hp->(Bool->Hp->Prop)->Prop):Prop :=
 ∀ (pins:List (Addr×Obj)) (s:Shared) (σ:St) (H:Hp) (x:V) (v:Value) (Q:Bool->Hp->Prop),Inv X pins σ H s->RelV x v->r x H Q ->
  wpAny (model X.prog X.w) X.A (truthy v) (TP X pins σ Q) X.xe s
def MT(r:R2)(ta tb:TE):TE:=fun σ H Q=>ta σ H fun x H1=>tb σ H1 fun y H2=>r x y H2 Q
def tUn(r:V->Hp->VK->Prop)(ta:TE):TE:=fun σ H Q=>ta σ H fun x H1=>r x H1 Q
def rI(C:Int->Int->Prop)(g:Int->Int->V):R2:=fun x y H Q=>∃ i j,x=.int i/\y=.int j/\C i j/\Q (g i j) H
def MU(g:Int->Int->V):R2:=fun x y H Q=>∃ i j,x=.int i/\y=.int j/\Q (g i j) H
def rU(g:Int->V):V->Hp->VK->Prop:=fun x H Q=>∃ i,x=.int i/\Q (g i) H
section
variable{X:Cx}{a b c:Expr}{ta tb tc:TE}{pos:Pos}
theorem N2(ha:PE X a ta)(hb:PE X b tb){pins:List (Addr×Obj)}{s:Shared}{σ:St}{H:Hp}{R:V->V->Hp->Prop}(I:Inv X pins σ H s)
  (h:ta σ H fun x H1=>tb σ H1 fun y H2=>R x y H2) {Q:Value->Shared->Prop} {f:Value->Value->Sem Value}
  (hf:∀ v u s2 x y H2,Inv X pins σ H2 s2->RelV x v->RelV y u->R x y H2->wpAny (model X.prog X.w) X.A (f v u) Q X.xe s2) :
  wpAny (model X.prog X.w) X.A (eval a X.env) (fun v bq=>wpAny (model X.prog X.w) X.A (eval b X.env) (fun u kJ=>wpAny (model X.prog X.w) X.A (f v u) Q X.xe kJ) X.xe bq) X.xe s:=by
 refine bg (ha pins s σ H _ I h) fun v s1 ⟨x,H1,I1,r1,q1⟩=>?_
 refine bg (hb pins s1 σ H1 _ I1 q1) fun u s2 ⟨y,H2,I2,r2,q2⟩=>?_
 exact hf v u s2 x y H2 I2 r1 r2 q2
theorem bb{op:Operator}{r:R2}(ho:pV X (binaryOp op) r)(ha:PE X a ta)(hb:PE X b tb):PE X (.BinOp a op b pos) (MT r ta tb):=by
 intro pins s σ H Q I h
 exact wpAny_BinOp (N2 ha hb I h fun v u s2 x y H2 I2 rx ry q=>ho pins s2 σ H2 x y v u Q I2 rx ry q)
theorem MV{op:UnaryOp}{r:V->Hp->VK->Prop}(ho:WW X (unaryOp op) r)(ha:PE X a ta):PE X (.UnaryOp op a pos) (tUn r ta):=by
 intro pins s σ H Q I h
 exact UnaryOp_ (bg (ha pins s σ H _ I h) fun v s1 ⟨x,H1,I1,r1,q1⟩=>ho pins s1 σ H1 x v Q I1 r1 q1)
theorem VZ{f:Value->Value->Sem Value}{C:Int->Int->Prop}{g:Int->Int->Int}
  (rule:∀ (i j:Int) (t u:Tok) (s:Shared) (Q:Value->Shared->Prop) (E:Value->Shared->Prop),C i j->Q (.int (g i j) s.toks) { s with toks:=s.toks+1 }->wpAny (model X.prog X.w) X.A (f (.int i t) (.int j u)) Q E s) :
  pV X f (rI C fun i j=>.int (g i j)):=by
 intro pins s σ H x y v u Q I rx ry h
 obtain⟨i,j,rfl,rfl,hc,q⟩:=h
 obtain⟨t,rfl⟩:=rx
 obtain⟨t',rfl⟩:=ry
 exact rule i j t t' s _ _ hc ⟨.int (g i j),H,I.tok _,⟨_,rfl⟩,q⟩
theorem Sr{f:Value->Value->Sem Value}{g:Int->Int->Int}
  (rule:∀ (i j:Int) (t u:Tok) (s:Shared) (Q:Value->Shared->Prop) (E:Value->Shared->Prop),Q (.int (g i j) s.toks) { s with toks:=s.toks+1 }->wpAny (model X.prog X.w) X.A (f (.int i t) (.int j u)) Q E s) :
  pV X f (MU fun i j=>.int (g i j)):=by
 intro pins s σ H x y v u Q I rx ry h
 obtain⟨i,j,rfl,rfl,q⟩:=h
 obtain⟨t,rfl⟩:=rx
 obtain⟨t',rfl⟩:=ry
 exact rule i j t t' s _ _ ⟨.int (g i j),H,I.tok _,⟨_,rfl⟩,q⟩
theorem KG{f:Value->Value->Sem Value}{g:Int->Int->Bool}
  (rule:∀ (i j:Int) (t u:Tok) (s:Shared) (Q:Value->Shared->Prop) (E:Value->Shared->Prop),Q (.bool (g i j)) s->wpAny (model X.prog X.w) X.A (f (.int i t) (.int j u)) Q E s) :
  pV X f (MU fun i j=>.bl (g i j)):=by
 intro pins s σ H x y v u Q I rx ry h
 obtain⟨i,j,rfl,rfl,q⟩:=h
 obtain⟨t,rfl⟩:=rx
 obtain⟨t',rfl⟩:=ry
 exact rule i j t t' s _ _ ⟨.bl (g i j),H,I,rfl,q⟩
def WY(i j:Int):Prop:=0<j/\j<1073741824
def WZ(i j:Int):Prop:=0<=j/\j<=1000000/\i.natAbs<2 ^ 64
def N3(i j:Int):Prop:=(-(2 ^ 64)<i/\i<2 ^ 64)\/(-(2 ^ 64)<j/\j<2 ^ 64)
theorem N3.ok{i j:Int}(h:N3 i j):IntMulOk i j:=by
 rcases h with ⟨h1,h2⟩ | ⟨h1,h2⟩
 ·exact .of_left (intBits_le_64 h1 h2)
 ·exact .of_right (intBits_le_64 h1 h2)
theorem i0:pV X (binaryOp .Add) (MU fun i j=>.int (i+j)):=Sr fun _ _ _ _ _ _ _ q=>add_int q
theorem AM:pV X (binaryOp .Sub) (MU fun i j=>.int (i - j)):=Sr fun _ _ _ _ _ _ _ q=>sub_int q
theorem qb:pV X (binaryOp .Mult) (rI N3 fun i j=>.int (i*j)):=VZ fun _ _ _ _ _ _ _ hc q=>mul_int q hc.ok
theorem CZ:pV X (binaryOp .FloorDiv) (rI WY fun i j=>.int (i / j)):=VZ fun i j _ _ _ _ _ hc q=>by
 have h1:(0:Int)<j:=hc.1
 have h2:j<1073741824:=hc.2
 exact floordiv_int (by omega) (by rw[Int.fdiv_eq_ediv_of_nonneg i (by omega)];exact q) (.inl (PyProof.noPylong_small (by omega)))
theorem k7:pV X (binaryOp .Mod) (rI (fun _ j=>0<j) fun i j=>.int (i%j)):=VZ fun i j _ _ _ _ _ hc q=>by
 have h1:(0:Int)<j:=hc
 exact mod_int' (by omega) (by rw[Int.fmod_eq_emod_of_nonneg i (by omega)];exact q)
theorem Gq:pV X (binaryOp .Pow) (rI WZ fun i j=>.int (i ^ j.toNat)):=VZ fun _ _ _ _ _ _ _ hc q=>pow_int_small hc.1 hc.2.1 hc.2.2 q
theorem unI{f:Value->Sem Value}{g:Int->Int}
  (rule:∀ (i:Int) (t:Tok) (s:Shared) (Q:Value->Shared->Prop) (E:Value->Shared->Prop),Q (.int (g i) s.toks) { s with toks:=s.toks+1 }->wpAny (model X.prog X.w) X.A (f (.int i t)) Q E s) :
  WW X f (rU fun i=>.int (g i)):=by
 intro pins s σ H x v Q I rx h
 obtain⟨i,rfl,q⟩:=h
 obtain⟨t,rfl⟩:=rx
 exact rule i t s _ _ ⟨.int (g i),H,I.tok _,⟨_,rfl⟩,q⟩
theorem Gr:WW X (unaryOp .USub) (rU fun i=>.int (-i)):=unI fun _ _ _ _ _ q=>neg_int q
end
def Ss:V->V->Bool
 | .bY,.bY=>true | .bY,.int _=>true | .int _,.bY=>true | .bY,.bl _=>true | .bl _,.bY=>true | .bY,.str _=>true | .str _,.bY=>true
 | .int _,.int _=>true | .bl _,.bl _=>true | .str _,.str _=>true | .AH _,.AH _=>true
 | .int _,.str _=>true | .str _,.int _=>true | .bl _,.str _=>true | .str _,.bl _=>true
 | _,_=>false
def W0:R2:=fun x y H Q=>Ss x y=true/\Q (.bl (decide (x=y))) H
def rNe:R2:=fun x y H Q=>Ss x y=true/\Q (.bl (!decide (x=y))) H
theorem C1{i j:Int}:decide (V.int i=V.int j)=(i == j):=by
 rw[Bool.eq_iff_iff]
 simp
theorem Gs{i j:Bool}:decide (V.bl i=V.bl j)=(i == j):=by
 rw[Bool.eq_iff_iff]
 simp
theorem C2{i j:Str}:decide (V.str i=V.str j)=(i == j):=by
 rw[Bool.eq_iff_iff]
 simp
theorem C3{i j:Array UInt8}:decide (V.AH i=V.AH j)=(i.toList == j.toList):=by
 rw[Bool.eq_iff_iff]
 cases i
 cases j
 simp
section
variable{X:Cx}{a b c:Expr}{ta tb tc:TE}{pos:Pos}
theorem bA{pins:List (Addr×Obj)}{σ:St}{H:Hp}{s:Shared}{Q:VK}{k k':Bool}(I:Inv X pins σ H s)(q:Q (.bl k) H)(e:k=k'):EP X pins σ Q (.bool k') s:=by
 subst e
 exact⟨.bl k,H,I,rfl,q⟩
theorem dH:pV X (compareOp .Eq) W0:=by
 intro pins s σ H x y v u Q I rx ry h
 obtain⟨hs,q⟩:=h
 cases x with
 | bY =>
  cases rx
  cases y with
  | bY=>cases ry;exact PySem.EqNone.eq_none_none (bA I q (by simp))
  | bl j=>cases ry;exact PySem.EqNone.eq_none_bool (bA I q (by simp))
  | int j=>obtain⟨t',rfl⟩:=ry;exact PySem.EqNone.eq_none_int (bA I q (by simp))
  | str j=>obtain⟨t',rfl⟩:=ry;exact PySem.EqNone.eq_none_str (bA I q (by simp))
  | _=>exact absurd (show false=true from hs) Bool.false_ne_true
 | bl i =>
  cases rx
  cases y with
  | bY=>cases ry;exact PySem.EqNone.eq_bool_none (bA I q (by simp))
  | bl j=>cases ry;exact eq_bool (bA I q Gs)
  | str j=>obtain⟨t',rfl⟩:=ry;exact PySem.EqMixed.eq_bool_str (bA I q (by simp))
  | _=>exact absurd (show false=true from hs) Bool.false_ne_true
 | int i =>
  obtain⟨t,rfl⟩:=rx
  cases y with
  | bY=>cases ry;exact PySem.EqNone.eq_int_none (bA I q (by simp))
  | int j=>obtain⟨t',rfl⟩:=ry;exact eq_int (bA I q C1)
  | str j=>obtain⟨t',rfl⟩:=ry;exact PySem.EqMixed.eq_int_str (bA I q (by simp))
  | _=>exact absurd (show false=true from hs) Bool.false_ne_true
 | str i =>
  obtain⟨t,rfl⟩:=rx
  cases y with
  | bY=>cases ry;exact PySem.EqNone.eq_str_none (bA I q (by simp))
  | bl j=>cases ry;exact PySem.EqMixed.eq_str_bool (bA I q (by simp))
  | int j=>obtain⟨t',rfl⟩:=ry;exact PySem.EqMixed.eq_str_int (bA I q (by simp))
  | str j=>obtain⟨t',rfl⟩:=ry;exact eq_str (bA I q C2)
  | _=>exact absurd (show false=true from hs) Bool.false_ne_true
 | AH i =>
  obtain⟨t,rfl⟩:=rx
  cases y with
  | AH j=>obtain⟨t',rfl⟩:=ry;exact W.eq_bytes (bA I q C3)
  | _=>exact absurd (show false=true from hs) Bool.false_ne_true
 | _=>cases y<;>exact absurd (show false=true from hs) Bool.false_ne_true
theorem jK:pV X (compareOp .NotEq) rNe:=by
 intro pins s σ H x y v u Q I rx ry h
 obtain⟨hs,q⟩:=h
 cases x with
 | bY =>
  cases rx
  cases y with
  | bY=>cases ry;exact PySem.EqNone.ne_none_none (bA I q (by simp))
  | bl j=>cases ry;exact PySem.EqNone.ne_none_bool (bA I q (by simp))
  | int j=>obtain⟨t',rfl⟩:=ry;exact PySem.EqNone.ne_none_int (bA I q (by simp))
  | str j=>obtain⟨t',rfl⟩:=ry;exact PySem.EqNone.ne_none_str (bA I q (by simp))
  | _=>exact absurd (show false=true from hs) Bool.false_ne_true
 | bl i =>
  cases rx
  cases y with
  | bY=>cases ry;exact PySem.EqNone.ne_bool_none (bA I q (by simp))
  | bl j=>cases ry;exact ne_bool (bA I q (congrArg not Gs))
  | str j=>obtain⟨t',rfl⟩:=ry;exact PySem.EqMixed.ne_bool_str (bA I q (by simp))
  | _=>exact absurd (show false=true from hs) Bool.false_ne_true
 | int i =>
  obtain⟨t,rfl⟩:=rx
  cases y with
  | bY=>cases ry;exact PySem.EqNone.ne_int_none (bA I q (by simp))
  | int j=>obtain⟨t',rfl⟩:=ry;exact ne_int (bA I q (congrArg not C1))
  | str j=>obtain⟨t',rfl⟩:=ry;exact PySem.EqMixed.ne_int_str (bA I q (by simp))
  | _=>exact absurd (show false=true from hs) Bool.false_ne_true
 | str i =>
  obtain⟨t,rfl⟩:=rx
  cases y with
  | bY=>cases ry;exact PySem.EqNone.ne_str_none (bA I q (by simp))
  | bl j=>cases ry;exact PySem.EqMixed.ne_str_bool (bA I q (by simp))
  | int j=>obtain⟨t',rfl⟩:=ry;exact PySem.EqMixed.ne_str_int (bA I q (by simp))
  | str j=>obtain⟨t',rfl⟩:=ry;exact ne_str (bA I q (congrArg not C2))
  | _=>exact absurd (show false=true from hs) Bool.false_ne_true
 | AH i =>
  obtain⟨t,rfl⟩:=rx
  cases y with
  | AH j=>obtain⟨t',rfl⟩:=ry;exact W.ne_bytes (bA I q (congrArg not C3))
  | _=>exact absurd (show false=true from hs) Bool.false_ne_true
 | _=>cases y<;>exact absurd (show false=true from hs) Bool.false_ne_true
theorem qQ:pV X (compareOp .Lt) (MU fun i j=>.bl (decide (i<j))):=KG fun _ _ _ _ _ _ _ q=>lt_int q
theorem Gu:pV X (compareOp .LtE) (MU fun i j=>.bl (decide (i<=j))):=KG fun _ _ _ _ _ _ _ q=>le_int q
theorem C4:pV X (compareOp .Gt) (MU fun i j=>.bl (decide (j<i))):=KG fun _ _ _ _ _ _ _ q=>gt_int q
theorem MW:pV X (compareOp .GtE) (MU fun i j=>.bl (decide (j<=i))):=KG fun _ _ _ _ _ _ _ q=>ge_int q
theorem lV:pV X (compareOp .In) (fun x y H Q=>∃ i j,x=.str i/\y=.str j/\Q (.bl (!(Builtin.Str.occurrences j i 0 j.length 1).isEmpty)) H):=by
 intro pins s σ H x y v u Q I rx ry h
 obtain⟨i,j,rfl,rfl,q⟩:=h
 obtain⟨t,rfl⟩:=rx
 obtain⟨t',rfl⟩:=ry
 exact in_str (bA I q rfl)
theorem aN(b:Expr){op:CmpOp}(h:op≠.In:=by decide)(h2:op≠.NotIn:=by decide):behindInMarks op b=false:=by
 have e1:(op == CmpOp.In)=false:=by cases op<;>first | rfl | exact absurd rfl h
 have e2:(op == CmpOp.NotIn)=false:=by cases op<;>first | rfl | exact absurd rfl h2
 cases b<;>simp [behindInMarks,e1,e2]
theorem gE{op:CmpOp}{r:R2}(ho:pV X (compareOp op) r)(ha:PE X a ta)(hb:PE X b tb)(hm:behindInMarks op b=false):PE X (.Compare a [op] [b] pos) (MT r ta tb):=by
 intro pins s σ H Q I h
 exact wpAny_Compare1 (N2 ha hb I h fun v u s2 x y H2 I2 rx ry q=>ho pins s2 σ H2 x y v u Q I2 rx ry q) hm
def C5(t:TE):TT:=fun σ H Q=>t σ H fun x H'=>∃ k,x=.bl k/\Q k H'
theorem aG{op:CmpOp}{r:R2}(ho:pV X (compareOp op) r)(ha:PE X a ta)(hb:PE X b tb)(hm:behindInMarks op b=false):PT X (.Compare a [op] [b] pos) (C5 (MT r ta tb)):=by
 intro pins s σ H Q I h
 refine wpAny_isTrue_Compare1 (bg (ha pins s σ H _ I h) fun v s1 ⟨x,H1,I1,r1,q1⟩=>bg (hb pins s1 σ H1 _ I1 q1) fun u s2 ⟨y,H2,I2,r2,q2⟩ =>
  bg (ho pins s2 σ H2 x y v u _ I2 r1 r2 q2) fun c s3 ⟨z,H3,I3,r3,k,e,q3⟩=>?_) hm
 subst e
 cases r3
 exact wpAny_truthy_bool ⟨H3,I3,q3⟩
def N4(r r':R2)(ta tb tc:TE):TE:=fun σ H Q=>ta σ H fun x H1=>tb σ H1 fun y H2=>r x y H2 fun z H3=>∃ k,z=.bl k /\
 (if k=true then tc σ H3 fun w' H4=>r' y w' H4 Q else Q (.bl false) H3)
theorem Gv{op W2:CmpOp}{r r':R2}(ho:pV X (compareOp op) r)(tu:pV X (compareOp W2) r')(ha:PE X a ta)(hb:PE X b tb)(hc:PE X c tc)
  (hm:lastMarks [op,W2] [b,c]=false:=by with_unfolding_all rfl):PE X (.Compare a [op,W2] [b,c] pos) (N4 r r' ta tb tc):=by
 intro pins s σ H Q I h
 refine Compare_chain (bg (ha pins s σ H _ I h) fun v s1 ⟨x,H1,I1,r1,q1⟩=>chain_link (bg (hb pins s1 σ H1 _ I1 q1) fun u s2 ⟨y,H2,I2,r2,q2⟩ =>
  bg (ho pins s2 σ H2 x y v u _ I2 r1 r2 q2) fun d s3 ⟨z,H3,I3,r3,k,e,q3⟩=>?_)) hm
 subst e
 cases r3
 refine wpAny_truthy_bool ?_
 cases k with
 | false=>exact ite_ff ⟨.bl false,H3,I3,rfl,q3⟩
 | true=>exact ite_tt (chain_last (bg (hc pins s3 σ H3 _ I3 q3) fun w' s4 ⟨z',H4,I4,r4,q4⟩=>tu pins s4 σ H4 y z' u w' Q I4 r2 r4 q4))
def Su(K:W.Frag)(x:V)(H:Hp)(k:Bool):Prop :=
 match x with
 | .bY=>k=false
 | .bl b=>k=b
 | .int i=>k=(i != 0)
 | .str y=>y.length<=sizeLine/\k=((y.length:Int) != 0)
 | .AH y=>y.size<=sizeLine/\k=((y.size:Int) != 0)
 | .ref p=>(∃ xs,bx K H p xs/\k=!xs.isEmpty)\/(∃ xs,bV K H p xs/\k=!xs.isEmpty)\/∃ aJ,H p=some (.dK aJ)/\k=!aJ.isEmpty
 | _=>False
theorem AN{κ:Type}{aJ:List (κ×V)}{vs:List (κ×Value)}(r:KV aJ vs):(!vs.isEmpty)=!aJ.isEmpty:=by
 cases r<;>rfl
theorem tO{xs:List V}{its:List Value}(r:Vals xs its):(!its.toArray.isEmpty)=!xs.isEmpty:=by
 cases r<;>simp
theorem nu:(sizeLine:Nat)<2 ^ 63:=by rw[sizeLine_eq];decide
theorem N5:WX X (fun x H Q=>∃ k,Su X.K x H k/\Q k H):=by
 intro pins s σ H x v Q I rx h
 obtain⟨k,e,q⟩:=h
 have hl:=nu
 have hs:sizeLine=16777216:=sizeLine_eq
 cases x with
 | bY =>
  cases rx
  have e':k=false:=e
  subst e'
  exact truthy_none ⟨H,I,q⟩
 | bl b =>
  cases rx
  have e':k=b:=e
  subst e'
  exact wpAny_truthy_bool ⟨H,I,q⟩
 | int i =>
  obtain⟨t,rfl⟩:=rx
  have e':k=(i != 0):=e
  subst e'
  exact PySem.P.truthy_int ⟨H,I,q⟩
 | str y =>
  obtain⟨t,rfl⟩:=rx
  obtain⟨hy,e'⟩:y.length<=sizeLine/\k=((y.length:Int) != 0):=e
  subst e'
  exact PySem.P.truthy_str (by omega) ⟨H,I.tok _,q⟩
 | AH y =>
  obtain⟨t,rfl⟩:=rx
  obtain⟨hy,e'⟩:y.size<=sizeLine/\k=((y.size:Int) != 0):=e
  subst e'
  exact W.truthy_bytes (by omega) ⟨H,I.tok _,q⟩
 | ref p =>
  cases rx
  have e':(∃ xs,bx X.K H p xs/\k=!xs.isEmpty)\/(∃ xs,bV X.K H p xs/\k=!xs.isEmpty)\/∃ aJ,H p=some (.dK aJ)/\k=!aJ.isEmpty:=e
  rcases e' with ⟨xs,hx,e'⟩ | ⟨xs,hx,e'⟩ | ⟨aJ,hx,e'⟩
  ·subst e'
   obtain⟨its,r,pl,hz⟩:=I.list hx
   have hlen:=r.length
   exact wpAny_truthy_list pl.isList (by simp only[List.size_toArray];omega) ⟨H,I.tok _,by rw[tO r];exact q⟩
  ·subst e'
   obtain⟨its,r,pl,hz⟩:=I.tuple hx
   have hlen:=r.length
   exact truthy_tuple pl (by simp only[List.size_toArray];omega) ⟨H,I.tok _,by rw[tO r];exact q⟩
  ·subst e'
   obtain⟨hz,hS,vs,r,m⟩:aJ.length<=sizeLine/\(p == sysModules)=false/\∃ vs,KV aJ vs/\s.heap.DictOf (bW X.prog X.w) p vs:=I.a8 p _ hx
   have hlen:aJ.length=vs.length:=Paired.length r
   exact wpAny_truthy_dict hS m (by omega) ⟨H,I.tok _,by rw[AN r];exact q⟩
 | _=>exact(show False from e).elim
theorem AO:pV X (binaryOp .Add) (fun x y H Q=>∃ i j,x=.str i/\y=.str j/\i.length+j.length<=sizeLine/\Q (.str (i++j)) H):=by
 intro pins s σ H x y v u Q I rx ry h
 obtain⟨i,j,rfl,rfl,hz,q⟩:=h
 obtain⟨t,rfl⟩:=rx
 obtain⟨t',rfl⟩:=ry
 exact add_str (fun t' tk=>⟨.str (i++j),H,I.tok _,⟨_,rfl⟩,q⟩) hz
theorem vals1{x:V}{us:List Value}(r:Vals [x] us):∃ u,us=[u]/\RelV x u:=by
 cases r with
 | cons r1 r2=>cases r2;exact⟨_,rfl,r1⟩
theorem vals2{x y:V}{us:List Value}(r:Vals [x,y] us):∃ u w',us=[u,w']/\RelV x u/\RelV y w':=by
 cases r with
 | cons r1 r2 =>
  cases r2 with
  | cons r3 r4=>cases r4;exact⟨_,_,rfl,r1,r3⟩
theorem yL:g9 X (.builtin "abs") (fun xs H Q=>∃ i,xs=[.int i]/\Q (.int (if i<0 then -i else i)) H):=by
 intro pins s σ H xs us Q I r h
 obtain⟨i,rfl,q⟩:=h
 obtain⟨u,rfl,t,rfl⟩:=vals1 r
 exact call_abs_int fun u tk=>⟨.int (if i<0 then -i else i),H,I.tok _,⟨_,rfl⟩,q⟩
theorem D_(hc:X.calm=true):g9 X (.builtin "max") (fun xs H Q=>∃ i j,xs=[.int i,.int j]/\Q (.int (if j>i then j else i)) H):=by
 intro pins s σ H xs us Q I r h
 obtain⟨i,j,rfl,q⟩:=h
 obtain⟨u,w',rfl,⟨t,rfl⟩,⟨t',rfl⟩⟩:=vals2 r
 refine max_two_ints (I.ok.hd hc) fun h' tk k=>⟨_,H,I.kept k,?_,q⟩
 by_cases hj:j>i
 ·rw[if_pos hj,if_pos hj];exact⟨_,rfl⟩
 ·rw[if_neg hj,if_neg hj];exact⟨_,rfl⟩
theorem D'(hc:X.calm=true):g9 X (.builtin "min") (fun xs H Q=>∃ i j,xs=[.int i,.int j]/\Q (.int (if j<i then j else i)) H):=by
 intro pins s σ H xs us Q I r h
 obtain⟨i,j,rfl,q⟩:=h
 obtain⟨u,w',rfl,⟨t,rfl⟩,⟨t',rfl⟩⟩:=vals2 r
 refine min_two_ints (I.ok.hd hc) fun h' tk k=>⟨_,H,I.kept k,?_,q⟩
 by_cases hj:j<i
 ·rw[if_pos hj,if_pos hj];exact⟨_,rfl⟩
 ·rw[if_neg hj,if_neg hj];exact⟨_,rfl⟩
theorem wZ:g9 X (.type "str") (fun xs H Q=>∃ i,xs=[.int i]/\i.natAbs.log2<1920/\Q (.str (toString i)) H):=by
 intro pins s σ H xs us Q I r h
 obtain⟨i,rfl,hz,q⟩:=h
 obtain⟨u,rfl,t,rfl⟩:=vals1 r
 exact PySem.P.str_of_int hz ⟨.str _,H,I.tok _,⟨_,rfl⟩,q⟩
end
structure AQ(h:Heap)(x dx C:Addr)(mA:Str->Option Value):Prop where
 obj:h.get? x=some (W.instObj C dx)
 ns:h.Ns1 dx mA
 ne:dx≠x
theorem lW{h:Heap}{dx:Addr}{mA:Str->Option Value}(n:h.Ns1 dx mA):∃ od,h.get? dx=some od/\∀ name,W.lookIn name od=some (mA name):=by
 obtain⟨o,es,ep,ho,hd,hk,_,hm⟩:=n
 refine⟨o,ho,fun name=>?_⟩
 have e:=hm name
 unfold nsFind findBy at e
 rw[<- Array.find?_toList] at e
 unfold W.lookIn
 rw[hd]
 dsimp only
 split
 ·rename_i y q
  rw[q] at e
  exact congrArg some e
 ·rename_i q
  rw[q] at e
  have a:es.toList.any (·.refKey)=false:=by
   rw[List.any_eq_false]
   intro y hy
   obtain⟨z,t,W3⟩:=hk y (Array.mem_toList_iff.mp hy)
   simp [DictEntry.refKey,W3]
  have a':¬ es.toList.any (·.refKey)=true:=by rw[a];exact Bool.false_ne_true
  rw[if_neg a']
  exact congrArg some e
theorem AQ.look{h:Heap}{x dx C:Addr}{mA:Str->Option Value}(I:AQ h x dx C mA):∃ od,W.InstAt h x (W.instObj C dx) C (some od)/\∀ name,W.lookIn name od=some (mA name) :=
 let ⟨od,ho,hl⟩:=lW I.ns
 ⟨od,⟨I.obj,rfl,rfl,ho⟩,hl⟩
section
variable{prog:Program}{w:World}{A:Around}{E:Value->Shared->Prop}{s:Shared}{K:W.Frag}{x dx C f:Addr}{mA:Str->Option Value}{name:Str}{v:Value}
theorem get_map{expr:Bool}{Q:Value->Shared->Prop}(X:K.In s.heap)(I:AQ s.heap x dx C mA)(hg:W.plainGet K C name=true)(hh:W.hasDictIn K C=true)
  (ha:W.findIn K (.ref C) name=some none) (hv:mA name=some v) (Gw:W.handedIn v=true) (h:Q v { s with toks:=s.toks+1 }) :
  wpAny (model prog w) A (getAttr (.ref x) name expr) Q E s:=by
 obtain⟨od,J,hl⟩:=I.look
 exact W.get_value X J (W.plainGet_of hg).1 (W.findObj_own hh ha rfl (by rw[hl,hv])) Gw h
theorem Gx{pl:Sem Bool}{Q:Value×List Value->Shared->Prop}(X:K.In s.heap)(I:AQ s.heap x dx C mA)(hg:W.plainGet K C name=true)
  (hf:W.findIn K (.ref C) name=some (some (.ref f))) (ht:W.isFn K (.ref f)=true) (hv:mA name=none) (h:Q (.ref f,[.ref x]) s) :
  wpAny (model prog w) A (getMethod (.ref x) name pl) Q E s:=by
 obtain⟨od,J,hl⟩:=I.look
 exact W.method_fn X J (W.plainGet_of hg).1 (W.plainGet_of hg).2 hf (beq_iff_eq.mp ht) (by show(W.lookIn name od).map (·.isSome)=some false;rw[hl,hv];rfl) h
theorem KH{ns:List Str}{Q:Unit->Shared->Prop}(X:K.In s.heap)(I:AQ s.heap x dx C mA)
  (hs:W.findIn K (.ref C) "__setattr__" = some (some (.builtin "object.__setattr__"))) (hp:W.plainOver K C=true) (ht:W.takerIn K C name=some none) (hh:W.hasDictIn K C=true)
  (hw:PySem.Within mA ns) (hsz:ns.length<=sizeLine)
  (h:∀ h',AQ h' x dx C (fun y=>if y=name then some v else mA y)->Heap.SameBut dx s.heap h'->Q () { s with heap:=h',toks:=s.toks+2 }) :
  wpAny (model prog w) A (setAttr (.ref x) name v) Q E s:=by
 obtain⟨od,J,hl⟩:=I.look
 refine W.set_plain X J hs (W.osa_open (s:={ s with toks:=s.toks+1 }) (r:=none) X J hp ht fun b=>?_)
 obtain⟨cd,hc,Kt⟩:=W.any_some hh
 have hx:s.heap.get? x=some ⟨.ref C,some dx,.plain,#[]⟩:=I.obj
 refine wpAny_bind (wpAny_pure (wpAny_bind (wpAny_bind (wpAny_loadPart hx (wpAny_bind (W.Looks.here (s:={ s with toks:=s.toks+1 }) (W.looks_clsIn X hc) ?_))))))
 rw[Kt]
 refine wpAny_pure (a:=some dx) (wpAny_bind (wpAny_pure (wpAny_bind ?_)))
 refine wpAny_nsSet1 (s:={ s with toks:=s.toks+1 }) I.ns fun h' V0 F3=>?_
 obtain⟨oD,esD,epD,W4,RJ,Gy⟩:=V0.count (PySem.Within.cons name v hw)
 refine wpAny_bind (wpAny_lookBehind W4 (by rw[RJ];exact pastItsLine_dict (Nat.le_trans Gy (by rw[List.length_cons];omega))) ?_)
 exact wpAny_pure (h _ ⟨(F3.2 _ (Ne.symm I.ne)).trans I.obj,V0,I.ne⟩ F3)
theorem Gz{R:Result->Shared->Prop}{vs:List Value}{kw:List (Str×Value)}(X:K.In s.heap)(hm:W.makesIn K C=true)
  (hi:W.findIn K (.ref C) "__init__" = some (some (.ref f))) (hf:W.typeIn K (.ref f)=some (.type "function"))
  (h:codeAny (model prog w) (A.under (.builtin "type.__call__" ⟨.ref C::vs,kw⟩)) (.call (.ref f) ⟨.ref (s.heap.objs.size+1)::vs,kw⟩) (W.InitBack (s.heap.objs.size+1) R)
   { s with heap:=(s.heap.push W.emptyDict).push (W.instObj C s.heap.objs.size) }) :
  codeAny (model prog w) A (.call (.ref C) ⟨vs,kw⟩) R s:=by
 obtain⟨hh,g,d,t,os⟩:=s
 exact W.make_core (W.makes_of X hm) (W.looks_findIn X hi) (fun self=>W.bind_fn X self hf) (.inl rfl) h
end
def kM(f:Str)(v:V):List (Str×V)->List (Str×V)
 | []=>[(f,v)]
 | (g,x)::r=>if g=f then (g,v)::r else (g,x)::kM f v r
theorem qR(f g:Str)(v:V):∀ fs:List (Str×V),(kM f v fs).lookup g=if g=f then some v else fs.lookup g
 | []=>by
  show List.lookup g [(f,v)]=_
  by_cases h:g=f
  ·have hb:(g == f)=true:=beq_iff_eq.mpr h
   simp only[List.lookup,hb,if_pos h]
  ·have hb:(g == f)=false:=beq_eq_false_iff_ne.mpr h
   simp only[List.lookup,hb,if_neg h]
 | (k,x)::r=>by
  have ih:=qR f g v r
  rw[show kM f v ((k,x)::r)=(if k=f then (k,v)::r else (k,x)::kM f v r) from rfl]
  by_cases hk:k=f
  ·rw[if_pos hk]
   by_cases h:g=k
   ·have hb:(g == k)=true:=beq_iff_eq.mpr h
    simp only[List.lookup,hb,if_pos (h.trans hk)]
   ·have hb:(g == k)=false:=beq_eq_false_iff_ne.mpr h
    simp only[List.lookup,hb,if_neg (fun e:g=f=>h (e.trans hk.symm))]
  ·rw[if_neg hk]
   by_cases h:g=k
   ·have hb:(g == k)=true:=beq_iff_eq.mpr h
    simp only[List.lookup,hb,if_neg (fun e:g=f=>hk (h.symm.trans e))]
   ·have hb:(g == k)=false:=beq_eq_false_iff_ne.mpr h
    simp only[List.lookup,hb]
    exact ih
theorem qc(f:Str)(v:V):∀ fs:List (Str×V),f∈(kM f v fs).map (·.1)/\∀ g,g∈fs.map (·.1)->g∈(kM f v fs).map (·.1)
 | []=>⟨by simp [kM],fun g h=>by simp at h⟩
 | (k,x)::r=>by
  obtain⟨i1,i2⟩:=qc f v r
  rw[show kM f v ((k,x)::r)=(if k=f then (k,v)::r else (k,x)::kM f v r) from rfl]
  by_cases hk:k=f
  ·rw[if_pos hk]
   subst hk
   exact⟨by simp,fun g h=>by simpa using h⟩
  ·rw[if_neg hk]
   refine⟨?_,fun g h=>?_⟩
   ·rw[List.map_cons]
    exact List.mem_cons_of_mem _ i1
   ·rw[List.map_cons] at h ⊢
    rcases List.mem_cons.mp h with e | e
    ·exact List.mem_cons.mpr (.inl e)
    ·exact List.mem_cons_of_mem _ (i2 g e)
theorem qS(f:Str)(v:V):∀ fs:List (Str×V),(kM f v fs).length<=fs.length+1
 | []=>by simp [kM]
 | (k,x)::r=>by
  have ih:=qS f v r
  rw[show kM f v ((k,x)::r)=(if k=f then (k,v)::r else (k,x)::kM f v r) from rfl]
  by_cases hk:k=f
  ·rw[if_pos hk,List.length_cons,List.length_cons];omega
  ·rw[if_neg hk,List.length_cons,List.length_cons];omega
theorem j5.some_of{v:V}{o:Option Value}(r:j5 (some v) o):∃ u,o=some u/\RelV v u:=by
 cases o with
 | none=>exact(show False from r).elim
 | some u=>exact⟨u,rfl,r⟩
theorem j5.none_of{o:Option Value}(r:j5 none o):o=none:=by
 cases o with
 | none=>rfl
 | some u=>exact(show False from r).elim
theorem v_{v:V}{u:Value}(r:RelV v u):W.handedIn u=true:=by
 cases v with
 | bY=>cases(show u=Value.none from r);rfl
 | bl b=>cases(show u=Value.bool b from r);rfl
 | int i=>obtain⟨t,e⟩:=(show ∃ t,u=Value.int i t from r);cases e;rfl
 | str x=>obtain⟨t,e⟩:=(show ∃ t,u=Value.str x t from r);cases e;rfl
 | AH b=>obtain⟨t,e⟩:=(show ∃ t,u=Value.bytes b t from r);cases e;rfl
 | MI b=>obtain⟨t,e⟩:=(show ∃ t,u=Value.float b t from r);cases e;rfl
 | ref a=>cases(show u=Value.ref a from r);rfl
 | ty n=>cases(show u=Value.type n from r);rfl
section
variable{P:Program}{w:World}{H H':Hp}{h h':Heap}{a C dx:Addr}{fs Kp:List (Str×V)}
theorem r_(a8:lS P w H h)(e:H a=some (.ins C dx fs)):∃ mA,AQ h a dx C mA/\(∀ f,j5 (fs.lookup f) (mA f))/\PySem.Within mA (fs.map (·.1))/\fs.length<=1000/\H dx=some (.own a):=by
 obtain⟨d,z,ne,ob,mA,n,r,q⟩:=(show bI P w H h a (.ins C dx fs) from a8 a _ e)
 exact⟨mA,⟨ob,n,ne⟩,r,q,z,d⟩
end
structure C6(K:W.Frag)(C:Addr):Prop where
 pg:W.plainGet K C Str.empty=true
 hd:W.hasDictIn K C=true
 po:W.plainOver K C=true
 sa:W.findIn K (.ref C) "__setattr__" = some (some (.builtin "object.__setattr__"))
theorem C6.get{K:W.Frag}{C:Addr}(c:C6 K C)(f:Str):W.plainGet K C f=true:=c.pg
def bB(K:W.Frag)(C:Addr)(f:Str):Prop:=W.findIn K (.ref C) f=some none
theorem bB.Sv{K:W.Frag}{C:Addr}{f:Str}(n:bB K C f):W.takerIn K C f=some none:=by
 unfold W.takerIn
 rw[show W.findIn K (.ref C) f=some none from n]
 rfl
structure Meth(K:W.Frag)(C:Addr)(m:Str)(f:Addr):Prop where
 at_:W.findIn K (.ref C) m=some (some (.ref f))
 fn:W.isFn K (.ref f)=true
 kp:W.keepIn K (.ref f)=true
section
variable{X:Cx}{pins:List (Addr×Obj)}{σ:St}{H:Hp}{s:Shared}{a C dx:Addr}{fs:List (Str×V)}{f:Str}{v:V}{A:Around}{E:Value->Shared->Prop}
theorem AR{b:Bool}{Q:Value->Shared->Prop}(I:Inv X pins σ H s)(e:H a=some (.ins C dx fs))(c:C6 X.K C)(n:bB X.K C f)(l:fs.lookup f=some v)
  (h:∀ u s',Inv X pins σ H s'->RelV v u->Q u s'):wpAny (model X.prog X.w) A (getAttr (.ref a) f b) Q E s:=by
 obtain⟨mA,O,r,_,_,_⟩:=r_ I.a8 e
 obtain⟨u,hu,ru⟩:=j5.some_of (v:=v) (o:=mA f) (by rw[<- l];exact r f)
 exact get_map I.jI O (c.get f) c.hd n hu (v_ ru) (h u _ (I.tok _) ru)
theorem tP{m:Str}{g:Addr}{pl:Sem Bool}{Q:Value×List Value->Shared->Prop}(I:Inv X pins σ H s)(e:H a=some (.ins C dx fs))(c:C6 X.K C)(k:Meth X.K C m g)(l:fs.lookup m=none)
  (h:Q (.ref g,[.ref a]) s):wpAny (model X.prog X.w) A (getMethod (.ref a) m pl) Q E s:=by
 obtain⟨mA,O,r,_,_,_⟩:=r_ I.a8 e
 have hn:mA m=none:=j5.none_of (by rw[<- l];exact r m)
 exact Gx I.jI O (c.get m) k.at_ k.fn hn h
theorem AS{y:V}{u:Value}{Q:Unit->Shared->Prop}(I:Inv X pins σ H s)(e:H a=some (.ins C dx fs))(c:C6 X.K C)(n:bB X.K C f)(hl:fs.length<1000)(ry:RelV y u)
  (h:∀ s',Inv X pins σ (upd H a (.ins C dx (kM f y fs))) s'->Q () s'):wpAny (model X.prog X.w) A (setAttr (.ref a) f u) Q E s:=by
 obtain⟨mA,O,r,wi,_,ho⟩:=r_ I.a8 e
 have hz:(fs.map (·.1)).length<=sizeLine:=by rw[List.length_map,sizeLine_eq];omega
 refine KH I.jI O c.sa c.po n.Sv c.hd wi hz fun h' O' sb=>h _ ?_
 have hd:∃ o,h'.get? dx=some o:=let ⟨o,_,_,e',_⟩:=O'.ns;⟨o,e'⟩
 refine I.write (x:=a) (e:=dx) (by rw[e];exact True.intro) (.inr ho) (fun b q hb z=>(sb.2 b hb).trans z) hd ?_
 refine⟨by rw[aj O.ne];exact ho,?_,O.ne,O'.obj,_,O'.ns,fun g=>?_,fun g hg=>?_⟩
 ·have:=qS f y fs;omega
 ·show j5 ((kM f y fs).lookup g) (if g=f then some u else mA g)
  rw[qR]
  by_cases q:g=f
  ·rw[if_pos q,if_pos q];exact ry
  ·rw[if_neg q,if_neg q];exact r g
 ·by_cases q:g=f
  ·rw[q];exact(qc f y fs).1
  ·refine(qc f y fs).2 g (wi g fun z=>hg ?_)
   show(if g=f then some u else mA g)=none
   rw[if_neg q];exact z
theorem Inv.made(I:Inv X pins σ H s):Inv X pins σ (upd (upd H s.heap.objs.size (.own (s.heap.objs.size+1))) (s.heap.objs.size+1) (.ins C s.heap.objs.size []))
  { s with heap:=(s.heap.push W.emptyDict).push (W.instObj C s.heap.objs.size) }:=by
 have e1:(s.heap.push W.emptyDict).get? s.heap.objs.size=some W.emptyDict:=Heap.get?_push_size s.heap rfl
 have e2:((s.heap.push W.emptyDict).push (W.instObj C s.heap.objs.size)).get? (s.heap.objs.size+1)=some (W.instObj C s.heap.objs.size):=by
  have:=Heap.get?_push_size (s.heap.push W.emptyDict) (o:=W.instObj C s.heap.objs.size) rfl
  rwa [Heap.size_push] at this
 have e3:(s.heap.push W.emptyDict).Ns s.heap.objs.size (fun _=>none):=⟨W.emptyDict,#[],_,e1,rfl,(fun e he=>absurd he (by simp)),fun _=>rfl⟩
 have I1:=I.laid (a:=s.heap.objs.size) (o:=.own (s.heap.objs.size+1)) (h':=s.heap.push W.emptyDict) (t':=s.toks) (fun b u q=>Heap.get?_push_of_some _ q) (Nat.le_refl _) ⟨_,e1⟩
 refine I1.laid (a:=s.heap.objs.size+1) (o:=.ins C s.heap.objs.size []) (t':=s.toks) (fun b u q=>Heap.get?_push_of_some _ q) (Nat.le_of_eq (Heap.size_push _ _)) ?_
 have ne:s.heap.objs.size≠s.heap.objs.size+1:=Nat.ne_of_lt (Nat.lt_succ_self _)
 refine⟨by rw[aj ne,af],Nat.zero_le _,ne,e2,fun _=>none,(Heap.Ns1.of_empty e3).at fun o q=>Heap.get?_push_of_some _ q,fun _=>True.intro,fun y hy=>absurd rfl hy⟩
theorem C7{prog:Program}{w:World}{env:Env}{e:Expr}{f:Str}{pos:Pos}{s:Shared}{Q:Value->Shared->Prop}(hb:attributeBase e f env (eval e env)=eval e env)
  (h:wpAny (model prog w) A (eval e env) (fun o bq=>wpAny (model prog w) A (getAttr o f true) Q E bq) E s):wpAny (model prog w) A (eval (.Attribute e f pos) env) Q E s :=
 Attribute_any_ h (by rw[arm_eval_Attribute,hb])
end
def N6(K:W.Frag)(ta:TE)(f:Str):TE:=fun σ H Q=>ta σ H fun x H1=>∃ a C dx fs v,x=.ref a/\H1 a=some (.ins C dx fs)/\C6 K C/\bB K C f/\fs.lookup f=some v/\Q v H1
def W5(K:W.Frag)(ta tv:TE)(f:Str):TS:=fun D σ H=>tv σ H fun y H1=>ta σ H1 fun x H2=>∃ a C dx fs,x=.ref a/\H2 a=some (.ins C dx fs)/\C6 K C/\bB K C f/\fs.length<1000 /\
 D.nx σ (upd H2 a (.ins C dx (kM f y fs)))
section
variable{X:Cx}{o e value:Expr}{f:Str}{pos pos' W6:Pos}{ta tv:TE}
theorem ar(he:PE X e ta)(hb:attributeBase e f X.env (eval e X.env)=eval e X.env):PE X (.Attribute e f pos) (N6 X.K ta f):=by
 intro pins s σ H Q I h
 refine C7 hb (bg (he pins s σ H _ I h) fun u s1 ⟨x,H1,I1,rx,a,C,dx,fs,v,ex,ea,c,n,l,q⟩=>?_)
 subst ex
 obtain rfl:u=Value.ref a:=rx
 exact AR I1 ea c n l fun u' s2 I2 ru=>⟨v,H1,I2,ru,q⟩
theorem a7(ha:PE X o ta)(hv:PE X value tv)(hs:swapsWith value (some (.Attribute o f pos')) pos.line X.env=pure false):PS X (.Assign [.Attribute o f pos'] value pos) (W5 X.K ta tv f):=by
 intro pins s σ H D I h
 refine plainObj_wpAny_Assign_Attribute (bg (hv pins s σ H _ I h) fun u s1 ⟨y,H1,I1,ry,q⟩=>bg (ha pins s1 σ H1 _ I1 q) fun ov s2 ⟨x,H2,I2,rx,a,C,dx,fs,ex,ea,c,n,l,q2⟩=>?_) hs
 subst ex
 obtain rfl:ov=Value.ref a:=rx
 exact AS I2 ea c n l ry fun s3 I3=>⟨σ,_,I3,q2⟩
end
section
variable{X:Cx}{pins:List (Addr×Obj)}{σ:St}{H:Hp}{s:Shared}{A:Around}{E:Value->Shared->Prop}{Q:Value->Shared->Prop}{c:Value}{b:Bool}
inductive dX(K:W.Frag)(H:Hp):V->Value->Prop where
 | bY:dX K H .bY (.type "NoneType")
 | bl (x:Bool):dX K H (.bl x) (.type "bool")
 | int (i:Int):dX K H (.int i) (.type "int")
 | str (x:Str):dX K H (.str x) (.type "str")
 | MI (x:UInt64):dX K H (.MI x) (.type "float")
 | lst {a:Addr} {xs:List V} (e:H a=some (.lst xs)):dX K H (.ref a) (.type "list")
 | pX {a:Addr} {o:Obj} {xs:List V} (e:H a=some (.pX o (.lst xs))):dX K H (.ref a) (.type "list")
 | tup {a:Addr} {xs:List V} (e:H a=some (.tup xs)):dX K H (.ref a) (.type "tuple")
 | dK {a:Addr} {aJ:List (Key×V)} (e:H a=some (.dK aJ)):dX K H (.ref a) (.type "dict")
 | dT {a:Addr} {aJ:List (List Key×V)} (e:H a=some (.dT aJ)):dX K H (.ref a) (.type "dict")
 | ins {a C dx:Addr} {fs:List (Str×V)} (e:H a=some (.ins C dx fs)) (cl:C6 K C) (ha:W.findIn K (.ref C) "__class__" = some (some (.builtin "object.__class__")))
   (hn:W.specialIn K (.builtin "object.__class__") "__get__" = some (some (.builtin "getset_descriptor.__get__"))) (htk:W.takesIn K (.builtin "object.__class__")=some true)
   (hm:W.mroIn K C (.type "object")=some true):dX K H (.ref a) (.ref C)
theorem Ea{x:V}{u t:Value}(I:Inv X pins σ H s)(rx:RelV x u)(ty:dX X.K H x t)(e:W.kitOne X.K t c=some b)(h:∀ tk,Q (.bool b) { s with toks:=tk }) :
  wpAny (model X.prog X.w) A (call (.builtin "isinstance") [u,c]) Q E s:=by
 cases ty with
 | bY=>cases(show u=Value.none from rx);exact W.kia_one W.kitx_none I.jI True.intro e (fun z=>nomatch z) h
 | bl y=>cases(show u=Value.bool y from rx);exact W.kia_one W.kitx_bool I.jI True.intro e (fun z=>nomatch z) h
 | int i=>obtain⟨t,q⟩:=(show ∃ t,u=Value.int i t from rx);cases q;exact W.kia_one W.kitx_int I.jI True.intro e (fun z=>nomatch z) h
 | str y=>obtain⟨t,q⟩:=(show ∃ t,u=Value.str y t from rx);cases q;exact W.kia_one W.kitx_str I.jI True.intro e (fun z=>nomatch z) h
 | MI y=>obtain⟨t,q⟩:=(show ∃ t,u=Value.float y t from rx);cases q;exact W.kia_one W.kitx_float I.jI True.intro e (fun z=>nomatch z) h
 | @lst a xs ea =>
  cases(show u=Value.ref a from rx)
  obtain⟨_,_,n,_,h1⟩:=(show bI X.prog X.w H s.heap a (.lst xs) from I.a8 a _ ea)
  exact W.kia_one W.kitx_list I.jI ⟨_,h1,rfl⟩ e (fun z=>nomatch z) h
 | @pX a ob xs ea =>
  cases(show u=Value.ref a from rx)
  obtain⟨_,_,_,n,_,h1⟩:=(show bI X.prog X.w H s.heap a (.pX ob (.lst xs)) from I.a8 a _ ea)
  exact W.kia_one W.kitx_list I.jI ⟨_,h1,rfl⟩ e (fun z=>nomatch z) h
 | @tup a xs ea =>
  cases(show u=Value.ref a from rx)
  obtain⟨_,_,_,p⟩:=(show bI X.prog X.w H s.heap a (.tup xs) from I.a8 a _ ea)
  obtain⟨o,h1,h2,_⟩:=p
  exact W.kia_one W.kitx_tuple I.jI ⟨o,h1,h2⟩ e (fun z=>nomatch z) h
 | @dK a aJ ea =>
  cases(show u=Value.ref a from rx)
  obtain⟨_,_,vs,_,p⟩:=(show bI X.prog X.w H s.heap a (.dK aJ) from I.a8 a _ ea)
  obtain⟨o,es,ep,h1,h2,_⟩:=p
  exact W.kia_one W.kitx_dict I.jI ⟨o,h1,h2.1⟩ e (fun z=>nomatch z) h
 | @dT a aJ ea =>
  cases(show u=Value.ref a from rx)
  obtain⟨_,_,xs,_,o,es,ep,h1,h2,_⟩:=(show bI X.prog X.w H s.heap a (.dT aJ) from I.a8 a _ ea)
  exact W.kia_one W.kitx_dict I.jI ⟨o,h1,h2.1⟩ e (fun z=>nomatch z) h
 | @ins a C dx fs ea cl ha hn htk hm =>
  cases(show u=Value.ref a from rx)
  obtain⟨mA,O,_⟩:=r_ I.a8 ea
  obtain⟨od,J,_⟩:=O.look
  exact W.kia_one (W.kitx_own (cl.get _) cl.hd ha hn htk hm) I.jI J e (fun z=>nomatch z) h
end
structure gz(k:Nat)(A:Around):Prop where
 hd:A.handled=none
 dp:A.depth+3*k+5<recursionLimit
 un:A.units+16*k+200<cLine
theorem gz.mono{j k:Nat}{A:Around}(r:gz k A)(h:j<=k):gz j A:=⟨r.hd,by have:=r.dp;omega,by have:=r.un;omega⟩
theorem gz.deeper{k:Nat}{A:Around}(r:gz (k+1) A)(env:Env):gz k (A.deeper env) :=
 ⟨r.hd,by have:=r.dp;show A.depth+1+3*k+5<_;omega,by have:=r.un;show A.units+3+16*k+200<_;omega⟩
theorem AU{A:Around}{C:Addr}{us:List Value}{kw:List (Str×Value)}:(A.under (.builtin "type.__call__" ⟨.ref C::us,kw⟩)).depth=A.depth+1:=by
 first | rfl | simp [Around.under,Code.weight,Code.isCreation,Code.isGuard,Code.isCaller,Code.frames,Code.isFrame,guardIds]
theorem AV{A:Around}{C:Addr}{us:List Value}{kw:List (Str×Value)}:(A.under (.builtin "type.__call__" ⟨.ref C::us,kw⟩)).units=A.units+1:=by
 first | rfl | simp [Around.under,Code.cUnits,Code.frames,Code.isFrame]
theorem gz.make{k:Nat}{A:Around}(r:gz (k+1) A)(C:Addr)(us:List Value)(kw:List (Str×Value)):gz k (A.under (.builtin "type.__call__" ⟨.ref C::us,kw⟩)) :=
 ⟨r.hd,by have:=r.dp;rw[AU];omega,by have:=r.un;rw[AV];omega⟩
theorem gz.depth{k:Nat}{A:Around}(r:gz k A):A.depth<recursionLimit:=by have:=r.dp;omega
theorem gz.units{k:Nat}{A:Around}(r:gz k A):A.units+64<cLine:=by have:=r.un;omega
def vk:TA:=fun _ H Q=>Q [] H
def tQ(ta:TE)(tr:TA):TA:=fun σ H Q=>ta σ H fun x H1=>tr σ H1 fun xs H2=>Q (x::xs) H2
section
variable{X:Cx}{e:Expr}{es:List Expr}{te:TE}{t:TA}{pos:Pos}
theorem ae:PA X [] vk:=fun _ _ _ _ H Q I h=>Calls.spliced_nil ⟨[],H,I,.nil,h⟩
theorem U(ha:PE X e te)(hr:PA X es t)(hs:starEach (e::es) X.env=(false,eval e X.env)::starEach es X.env:=by rfl):PA X (e::es) (tQ te t):=by
 intro pos pins s σ H Q I h
 rw[hs]
 show wpAny _ _ (spliced ((false,eval e X.env)::backTo pos (starEach es X.env))) _ _ s
 refine Calls.spliced_cons (bg (ha pins s σ H _ I h) fun u s1 ⟨x,H1,I1,r1,q1⟩=>?_)
 exact bg (hr pos pins s1 σ H1 _ I1 q1) fun us s2 ⟨xs,H2,I2,r2,q2⟩=>⟨x::xs,H2,I2,.cons r1 r2,q2⟩
def W7(t:TA):TE:=fun σ H Q=>t σ H fun xs H1=>xs.length<=sizeLine/\∀ p,H1 p=none->Q (.ref p) (upd H1 p (.tup xs))
def Sw(t:TA):TE:=fun σ H Q=>t σ H fun xs H1=>xs.length<=sizeLine/\∀ p,H1 p=none->Q (.ref p) (upd H1 p (.lst xs))
theorem aQ{x1}(h:PA X es t):PE X (.Tuple es x1 pos) (W7 t):=by
 intro pins s σ H Q I hq
 refine wpAny_Tuple_spliced (bg (h pos pins s σ H _ I hq) fun us s1 ⟨xs,H1,I1,r,z,q⟩=>⟨by rw[<- r.length];exact z,?_⟩)
 have hf:H1 s1.heap.objs.size=none:=I1.a8.fresh (Nat.le_refl _)
 refine⟨.ref s1.heap.objs.size,upd H1 s1.heap.objs.size (.tup xs),I1.laid (t':=s1.toks) (fun b u e=>Heap.get?_push_of_some _ e) (Nat.le_refl _) ?_,rfl,q _ hf⟩
 exact⟨z,us,r,⟨_,Heap.get?_push_size _ rfl,rfl,_,rfl⟩⟩
theorem cL(h:PA X es t):PE X (.List es pos) (Sw t):=by
 intro pins s σ H Q I hq
 refine wpAny_List_spliced (bg (h pos pins s σ H _ I hq) fun us s1 ⟨xs,H1,I1,r,z,q⟩=>⟨by rw[<- r.length];exact z,?_⟩)
 have hf:H1 s1.heap.objs.size=none:=I1.a8.fresh (Nat.le_refl _)
 refine⟨.ref s1.heap.objs.size,upd H1 s1.heap.objs.size (.lst xs),I1.laid (t':=s1.toks) (fun b u e=>Heap.get?_push_of_some _ e) (Nat.le_refl _) ?_,rfl,q _ hf⟩
 exact⟨z,us,0,r,Heap.get?_push_size _ rfl⟩
end
abbrev Sp:=List V->Hp->VK->XK->Prop
abbrev yM:=List Env->Hp->Shared->XK->Value->Shared->Prop
structure AW(P:Program)(w:World)(K:W.Frag)(mg:Str->Option Value)(base:Heap)(A:Around)(outer:List Env)(s:Shared)(H:Hp):Prop where
 frames:A.frames=some outer
 mod:Mod K mg base
 bs:∀ b o,base.get? b=some o->s.heap.get? b=some o/\H b=none
 AA:base.objs.size<=s.heap.objs.size
 jH:s.heap.FunFrames base outer
 CQ:∀ b∈ni outer,H b=none
 a8:lS P w H s.heap
 bare:AllBare s.gens
def CE(outer:List Env)(P:Program)(w:World)(H:Hp)(s:Shared)(Q:VK)(u:Value)(s':Shared):Prop :=
 ∃ v H',s'.os=s.os/\AllBare s'.gens/\Un (ni outer) [] H H' s.heap s'.heap/\lS P w H' s'.heap/\RelV v u/\Q v H'
def CR(CX:yM)(outer:List Env)(P:Program)(w:World)(H:Hp)(s:Shared)(Q:VK)(E:XK)(r:Result)(s':Shared):Prop :=
 match r with
 | .ok (.ret u)=>CE outer P w H s Q u s'
 | .ok _=>False
 | .error e=>CX outer H s E e s'
structure aE(P:Program)(w:World)(K:W.Frag)(mg:Str->Option Value)(base:Heap)(CX:yM)(k:Nat)(f:Addr)(fd:FuncData)(ps:List Str)(sp:Sp):Prop where
 len:∀ vs H Q E,sp vs H Q E->vs.length=ps.length
 run:∀ (A:Around) (outer:List Env) (s:Shared) (H:Hp) (args:Args) (us:List Value) (vs:List V) (Q:VK) (E:XK),gz k A->AW P w K mg base A outer s H->BindsTo s fd args (ps.zip us)->Vals vs us->sp vs H Q E ->
  codeAny (model P w) A (.call (.ref f) args) (CR CX outer P w H s Q E) s
theorem AW.make{P:Program}{w:World}{K:W.Frag}{mg:Str->Option Value}{base:Heap}{A:Around}{outer:List Env}{s:Shared}{H:Hp}(e:AW P w K mg base A outer s H)(C:Addr)(us:List Value)(kw:List (Str×Value)) :
  AW P w K mg base (A.under (.builtin "type.__call__" ⟨.ref C::us,kw⟩)) outer s H:=⟨by first | exact e.frames | (simpa [Around.under,Code.envs,Code.isFrame,pushEnvs] using e.frames),e.mod,e.bs,e.AA,e.jH,e.CQ,e.a8,e.bare⟩
section
variable{X:Cx}{pins:List (Addr×Obj)}{σ:St}{H:Hp}{s s':Shared}
theorem Inv.N7(I:Inv X pins σ H s):AW X.prog X.w X.K X.mg X.base X.A X.stack s H :=
 ⟨I.ok.frames,I.ok.mod,I.bs,Nat.le_trans I.ok.AA I.sz,I.stack,I.rY,I.a8,I.bare⟩
theorem Inv.after{Q:VK}{u:Value}(I:Inv X pins σ H s)(h:CE X.stack X.prog X.w H s Q u s'):EP X pins σ Q u s':=by
 obtain⟨v,H',os,bare,un,a8,r,q⟩:=h
 obtain⟨hh,g,d,t,V1⟩:=s'
 obtain rfl:V1=s.os:=os
 exact⟨v,H',I.call (h':=hh) (g':=g) (d':=d) (t':=t) (ch:=[]) un a8 bare (fun b z=>absurd z (by simp)),r,q⟩
end
def MX(sp:Sp)(mB:List V)(E:XK)(t:TA):TE:=fun σ H Q=>t σ H fun vs H1=>sp (vs++mB) H1 Q E
def MY(C:Addr)(m:Str)(sp:Sp)(mB:List V)(E:XK)(ta:TE)(t:TA):TE:=fun σ H Q=>ta σ H fun x H1=>∃ a dx fs,x=.ref a/\H1 a=some (.ins C dx fs)/\fs.lookup m=none /\
 t σ H1 fun vs H2=>sp (x::(vs++mB)) H2 Q E
def MZ(C:Addr)(sp:Sp)(mB:List V)(E:XK)(t:TA):TE:=fun σ H Q=>t σ H fun vs H1=>∀ x dx,H1 x=none->H1 dx=none->dx≠x ->
 sp (.ref x::(vs++mB)) (upd (upd H1 dx (.own x)) x (.ins C dx [])) (fun v H2=>v=.bY/\Q (.ref x) H2) E
def Binds(K:W.Frag)(fd:FuncData)(ps:List Str)(ds:List Value):Prop :=
 ∀ (s:Shared) (us:List Value),K.In s.heap->(us++ds).length=ps.length->BindsTo s fd ⟨us,[]⟩ (ps.zip (us++ds))
theorem Binds.all{K:W.Frag}{fd:FuncData}{ps:List Str}(h:∀ us:List Value,us.length=ps.length->bindArgs fd ⟨us,[]⟩=pure (ps.zip us)):Binds K fd ps []:=fun s us _ hl=>by
 rw[List.append_nil] at hl ⊢
 exact .of_eq (h us hl)
def Passes(CX:yM)(X:Cx)(E:XK):Prop:=∀ (pins:List (Addr×Obj)) (σ:St) (H:Hp) (s:Shared) (e:Value) (s':Shared),Inv X pins σ H s->CX X.stack H s E e s'->X.xe e s'
section
variable{X:Cx}{CX:yM}{k:Nat}{f C:Addr}{fd:FuncData}{ps:List Str}{sp:Sp}{mB:List V}{ds:List Value}{E:XK}{x m:Str}{p pos apos:Pos}{e o:Expr}{es:List Expr}{ta:TE}{t:TA}
theorem w5{pins:List (Addr×Obj)}{σ:St}{H:Hp}{s:Shared}{Q:VK}{us:List Value}{vs:List V}(F:aE X.prog X.w X.K X.mg X.base CX k f fd ps sp)(hr:gz k X.A)(hb:Binds X.K fd ps ds)(hd:Vals mB ds)(hx:Passes CX X E)
  (I:Inv X pins σ H s) (r:Vals vs us) (h:sp (vs++mB) H Q E):wpAny (model X.prog X.w) X.A (call (.ref f) us) (EP X pins σ Q) X.xe s:=by
 have r2:Vals (vs++mB) (us++ds):=r.append hd
 have hl:(us++ds).length=ps.length:=by rw[<- r2.length];exact F.len _ _ _ _ h
 refine wpAny_call (codeAny_mono (F.run X.A X.stack s H ⟨us,[]⟩ (us++ds) (vs++mB) Q E hr I.N7 (hb s us I.jI hl) r2 h) fun r s' hq=>?_)
 cases r with
 | error e=>exact hx pins σ H s e s' I hq
 | ok fl =>
  cases fl with
  | ret u=>exact I.after hq
  | next=>exact False.elim hq
  | brk=>exact False.elim hq
  | cont=>exact False.elim hq
theorem aw(F:aE X.prog X.w X.K X.mg X.base CX k f fd ps sp)(hr:gz k X.A)(hg:Gl X x)(hm:X.mg x=some (.ref f))(hk:W.keepIn X.K (.ref f)=true)(hb:Binds X.K fd ps ds)(hd:Vals mB ds)(hx:Passes CX X E)
  (ha:PA X (e::es) t) (AX:(x == ("__debug__" : Str))=false:=by decide) (he:starEach (e::es) X.env=(false,eval e X.env)::starEach es X.env:=by rfl) (vm:(backTo pos (starEach es X.env)).any (·.1)=false:=by rfl) :
  PE X (.Call (.Name x p) (e::es) [] pos) (MX sp mB E t):=by
 intro pins s σ H Q I h
 refine wpAny_Call_Name_kw (j6 I hg hm ?_ AX)
 refine W.callWith_K (h₀:=X.base) I.ok.mod.MJ hk (bg (ha pos pins s σ H _ I h) fun us s1 ⟨vs,H1,I1,r,q⟩=>⟨I1.jI,?_⟩) he vm
 exact w5 F hr hb hd hx I1 r q
theorem ck{pl:Sem Bool}(he:PE X o ta)(c:C6 X.K C)(hm:Meth X.K C m f)(F:aE X.prog X.w X.K X.mg X.base CX k f fd ps sp)(hr:gz k X.A)(hb:Binds X.K fd ps ds)(hd:Vals mB ds)(hx:Passes CX X E)(ha:PA X (e::es) t)
  (tG:starEach (e::es) X.env=(false,eval e X.env)::starEach es X.env:=by rfl) (vm:(backTo pos (starEach es X.env)).any (·.1)=false:=by rfl)
  (ht:eval (.Call (.Attribute o m apos) (e::es) [] pos) X.env=(do
   let ov <- eval o X.env
   standAt apos.atName
   let (f,first) <- holding [ov] (getMethod ov m pl)
   callWith pos f first (backTo pos (starEach (e::es) X.env)) (backToKw pos (keywordEach [] X.env))):=by rfl) :
  PE X (.Call (.Attribute o m apos) (e::es) [] pos) (MY C m sp mB E ta t):=by
 intro pins s σ H Q I h
 refine W.methodCall_KW (pl:=pl) (bg (he pins s σ H _ I h) fun u s1 ⟨x,H1,I1,rx,a,dx,fs,ex,ea,l,q⟩=>?_) ht
 subst ex
 obtain rfl:u=Value.ref a:=rx
 refine tP I1 ea c hm l ?_
 refine W.callWith_K (first:=[.ref a]) (h₀:=X.base) I.ok.mod.MJ hm.kp (bg (ha pos pins s1 σ H1 _ I1 q) fun us s2 ⟨vs,H2,I2,r,q2⟩=>⟨I2.jI,?_⟩) tG vm
 exact w5 (us:=.ref a::us) (vs:=.ref a::vs) F hr hb hd hx I2 (.cons rfl r) q2
theorem b_{pl:Sem Bool}(he:PE X o ta)(c:C6 X.K C)(hm:Meth X.K C m f)(F:aE X.prog X.w X.K X.mg X.base CX k f fd ps sp)(hr:gz k X.A)(hb:Binds X.K fd ps ds)(hd:Vals mB ds)(hx:Passes CX X E)
  (ht:eval (.Call (.Attribute o m apos) [] [] pos) X.env=(do
   let ov <- eval o X.env
   standAt apos.atName
   let (f,first) <- holding [ov] (getMethod ov m pl)
   callWith pos f first (backTo pos (starEach [] X.env)) (backToKw pos (keywordEach [] X.env))):=by rfl) :
  PE X (.Call (.Attribute o m apos) [] [] pos) (MY C m sp mB E ta vk):=by
 intro pins s σ H Q I h
 refine W.methodCall_KW (pl:=pl) (bg (he pins s σ H _ I h) fun u s1 ⟨x,H1,I1,rx,a,dx,fs,ex,ea,l,q⟩=>?_) ht
 subst ex
 obtain rfl:u=Value.ref a:=rx
 refine tP I1 ea c hm l ?_
 exact W.callWith_K0 (first:=[.ref a]) I1.jI hm.kp (w5 (us:=[.ref a]) (vs:=[.ref a]) F hr hb hd hx I1 (.cons rfl .nil) q)
structure Mk(K:W.Frag)(C f:Addr):Prop where
 makes:W.makesIn K C=true
 init:W.findIn K (.ref C) "__init__" = some (some (.ref f))
 fn:W.isFn K (.ref f)=true
 kp:W.keepIn K (.ref C)=true
theorem yN{pins:List (Addr×Obj)}{σ:St}{H:Hp}{s:Shared}{Q:VK}{us:List Value}{vs:List V}(M:Mk X.K C f)(F:aE X.prog X.w X.K X.mg X.base CX k f fd ps sp)(hr:gz (k+1) X.A)(hb:Binds X.K fd ps ds)(hd:Vals mB ds)
  (hx:Passes CX X E) (I:Inv X pins σ H s) (r:Vals vs us)
  (h:∀ x dx,H x=none->H dx=none->dx≠x->sp (.ref x::(vs++mB)) (upd (upd H dx (.own x)) x (.ins C dx [])) (fun v H2=>v=.bY/\Q (.ref x) H2) E) :
  wpAny (model X.prog X.w) X.A (call (.ref C) us) (EP X pins σ Q) X.xe s:=by
 have hq:=h (s.heap.objs.size+1) s.heap.objs.size (I.a8.fresh (Nat.le_succ _)) (I.a8.fresh (Nat.le_refl _)) (Nat.ne_of_lt (Nat.lt_succ_self _))
 have I2:=Inv.made (C:=C) I
 have r2:Vals (V.ref (s.heap.objs.size+1)::(vs++mB)) (Value.ref (s.heap.objs.size+1)::(us++ds)):=.cons rfl (r.append hd)
 have hl:(Value.ref (s.heap.objs.size+1)::us++ds).length=ps.length:=by
  have e:=r2.length
  rw[F.len _ _ _ _ hq] at e
  exact e.symm
 refine wpAny_call (Gz (f:=f) I.jI M.makes M.init (beq_iff_eq.mp M.fn) (codeAny_mono (F.run _ X.stack _ _ ⟨Value.ref (s.heap.objs.size+1)::us,[]⟩ (Value.ref (s.heap.objs.size+1)::(us++ds)) _ _ E (hr.make C us [])
  (I2.N7.make C us []) (hb _ (Value.ref (s.heap.objs.size+1)::us) I2.jI hl) r2 hq) fun r s' tS=>?_))
 cases r with
 | error e=>exact hx pins σ _ _ e s' I2 tS
 | ok fl =>
  cases fl with
  | ret u =>
   obtain⟨v,H',I3,rv,ev,q3⟩:=I2.after tS
   subst ev
   exact⟨rv,⟨V.ref (s.heap.objs.size+1),H',I3,rfl,q3⟩⟩
  | next=>exact False.elim tS
  | brk=>exact False.elim tS
  | cont=>exact False.elim tS
theorem w6(M:Mk X.K C f)(F:aE X.prog X.w X.K X.mg X.base CX k f fd ps sp)(hr:gz (k+1) X.A)(hg:Gl X x)(hm:X.mg x=some (.ref C))(hb:Binds X.K fd ps ds)(hd:Vals mB ds)(hx:Passes CX X E)
  (ha:PA X (e::es) t) (AX:(x == ("__debug__" : Str))=false:=by decide) (he:starEach (e::es) X.env=(false,eval e X.env)::starEach es X.env:=by rfl) (vm:(backTo pos (starEach es X.env)).any (·.1)=false:=by rfl) :
  PE X (.Call (.Name x p) (e::es) [] pos) (MZ C sp mB E t):=by
 intro pins s σ H Q I h
 refine wpAny_Call_Name_kw (j6 I hg hm ?_ AX)
 refine W.callWith_K (h₀:=X.base) I.ok.mod.MJ M.kp (bg (ha pos pins s σ H _ I h) fun us s1 ⟨vs,H1,I1,r,q⟩=>⟨I1.jI,?_⟩) he vm
 exact yN M F hr hb hd hx I1 r q
theorem oy(M:Mk X.K C f)(F:aE X.prog X.w X.K X.mg X.base CX k f fd ps sp)(hr:gz (k+1) X.A)(hg:Gl X x)(hm:X.mg x=some (.ref C))(hb:Binds X.K fd ps ds)(hd:Vals mB ds)(hx:Passes CX X E)
  (AX:(x == ("__debug__" : Str))=false:=by decide):PE X (.Call (.Name x p) [] [] pos) (MZ C sp mB E vk):=by
 intro pins s σ H Q I h
 refine wpAny_Call_Name_kw (j6 I hg hm ?_ AX)
 exact W.callWith_K0 I.jI M.kp (yN (us:=[]) M F hr hb hd hx I .nil h)
end
structure au(N P:List Str)(sc:Scope):Prop where
 kind:sc.kind=.function
 co:sc.isCoroutine=false
 gen:sc.isGenerator=false
 nd:N.Nodup
 pre:N.take P.length=P
 par:∀ x∈P,sc.names.lookup x=some .local\/sc.names.lookup x=some .cell
 N8:∀ y∈sc.names,y.2≠.free
theorem wa{kindOf:Str->Option NameKind}{x:Str}:∀ {binds:List (Str×Value)} {m:Str->Option Value},(∀ v,(x,v)∉binds)->bindL kindOf binds m x=m x
 | [],_,_=>rfl
 | (n,v)::r,m,h=>by
  unfold bindL
  rw[wa fun w hw=>h w (List.mem_cons_of_mem _ hw)]
  split
  ·have:x≠n:=by rintro rfl;exact h v List.mem_cons_self
   simp [this]
  ·rfl
theorem wb{kindOf:Str->Option NameKind}{x:Str}:∀ {binds:List (Str×Value)} {m:Str->Option Value},(∀ v,(x,v)∉binds)->bindC kindOf binds m x=m x
 | [],_,_=>rfl
 | (n,v)::r,m,h=>by
  unfold bindC
  rw[wb fun w hw=>h w (List.mem_cons_of_mem _ hw)]
  split
  ·rfl
  ·have:x≠n:=by rintro rfl;exact h v List.mem_cons_self
   simp [this]
theorem wc{kindOf:Str->Option NameKind}{x:Str}{v:Value}:∀ {P:List Str} {vs:List Value} {i:Nat} {m:Str->Option Value},P.Nodup->P[i]?=some x->vs[i]?=some v->kindOf x=some .local ->
  bindL kindOf (P.zip vs) m x=some v
 | [],_,_,_,_,h,_,_=>by simp at h
 | _::_,[],_,_,_,_,h,_=>by simp at h
 | p::P,w::vs,0,m,nd,h1,h2,hk=>by
  simp at h1 h2;subst h1;subst h2
  show bindL kindOf ((p,w)::P.zip vs) m p=_
  unfold bindL
  rw[wa fun v hv=>(List.nodup_cons.mp nd).1 (List.of_mem_zip hv).1,if_pos hk]
  simp
 | p::P,w::vs,i+1,m,nd,h1,h2,hk=>by
  show bindL kindOf ((p,w)::P.zip vs) m x=_
  unfold bindL
  exact wc (i:=i) (List.nodup_cons.mp nd).2 (by simpa using h1) (by simpa using h2) hk
theorem we{kindOf:Str->Option NameKind}{x:Str}{v:Value}:∀ {P:List Str} {vs:List Value} {i:Nat} {m:Str->Option Value},P.Nodup->P[i]?=some x->vs[i]?=some v->kindOf x≠some .local ->
  bindC kindOf (P.zip vs) m x=some v
 | [],_,_,_,_,h,_,_=>by simp at h
 | _::_,[],_,_,_,_,h,_=>by simp at h
 | p::P,w::vs,0,m,nd,h1,h2,hk=>by
  simp at h1 h2;subst h1;subst h2
  show bindC kindOf ((p,w)::P.zip vs) m p=_
  unfold bindC
  rw[wb fun v hv=>(List.nodup_cons.mp nd).1 (List.of_mem_zip hv).1,if_neg hk]
  simp
 | p::P,w::vs,i+1,m,nd,h1,h2,hk=>by
  show bindC kindOf ((p,w)::P.zip vs) m x=_
  unfold bindC
  exact we (i:=i) (List.nodup_cons.mp nd).2 (by simpa using h1) (by simpa using h2) hk
def start(N:List Str)(vs:List V):St:=vs.map some++List.replicate (N.length - vs.length) none
def nv(CX:yM)(P:Program)(w:World)(K:W.Frag)(mg:Str->Option Value)(base:Heap)(N:List Str)(qual:Str)(scope:Scope)(f:Addr)(cd:Value)(A:Around)(outer:List Env)(s:Shared)(H:Hp)(E:XK):Cx where
 prog:=P
 w:=w
 K:=K
 mg:=mg
 base:=base
 A:=A.deeper (envOfC qual scope s.heap.objs.size f cd)
 N:=N
 g0:=s
 D5:=H
 env:=envOfC qual scope s.heap.objs.size f cd
 outer:=outer
 stack:=envOfC qual scope s.heap.objs.size f cd::outer
 ex:=[]
 calm:=true
 fn:=fun _=>true
 pn:=[]
 xe:=fun e s'=>wpAny (model P w) (A.deeper (envOfC qual scope s.heap.objs.size f cd)) (leaving (envOfC qual scope s.heap.objs.size f cd) e) (fun _ GD=>CX outer H s E e GD) (fun e' GD=>CX outer H s E e' GD) s'
theorem yO{sc:Scope}{n:Nat}{x:Str}(h:sc.names.lookup x=some .cell):∃ c,(cellsFrom n sc.names []).lookup x=some c:=by
 have q:=W.cellsFrom_some sc.names n [] (.inl h)
 exact Option.isSome_iff_exists.mp q
theorem Eb{CX:yM}{P:Program}{w:World}{K:W.Frag}{mg:Str->Option Value}{base:Heap}{N ps:List Str}{qual:Str}{scope:Scope}{f:Addr}{cd:Value}{A:Around}{outer:List Env}{s s1:Shared}{H:Hp}{E:XK}{us:List Value}{vs:List V}
  (S:au N ps scope) (hd:A.handled=none) (e0:AW P w K mg base A outer s H) (hl:vs.length=ps.length) (r:Vals vs us)
  (x:InCallC s s.heap.objs.size (bindL (envOfC qual scope s.heap.objs.size f cd).kindOf (ps.zip us) fun _=>none) (cellsFrom (s.heap.objs.size+1) scope.names []) (bindC (envOfC qual scope s.heap.objs.size f cd).kindOf (ps.zip us) fun _=>none) s1) :
  Inv (nv CX P w K mg base N qual scope f cd A outer s H E) [] (start N vs) H s1:=by
 have vm:ps.length<=N.length:=by have:=congrArg List.length S.pre;rw[List.length_take] at this;omega
 obtain⟨h1,tk,rfl,hk⟩:=x.done
 have N9:∀ b:Addr,b∉(nv CX P w K mg base N qual scope f cd A outer s H E).ex:=fun b z=>absurd (show b∈([]:List Addr) from z) (by simp)
 refine⟨⟨e0.mod,S.kind,rfl,rfl,Nat.le_refl _,fun y z c h1 h2=>?_,fun y hy=>?_,fun y c _ h=>?_,fun _=>hd,Around.frames_deeper e0.frames,.inr ⟨rfl,rfl⟩,fun b z=>absurd z (N9 b),e0.bs,e0.AA,fun b _ _=>N9 b,fun b z=>absurd z (N9 b),e0.jH,e0.CQ⟩,
  rfl,e0.bare,Un.kept hk,⟨_,x.toInCall.ns,fun i y v h1 h2 h3=>?_⟩,fun y c h=>⟨_,x.cell y c h⟩,e0.a8.fresh (Nat.le_refl _),fun y c h=>?_,fun p hp=>absurd (show p∈([]:List (Addr×Obj)) from hp) (by simp),e0.a8.kept hk,?_⟩
 ·exact name_of_addr x.apart (PySem.mem_of_lookup h1) (PySem.mem_of_lookup h2)
 ·have hy:scope.names.lookup y=some .cell\/scope.names.lookup y=some .free:=hy
  rcases hy with hy | hy
  ·exact yO hy
  ·exact absurd rfl (S.N8 _ (PySem.mem_of_lookup hy))
 ·exact Nat.le_of_lt (x.above y c (PySem.mem_of_lookup h))
 ·have hi:i<vs.length:=by
   unfold start at h2
   by_cases hi:i<vs.length
   ·exact hi
   ·rw[List.getElem?_append_right (by simpa using hi)] at h2
    rw[List.getElem?_replicate] at h2
    split at h2<;>cases h2
  have ha:vs[i]?=some v:=by
   unfold start at h2
   rw[List.getElem?_append_left (by simpa using hi),List.getElem?_map] at h2
   cases e:vs[i]? with
   | none=>rw[e] at h2;cases h2
   | some a=>rw[e] at h2;cases h2;rfl
  obtain⟨u,hu,rv⟩:=r.get ha
  have hp:ps[i]?=some y:=by
   rw[<- S.pre,List.getElem?_take_of_lt (by omega)];exact h1
  have ndP:ps.Nodup:=by rw[<- S.pre];exact S.nd.sublist (List.take_sublist _ _)
  refine⟨u,rv,?_⟩
  rcases S.par y (List.mem_of_getElem? hp) with k | k
  ·exact .inl ⟨k,wc ndP hp hu k⟩
  ·obtain⟨c,e⟩:=yO (n:=s.heap.objs.size+1) k
   refine .inr ⟨.inl k,c,e,?_⟩
   have q:=x.cell y c e
   rw[we ndP hp hu (by show scope.names.lookup y≠_;rw[k];decide)] at q
   exact q
 ·exact e0.a8.fresh (Nat.le_of_lt (x.above y c (PySem.mem_of_lookup h)))
 ·unfold start
  show _=N.length
  rw[List.length_append,List.length_map,List.length_replicate]
  omega
theorem GF{CX:yM}{P:Program}{w:World}{K:W.Frag}{mg:Str->Option Value}{base:Heap}{k:Nat}{f:Addr}{name qual:Str}{params:Arguments}{body:List Stmt}{scope:Scope}{dV kV doc pm bJ ct oc:Value}{an od:Option Addr}
  {C8:Array (Option Value)} {N ps:List Str} {sp:Sp} (lk:K.lookup f=some ⟨oc,od,.func (W.fnOf name qual params body scope dV kV doc pm an bJ ct),C8⟩) (yA:W.codeIn K bJ qual=true) (S:au N ps scope)
  (len:∀ vs H Q E,sp vs H Q E->vs.length=ps.length)
  (tT:∀ (A:Around) (outer:List Env) (s:Shared) (H:Hp) (vs:List V) (Q:VK) (E:XK),gz k (A.deeper (envOfC qual scope s.heap.objs.size f bJ))->sp vs H Q E ->
   ∃ t,vj (nv CX P w K mg base N qual scope f bJ A outer s H E) body t/\t { nx:=fun _ H'=>Q .bY H',rt:=Q } (start N vs) H) :
  aE P w K mg base CX (k+1) f (W.fnOf name qual params body scope dV kV doc pm an bJ ct) ps sp:=by
 refine⟨len,fun A outer s H args us vs Q E hr e0 hb r yP=>?_⟩
 have hl:=len _ _ _ _ yP
 have KX:K.In s.heap:=e0.mod.MJ.keeps fun b o e=>(e0.bs b o e).1
 have lim:s.heap.NoLimit:=e0.mod.nolimit.keeps fun b o e=>(e0.bs b o e).1
 have Sx:∀ y∈ps.zip us,scope.names.lookup y.1=some .local\/(scope.names.lookup y.1=some .cell/\((cellsFrom (s.heap.objs.size+1) scope.names []).lookup y.1).isSome=true):=fun ⟨n,v⟩ hy=>by
  rcases S.par n (List.of_mem_zip hy).1 with q | q
  ·exact .inl q
  ·exact .inr ⟨q,W.cellsFrom_some _ _ _ (.inl q)⟩
 refine codeAny_call_function hr.depth (KX _ _ lk) rfl S.co S.gen rfl (W.codeRec_of KX yA) (hb _ _ _ _ ?_)
 refine wpAny_newFunctionEnv_cells S.kind Sx fun env he s1 x=>?_
 subst he
 refine⟨lim.keeps x.toInCall.keep,codeAny_func ?_⟩
 obtain⟨t,ht,hq⟩:=tT A outer s H vs Q E (hr.deeper _) yP
 have I:Inv (nv CX P w K mg base N qual scope f bJ A outer s H E) [] (start N vs) H s1:=Eb S hr.hd e0 hl r x
 refine wpAny_mono (ht [] s1 (start N vs) H _ I hq) (fun fl s' hs=>?_) fun e s' hs=>hs
 have fin:∀ {bf:St} {H':Hp} {v:V} {u:Value},Inv (nv CX P w K mg base N qual scope f bJ A outer s H E) [] bf H' s'->RelV v u->Q v H'->CE outer P w H s Q u s' :=
  fun {bf H' v u} J rv q=>⟨v,H',J.os,J.bare,J.base,J.a8,rv,q⟩
 cases fl with
 | ret u =>
  obtain⟨v,bf,H',J,rv,q⟩:=hs
  exact fin J rv q
 | next =>
  obtain⟨bf,H',J,q⟩:=hs
  exact fin (v:=V.bY) (u:=Value.none) J rfl q
 | brk =>
  obtain⟨_,_,_,q⟩:=hs
  exact False.elim q
 | cont =>
  obtain⟨_,_,_,q⟩:=hs
  exact False.elim q
section
variable{X:Cx}{x:Str}{p pos:Pos}{e:Expr}{es:List Expr}{t:TA}{id T:String}{r:List V->Hp->VK->Prop}
def Sy(r:List V->Hp->VK->Prop)(t:TA):TE:=fun σ H Q=>t σ H fun vs H1=>r vs H1 Q
theorem aA(hc:g9 X (.builtin id) r)(hg:Gl X x)(hm:X.mg x=none)(hv:bootBuiltins x=some (.builtin id))(ha:PA X (e::es) t)(hn:x ≠ "__name__" := by decide)(AX:(x == ("__debug__" : Str))=false:=by decide)
  (he:starEach (e::es) X.env=(false,eval e X.env)::starEach es X.env:=by rfl) (vm:(backTo pos (starEach es X.env)).any (·.1)=false:=by rfl):PE X (.Call (.Name x p) (e::es) [] pos) (Sy r t):=by
 intro pins s σ H Q I h
 refine wpAny_Call_Name_kw (kW I hg hm hv ?_ hn AX)
 exact PyProof.Rows.callWith_builtin1 (bg (ha pos pins s σ H _ I h) fun us s1 ⟨vs,H1,I1,r1,q1⟩=>hc pins s1 σ H1 vs us Q I1 r1 q1) he vm
theorem dO(hc:g9 X (.type T) r)(hg:Gl X x)(hm:X.mg x=none)(hv:bootBuiltins x=some (.type T))(ha:PA X (e::es) t)(hn:x ≠ "__name__" := by decide)(AX:(x == ("__debug__" : Str))=false:=by decide)
  (he:starEach (e::es) X.env=(false,eval e X.env)::starEach es X.env:=by rfl) (vm:(backTo pos (starEach es X.env)).any (·.1)=false:=by rfl):PE X (.Call (.Name x p) (e::es) [] pos) (Sy r t):=by
 intro pins s σ H Q I h
 refine wpAny_Call_Name_kw (kW I hg hm hv ?_ hn AX)
 exact PyProof.Rows.callWith_type1 (bg (ha pos pins s σ H _ I h) fun us s1 ⟨vs,H1,I1,r1,q1⟩=>hc pins s1 σ H1 vs us Q I1 r1 q1) he vm
end
end L2
namespace HT
open PySem PyProof.Rows
section
open PySem.SeqAt
open PySem.AutoSeq1 (wpAny_loadPart')
open PySem.MeetsSeq PySem.MeetsSeq2 PySem.MeetsSeq3
end
section
variable{prog:Program}{w:World}{A:Around}{E:Value->Shared->Prop}{s:Shared}
theorem KI{t b:Addr}{vs ws:List Value}{Q:Value->Shared->Prop}(ht:IsTup s.heap t vs.toArray)(hb:IsTup s.heap b ws.toArray)(hv:vs≠[])
  (h1:ws=[]->Q (.ref t) s) (h2:ws≠[]->Q (.ref s.heap.objs.size) { s with heap:=s.heap.push { cls:=.type "tuple",data:=.seq (vs++ws).toArray } })
  (hsz:vs.length+ws.length<=sizeLine):wpAny (model prog w) A (binaryOp .Add (.ref t) (.ref b)) Q E s:=by
 obtain⟨⟨cls,dd,data,sl⟩,ho,hc,n,hd⟩:=id ht
 obtain⟨⟨W8,RK,data2,RL⟩,AY,Sz,n2,hd2⟩:=id hb
 simp only at hc hd Sz hd2
 subst hc hd Sz hd2
 have e:vs.toArray++ws.toArray=(vs++ws).toArray:=by simp
 by_cases hw:ws=[]
 ·exact concat_meets ⟨_,ho,rfl⟩ ⟨_,AY,rfl⟩ noFill_tuple_add seq_tuple_add PySem.F.slot_tuple_add PySem.F.entry_tuple_add (PySem.F.args_tuple_add_2 _ _)
   (tuple_addW1 t b vs.toArray ws.toArray n n2 dd RK sl RL (by simpa using hv) (by simp [hw])) ⟨ho,AY,h1 hw⟩
 ·refine concat_meets ⟨_,ho,rfl⟩ ⟨_,AY,rfl⟩ noFill_tuple_add seq_tuple_add PySem.F.slot_tuple_add PySem.F.entry_tuple_add (PySem.F.args_tuple_add_2 _ _)
   (tuple_addW2 t b vs.toArray ws.toArray n n2 dd RK sl RL (by simpa using hv) (by simpa using hw) (by rw[List.size_toArray,List.size_toArray];exact hsz)) ⟨ho,AY,?_⟩
  rw[e]
  exact h2 hw
def yQ(n d:Nat):Option Int->Nat
 | none=>d
 | some v=>if v<0 then (v+(n:Int)).toNat else min v.toNat n
theorem yR(n d:Nat):yQ n d none=d:=rfl
theorem sf(n d k:Nat):yQ n d (some (k:Int))=min k n:=by
 show(if (k:Int)<0 then ((k:Int)+(n:Int)).toNat else min (k:Int).toNat n)=min k n
 rw[if_neg (by omega),Int.toNat_natCast]
end
end HT
namespace L2
open PySem PySem.Spec PyProof.Rows
abbrev TO:=St->Hp->(Option Int->Hp->Prop)->Prop
def PO(X:Cx)(e:Option Expr)(t:TO):Prop :=
 ∀ (pins:List (Addr×Obj)) (s:Shared) (σ:St) (H:Hp) (Q:Option Int->Hp->Prop),Inv X pins σ H s->t σ H Q ->
  wpAny (model X.prog X.w) X.A (evalPart e X.env) (fun u s'=>∃ o H',Inv X pins σ H' s'/\IsPart u o/\Q o H') X.xe s
def KJ:TO:=fun _ H Q=>Q none H
def SD(t:TE):TO:=fun σ H Q=>t σ H fun x H1=>∃ i,x=.int i/\Q (some i) H1
section
variable{X:Cx}{e:Expr}{te:TE}{lo hi:Option Expr}{tl th:TO}{pos p2:Pos}
theorem sh:PO X none KJ:=by
 intro pins s σ H Q I h
 rw[evalPart_none]
 exact wpAny_pure ⟨none,H,I,.none,h⟩
theorem lX(h:PE X e te):PO X (some e) (SD te):=by
 intro pins s σ H Q I hw
 rw[evalPart_some]
 refine bg (h pins s σ H _ I hw) fun u s1 ⟨x,H1,I1,r1,q1⟩=>?_
 obtain⟨i,rfl,q⟩:=q1
 obtain⟨t,rfl⟩:=r1
 exact⟨some i,H1,I1,.int i t,q⟩
def SlR(X:Cx)(r:V->Option Int->Option Int->Hp->VK->Prop):Prop :=
 ∀ (pins:List (Addr×Obj)) (s:Shared) (σ:St) (H:Hp) (x:V) (v vl vu:Value) (lo hi:Option Int) (sl:Addr) (Q:VK),Inv X pins σ H s->RelV x v->s.heap.IsSliceOf sl vl vu .none->IsPart vl lo->IsPart vu hi->r x lo hi H Q ->
  ∃ T id,typeLookup (.type T) "__getitem__" = pure (some (.builtin id))/\s.TypeIs v T/\wpAny (model X.prog X.w) X.A (getItem v (.ref sl)) (EP X pins σ Q) X.xe s
def tSl(r:V->Option Int->Option Int->Hp->VK->Prop)(te:TE)(tl th:TO):TE:=fun σ H Q=>te σ H fun x H1=>tl σ H1 fun l H2=>th σ H2 fun u H3=>r x l u H3 Q
theorem k9{r:V->Option Int->Option Int->Hp->VK->Prop}(hr:SlR X r)(he:PE X e te)(hl:PO X lo tl)(hu:PO X hi th):PE X (.Subscript e (.Slice lo hi none p2) pos) (tSl r te tl th):=by
 intro pins s σ H Q I h
 refine Subscript_ (bg (he pins s σ H _ I h) fun v s1 ⟨x,H1,I1,r1,q1⟩=>?_)
 refine wpAny_Slice (bg (hl pins s1 σ H1 _ I1 q1) fun vl s2 ⟨l,H2,I2,pl,q2⟩=>bg (hu pins s2 σ H2 _ I2 q2) fun vu s3 ⟨u,H3,I3,pu,q3⟩=>?_)
 rw[evalPart_none]
 refine wpAny_pure ?_
 have I4:Inv X pins σ H3 { s3 with heap:=s3.heap.push { cls:=.type "slice",data:=.fields #[vl,vu,.none] } }:=I3.kept (t':=s3.toks) fun b ob q=>Heap.get?_push_of_some _ q
 obtain⟨T,id,hT,ht,hg⟩:=hr pins { s3 with heap:=s3.heap.push { cls:=.type "slice",data:=.fields #[vl,vu,.none] } } σ H3 x v vl vu l u s3.heap.objs.size Q I4 r1 (Heap.IsSliceOf.new ..) pl pu q3
 show wpAny (model X.prog X.w) X.A (subscriptTail e (.Slice lo hi none p2) v (.ref s3.heap.objs.size)) (EP X pins σ Q) X.xe { s3 with heap:=s3.heap.push { cls:=.type "slice",data:=.fields #[vl,vu,.none] } }
 exact tail_any (ops:=[.ref s3.heap.objs.size,v]) ht hT hg (by with_unfolding_all rfl)
def nA(xs:List V)(lo hi:Option Int):List V:=(xs.drop (HT.yQ xs.length 0 lo)).take (HT.yQ xs.length xs.length hi - HT.yQ xs.length 0 lo)
theorem yS(xs:List V)(lo hi:Option Int):(nA xs lo hi).length<=xs.length:=by
 unfold nA
 rw[List.length_take,List.length_drop]
 omega
def SE(K:W.Frag):R2:=fun x y H Q=>∃ a b xs ys,x=.ref a/\y=.ref b/\bV K H a xs/\bV K H b ys/\xs≠[]/\xs.length+ys.length<=sizeLine /\
 (ys=[]->Q (.ref a) H)/\(ys≠[]->∀ p,H p=none->Q (.ref p) (upd H p (.tup (xs++ys))))
theorem Vals.si{xs:List V}{us:List Value}(r:Vals xs us):us=[]↔xs=[]:=by
 cases r with
 | nil=>simp
 | cons _ _=>simp
theorem KL:pV X (binaryOp .Add) (SE X.K):=by
 intro pins s σ H x y v u Q I rx ry h
 obtain⟨a,b,xs,ys,rfl,rfl,ha,hb,hx,hz,q1,q2⟩:=h
 cases rx
 cases ry
 obtain⟨its,r1,p1,_⟩:=I.tuple ha
 obtain⟨KN,r2,p2,_⟩:=I.tuple hb
 refine HT.KI p1 p2 (fun z=>hx (r1.si.mp z)) (fun z=>⟨.ref a,H,I,rfl,q1 (r2.si.mp z)⟩) (fun z=>?_) (by rw[<- r1.length,<- r2.length];exact hz)
 refine⟨.ref s.heap.objs.size,_,I.laid (t':=s.toks) (o:=.tup (xs++ys)) (fun b ob q=>Heap.get?_push_of_some _ q) (Nat.le_refl _) ?_,rfl,q2 (fun w=>z (r2.si.mpr w)) _ (I.a8.fresh (Nat.le_refl _))⟩
 exact⟨by rw[List.length_append];exact hz,_,r1.append r2,IsTup.new _ _⟩
end
def GH(n:Nat)(i:Int):Option Nat:=if 0<=i then (if i<n then some i.toNat else none) else if -(n:Int)<=i then some (i+n).toNat else none
def vc{α:Type}(xs:List α)(i:Int):Option α:=(GH xs.length i).bind fun j=>xs[j]?
theorem C9{n:Nat}{i:Int}{j:Nat}(h:GH n i=some j):seqIndex? i n=some j/\j<n /\ -(n:Int)<=i/\i<n:=by
 unfold GH at h
 by_cases h0:0<=i
 ·rw[if_pos h0] at h
  by_cases h1:i<n
  ·rw[if_pos h1] at h
   have e:i.toNat=j:=Option.some.inj h
   exact⟨by rw[seqIndex_of h0 h1,e],by omega,by omega,h1⟩
  ·rw[if_neg h1] at h;cases h
 ·rw[if_neg h0] at h
  by_cases h1 : -(n:Int)<=i
  ·rw[if_pos h1] at h
   have e:(i+n).toNat=j:=Option.some.inj h
   exact⟨by rw[seqIndex_neg (by omega) h1,e],by omega,h1,by omega⟩
  ·rw[if_neg h1] at h;cases h
theorem w9{α:Type}{xs:List α}{i:Int}{v:α}(h:vc xs i=some v):∃ j,seqIndex? i xs.length=some j/\xs[j]?=some v/\j<xs.length /\ -(xs.length:Int)<=i/\i<xs.length:=by
 unfold vc at h
 cases e:GH xs.length i with
 | none=>rw[e] at h;cases h
 | some j =>
  rw[e] at h
  obtain⟨h1,h2,h3,h4⟩:=C9 e
  exact⟨j,h1,h,h2,h3,h4⟩
theorem aH{α:Type}{xs:List α}{j:Nat}{v:α}(h:xs[j]?=some v):vc xs (j:Int)=some v:=by
 have hj:j<xs.length:=(List.getElem?_eq_some_iff.mp h).1
 have e:GH xs.length (j:Int)=some j:=by
  unfold GH
  rw[if_pos (by omega),if_pos (by omega)];simp
 unfold vc;rw[e];exact h
theorem GJ{α:Type}(xs:List α)(v:α):vc (xs++[v]) (-1)=some v:=by
 have hl:(xs++[v]).length=xs.length+1:=by simp
 have e:GH (xs++[v]).length (-1)=some xs.length:=by
  unfold GH
  rw[hl,if_neg (by decide),if_pos (by omega)]
  congr 1
  omega
 unfold vc
 rw[e]
 show(xs++[v])[xs.length]?=some v
 simp
def KO(b:Expr):Prop:=∀ o i,subscripted b false o i=operate [o,i] (getItem o i)
def Ec(X:Cx)(r:R2):Prop :=
 ∀ (value slice:Expr) (pins:List (Addr×Obj)) (s:Shared) (σ:St) (H:Hp) (x y:V) (v u:Value) (Q:VK),Inv X pins σ H s->RelV x v->RelV y u->r x y H Q ->
  subscripted slice false v u=operate [v,u] (getItem v u)->wpAny (model X.prog X.w) X.A (subscriptTail value slice v u) (EP X pins σ Q) X.xe s
def W9(X:Cx)(id:String)(r:V->List V->Hp->VK->Prop):Prop :=
 ∀ (pins:List (Addr×Obj)) (s:Shared) (σ:St) (H:Hp) (x:V) (xs:List V) (v:Value) (us:List Value) (Q:VK),Inv X pins σ H s->RelV x v->Vals xs us->r x xs H Q ->
  wpAny (model X.prog X.w) X.A (call (.builtin id) (v::us)) (EP X pins σ Q) X.xe s
section
variable{X:Cx}{a b:Expr}{ta tb:TE}{pos:Pos}
theorem aV{r:R2}(hr:Ec X r)(ha:PE X a ta)(hb:PE X b tb)(hs:KO b):PE X (.Subscript a b pos) (MT r ta tb):=by
 intro pins s σ H Q I h
 exact Subscript_ (N2 ha hb I h fun v u s2 x y H2 I2 rx ry q=>hr a b pins s2 σ H2 x y v u Q I2 rx ry q (hs _ _))
def GU(K:W.Frag):R2:=fun x y H Q=>∃ p xs i v,x=.ref p/\y=.int i/\bx K H p xs/\vc xs i=some v/\Q v H
def Ed(K:W.Frag):R2:=fun x y H Q=>∃ p xs i v,x=.ref p/\y=.int i/\bV K H p xs/\vc xs i=some v/\Q v H
def SG:R2:=fun x y H Q=>∃ z i c,x=.str z/\y=.int i/\z.length<=sizeLine/\vc z.cps.toList i=some c/\Q (.str ⟨#[c]⟩) H
theorem bh:Ec X (GU X.K):=by
 intro value slice pins s σ H x y v u Q I rx ry h hs
 obtain⟨p,xs,i,z,rfl,rfl,hq,he,q⟩:=h
 cases rx
 obtain⟨t,rfl⟩:=ry
 obtain⟨its,r,pl,hz⟩:=I.list hq
 obtain⟨j,h1,h2,h3,h4,h5⟩:=w9 he
 obtain⟨w,ew,AB⟩:=r.get h2
 have hl:=r.length
 have hn:=nu
 have fin:EP X pins σ Q w s:=⟨z,H,I,AB,q⟩
 by_cases h0:0<=i
 ·have hj:i.toNat=j:=by
   rw[seqIndex_of h0 h5] at h1
   exact Option.some.inj h1
  exact item_listR pl.isList h0 (by omega) (by rw[hj];simpa using ew) fin hs
 ·have hj:(i+(its.toArray.size:Int)).toNat=j:=by
   rw[seqIndex_neg (by omega) h4] at h1
   rw[List.size_toArray,<- hl]
   exact Option.some.inj h1
  exact subscriptTail_builtinR (x:=w) pl.isList.typeIs slot_list_getitem.lookup
   (wpAny_getItem_list_neg (Q:=fun r s'=>r=w/\EP X pins σ Q r s') pl.isList (by omega) (by rw[List.size_toArray]<;>omega) (by omega) (by rw[hj];simpa using ew) ⟨rfl,fin⟩) hs
theorem bQ:Ec X (Ed X.K):=by
 intro value slice pins s σ H x y v u Q I rx ry h hs
 obtain⟨p,xs,i,z,rfl,rfl,hq,he,q⟩:=h
 cases rx
 obtain⟨t,rfl⟩:=ry
 obtain⟨its,r,pl,hz⟩:=I.tuple hq
 obtain⟨j,h1,h2,h3,h4,h5⟩:=w9 he
 obtain⟨w,ew,AB⟩:=r.get h2
 have hl:=r.length
 have hn:=nu
 have fin:EP X pins σ Q w s:=⟨z,H,I,AB,q⟩
 exact subscriptTail_builtinR (x:=w) pl.typeIs slot_tuple_getitem.lookup
  (getItem_tuple (j:=j) (Q:=fun r s'=>r=w/\EP X pins σ Q r s') pl (by omega) (by omega) (by rw[List.size_toArray,<- hl];exact h1) (by simpa using ew) ⟨rfl,fin⟩) hs
theorem GV:Ec X SG:=by
 intro value slice pins s σ H x y v u Q I rx ry h hs
 obtain⟨z,i,c,rfl,rfl,hz,he,q⟩:=h
 obtain⟨t,rfl⟩:=rx
 obtain⟨t',rfl⟩:=ry
 obtain⟨j,h1,h2,h3,h4,h5⟩:=w9 he
 have hl:z.cps.toList.length=z.length:=by simp [Str.length]
 rw[hl] at h1 h4 h5
 have hn:=nu
 exact tail_any (typeIs_str s z t) slot_str_getitem.lookup (getItem_str (c:=c) (by
  have e1:decide (i < -(2 ^ 63:Int))=false:=decide_eq_false (by omega)
  have e2:decide (i≥2 ^ 63)=false:=decide_eq_false (by omega)
  rw[e1,e2,Bool.or_false]) (by rw[h1];simpa using h2) ⟨.str ⟨#[c]⟩,H,I.tok _,⟨_,rfl⟩,q⟩) hs
theorem AZ(its:List Value)(n j:Nat)(u:Value):Obj.mapSeq (·.setIfInBounds j u) { cls:=.type "list",data:=.seq its.toArray n }={ cls:=.type "list",data:=.seq (its.set j u).toArray n }:=by
 simp [Obj.mapSeq]
theorem Inv.lst{pins:List (Addr×Obj)}{σ:St}{H:Hp}{s:Shared}{p:Addr}{xs:List V}(I:Inv X pins σ H s)(h:H p=some (.lst xs)) :
  ∃ (its:List Value) (n:Nat),Vals xs its/\s.heap.get? p=some { cls:=.type "list",data:=.seq its.toArray n }/\xs.length<=sizeLine:=by
 obtain⟨z,its,n,r,e⟩:=I.a8 p _ h
 exact⟨its,n,r,e,z⟩
theorem Inv.N_{pins:List (Addr×Obj)}{σ:St}{H:Hp}{s:Shared}{p:Addr}{xs ys:List V}{its its':List Value}{n n':Nat}{f:Obj->Obj}(I:Inv X pins σ H s)(h:H p=some (.lst xs))
  (ho:s.heap.get? p=some { cls:=.type "list",data:=.seq its.toArray n }) (hf:f { cls:=.type "list",data:=.seq its.toArray n }={ cls:=.type "list",data:=.seq its'.toArray n' }) (r:Vals ys its') (hz:ys.length<=sizeLine) (t:Nat) :
  Inv X pins σ (upd H p (.lst ys)) { s with heap:=s.heap.update p f,toks:=t }:=by
 have e:(s.heap.update p f).get? p=some { cls:=.type "list",data:=.seq its'.toArray n' }:=by
  rw[Heap.get?_update_self f ho (by rw[hf]<;>rfl),hf]
 refine I.write (x:=p) (e:=p) (by rw[h];trivial) (.inl rfl) (fun b u hb q=>(Heap.get?_update_other _ _ (Ne.symm hb)).trans q) ⟨_,e⟩ ?_
 exact⟨hz,its',n',r,e⟩
def SH:V->V->V->Hp->(Hp->Prop)->Prop:=fun o i v H Q=>∃ p xs k j,o=.ref p/\i=.int k/\H p=some (.lst xs)/\GH xs.length k=some j/\Q (upd H p (.lst (xs.set j v)))
theorem set_list:Sk X SH:=by
 intro pins s σ H o i v ov iv u Q I ro ri rv h
 obtain⟨p,xs,k,j,rfl,rfl,hp,hj,q⟩:=h
 cases ro
 obtain⟨t,rfl⟩:=ri
 obtain⟨its,n,r,ho,hz⟩:=I.lst hp
 obtain⟨h1,h2,h3,h4⟩:=C9 hj
 have hl:=r.length
 have hn:=nu
 have I':Inv X pins σ (upd H p (.lst (xs.set j v))) { s with heap:=s.heap.update p (Obj.mapSeq (·.setIfInBounds j u)) } :=
  I.N_ hp ho (AZ its n j u) (r.set rv j) (by rw[List.length_set];exact hz) s.toks
 by_cases h0:0<=k
 ·have hk:k.toNat=j:=by
   rw[seqIndex_of h0 h4] at h1
   exact Option.some.inj h1
  exact W.ki_setAt ho h0 (by omega) (by rw[List.size_toArray,<- hl];exact h4) (by rw[hk];exact⟨_,I',q⟩)
 ·have hk:(k+(its.toArray.size:Int)).toNat=j:=by
   rw[seqIndex_neg (by omega) h3] at h1
   rw[List.size_toArray,<- hl]
   exact Option.some.inj h1
  exact W.ki_setBack ho (by omega) (by rw[List.size_toArray,<- hl];exact h3) (by omega) (by rw[hk];exact⟨_,I',q⟩)
theorem w_(lo hi:Option Int)(n:Nat):(sliceBounds lo hi none n).1=((HT.yQ n 0 lo:Nat):Int)/\(sliceBounds lo hi none n).2.1=((HT.yQ n n hi:Nat):Int)/\(sliceBounds lo hi none n).2.2=1:=by
 refine⟨?_,?_,rfl⟩
 ·cases lo with
  | none=>simp [sliceBounds,HT.yQ]
  | some i =>
   simp only[sliceBounds,HT.yQ,Option.getD_none,show(1:Int)>0 by decide,if_true]
   by_cases h:i<0
   ·simp only[h,if_true]<;>omega
   ·simp only[h,if_false]<;>omega
 ·cases hi with
  | none=>simp [sliceBounds,HT.yQ]
  | some i =>
   simp only[sliceBounds,HT.yQ,Option.getD_none,show(1:Int)>0 by decide,if_true]
   by_cases h:i<0
   ·simp only[h,if_true]<;>omega
   ·simp only[h,if_false]<;>omega
theorem vn(its:List Value)(lo hi:Option Int):slicePick its.toArray lo hi none=((its.drop (HT.yQ its.length 0 lo)).take (HT.yQ its.length its.length hi - HT.yQ its.length 0 lo)).toArray:=by
 obtain⟨h1,h2,h3⟩:=w_ lo hi its.toArray.size
 unfold slicePick
 rw[h1,h2,h3]
 simp only[sliceRange_one,pick_run,List.size_toArray]<;>rfl
def W_(K:W.Frag):V->Option Int->Option Int->Hp->VK->Prop:=fun x lo hi H Q=>∃ a xs,x=.ref a/\bx K H a xs/\∀ p,H p=none->Q (.ref p) (upd H p (.lst (nA xs lo hi)))
theorem oz:SlR X (W_ X.K):=by
 intro pins s σ H x v vl vu lo hi sl Q I rx hs pl pu h
 obtain⟨a,xs,rfl,hx,q⟩:=h
 cases rx
 obtain⟨its,r,ht,hz⟩:=I.list hx
 have hlen:=r.length
 refine⟨"list",_,slot_list_getitem.lookup,ht.isList.typeIs,?_⟩
 refine wpAny_getItem_list_slice ht.isList hs pl pu .none (by simp) ?_ (by rw[List.size_toArray]<;>omega)
 rw[vn,<- hlen]
 refine⟨.ref s.heap.objs.size,_,I.laid (t':=s.toks) (o:=.lst (nA xs lo hi)) (fun b ob q=>Heap.get?_push_of_some _ q) (Nat.le_refl _) ?_,rfl,q _ (I.a8.fresh (Nat.le_refl _))⟩
 exact⟨Nat.le_trans (yS xs lo hi) hz,_,0,(r.drop (HT.yQ xs.length 0 lo)).take (HT.yQ xs.length xs.length hi - HT.yQ xs.length 0 lo),Heap.get?_push_size _ rfl⟩
def jL:V->Bool
 | .bY=>true
 | .bl _=>true
 | .int _=>true
 | .str _=>true
 | _=>false
def J_:V->V->Bool
 | .bY,.bY=>true
 | .bl a,.bl b=>a == b
 | .bl a,.int b=>(if a then 1 else 0) == b
 | .int a,.bl b=>a == (if b then 1 else 0)
 | .int a,.int b=>a == b
 | .str a,.str b=>a == b
 | _,_=>false
theorem N'{A:Around}{s:Shared}{y x:V}{u v:Value}(ry:RelV y u)(rx:RelV x v)(fy:jL y=true)(fx:jL x=true):SeqAt.EqAt A s u v (J_ y x):=by
 cases y with
 | bY =>
  cases ry
  cases x with
  | bY=>cases rx;exact SeqAt.EqAt.same _
  | bl b=>cases rx;exact SeqAt.EqAt.none_bool b
  | int b=>obtain⟨t,rfl⟩:=rx;exact SeqAt.EqAt.none_int b t
  | str b=>obtain⟨t,rfl⟩:=rx;exact SeqAt.EqAt.none_str b t
  | _=>exact absurd (show false=true from fx) Bool.false_ne_true
 | bl a =>
  cases ry
  cases x with
  | bY=>cases rx;exact SeqAt.EqAt.bool_none a
  | bl b=>cases rx;exact SeqAt.EqAt.bool_bool a b
  | int b=>obtain⟨t,rfl⟩:=rx;exact SeqAt.EqAt.bool_int a b t
  | str b=>obtain⟨t,rfl⟩:=rx;exact SeqAt.EqAt.bool_str a b t
  | _=>exact absurd (show false=true from fx) Bool.false_ne_true
 | int a =>
  obtain⟨t',rfl⟩:=ry
  cases x with
  | bY=>cases rx;exact SeqAt.EqAt.int_none a t'
  | bl b=>cases rx;exact SeqAt.EqAt.int_bool a t' b
  | int b=>obtain⟨t,rfl⟩:=rx;exact SeqAt.EqAt.int_int a t' b t
  | str b=>obtain⟨t,rfl⟩:=rx;exact SeqAt.EqAt.int_str a t' b t
  | _=>exact absurd (show false=true from fx) Bool.false_ne_true
 | str a =>
  obtain⟨t',rfl⟩:=ry
  cases x with
  | bY=>cases rx;exact SeqAt.EqAt.str_none a t'
  | bl b=>cases rx;exact SeqAt.EqAt.str_bool a t' b
  | int b=>obtain⟨t,rfl⟩:=rx;exact SeqAt.EqAt.str_int a t' b t
  | str b=>obtain⟨t,rfl⟩:=rx;exact SeqAt.EqAt.str_str a t' b t
  | _=>exact absurd (show false=true from fx) Bool.false_ne_true
 | _=>exact absurd (show false=true from fy) Bool.false_ne_true
def A0(x:V)(u:Value):Bool:=match u with
 | .none=>J_ .bY x
 | .bool b=>J_ (.bl b) x
 | .int i _=>J_ (.int i) x
 | .str z _=>J_ (.str z) x
 | _=>false
theorem GX{x y:V}{u:Value}(r:RelV y u)(f:jL y=true):A0 x u=J_ y x:=by
 cases y with
 | bY=>cases r;rfl
 | bl b=>cases r;rfl
 | int i=>obtain⟨t,rfl⟩:=r;rfl
 | str z=>obtain⟨t,rfl⟩:=r;rfl
 | _=>exact absurd (show false=true from f) Bool.false_ne_true
theorem oA{x:V}:∀ {xs:List V} {us:List Value},Vals xs us->xs.all jL=true->us.any (A0 x)=xs.any fun y=>J_ y x
 | _,_,.nil,_=>rfl
 | y::xs,u::us,.cons r t,f=>by
  rw[List.all_cons,Bool.and_eq_true] at f
  rw[List.any_cons,List.any_cons,GX r f.1,oA t f.2]
theorem k_{A:Around}{s:Shared}{x:V}{v:Value}(rx:RelV x v)(fx:jL x=true):∀ {xs:List V} {us:List Value},Vals xs us->xs.all jL=true->∀ u∈us,SeqAt.EqAt A s u v (A0 x u)
 | _,_,.nil,_=>fun u hu=>by cases hu
 | y::xs,u::us,.cons r t,f=>fun u' hu=>by
  rw[List.all_cons,Bool.and_eq_true] at f
  rcases List.mem_cons.mp hu with rfl | hu
  ·rw[GX r f.1];exact N' r rx f.1 fx
  ·exact k_ rx fx t f.2 u' hu
def Oa(x:V)(xs:List V):Bool:=xs.any fun y=>J_ y x
def rIn(K:W.Frag)(neg:Bool):R2:=fun x y H Q=>∃ p xs,y=.ref p/\(bx K H p xs\/bV K H p xs)/\jL x=true/\xs.all jL=true/\Q (.bl (if neg then !Oa x xs else Oa x xs)) H
theorem Ee:pV X (compareOp .In) (rIn X.K false):=by
 intro pins s σ H x y v u Q I rx ry h
 obtain⟨p,xs,rfl,hq,fx,fs,q⟩:=h
 cases ry
 rcases hq with hq | hq
 ·obtain⟨its,r,pl,hz⟩:=I.list hq
  refine SeqAt.in_listAt (A0 x) pl.isList (fun w hw=>k_ rx fx r fs w (by simpa using hw)) ⟨.bl _,H,I,rfl,?_⟩
  rw[show its.toArray.any (A0 x)=its.any (A0 x) by simp,oA r fs]
  exact q
 ·obtain⟨its,r,pl,hz⟩:=I.tuple hq
  refine SeqAt.in_tupleAt (A0 x) pl (fun w hw=>k_ rx fx r fs w (by simpa using hw)) ⟨.bl _,H,I,rfl,?_⟩
  rw[show its.toArray.any (A0 x)=its.any (A0 x) by simp,oA r fs]
  exact q
theorem oB:pV X (compareOp .NotIn) (rIn X.K true):=by
 intro pins s σ H x y v u Q I rx ry h
 obtain⟨p,xs,rfl,hq,fx,fs,q⟩:=h
 cases ry
 rcases hq with hq | hq
 ·obtain⟨its,r,pl,hz⟩:=I.list hq
  refine SeqAt.notIn_listAt (A0 x) pl.isList (fun w hw=>k_ rx fx r fs w (by simpa using hw)) ⟨.bl _,H,I,rfl,?_⟩
  rw[show its.toArray.any (A0 x)=its.any (A0 x) by simp,oA r fs]
  exact q
 ·obtain⟨its,r,pl,hz⟩:=I.tuple hq
  refine SeqAt.notIn_tupleAt (A0 x) pl (fun w hw=>k_ rx fx r fs w (by simpa using hw)) ⟨.bl _,H,I,rfl,?_⟩
  rw[show its.toArray.any (A0 x)=its.any (A0 x) by simp,oA r fs]
  exact q
theorem aT:g9 X (.builtin "len") (fun xs H Q=>∃ p ys,xs=[.ref p]/\(bx X.K H p ys\/bV X.K H p ys)/\Q (.int ys.length) H):=by
 intro pins s σ H xs us Q I r h
 obtain⟨p,ys,rfl,hq,q⟩:=h
 obtain⟨u,rfl,rx⟩:=vals1 r
 cases rx
 have hn:=nu
 rcases hq with hq | hq
 ·obtain⟨its,r',pl,hz⟩:=I.list hq
  have hlen:=r'.length
  exact Calls.call_len_list pl.isList (by simp only[List.size_toArray]<;>omega) ⟨.int ys.length,H,I.tok _,⟨s.toks+1,by rw[List.size_toArray,hlen]⟩,q⟩
 ·obtain⟨its,r',pl,hz⟩:=I.tuple hq
  have hlen:=r'.length
  exact len_tuple pl (by simp only[List.size_toArray]<;>omega) ⟨.int ys.length,H,I.tok _,⟨s.toks+1,by rw[List.size_toArray,hlen]⟩,q⟩
theorem oC:g9 X (.builtin "len") (fun xs H Q=>∃ z,xs=[.str z]/\z.length<=sizeLine/\Q (.int z.length) H):=by
 intro pins s σ H xs us Q I r h
 obtain⟨z,rfl,hz,q⟩:=h
 obtain⟨u,rfl,t,rfl⟩:=vals1 r
 have hn:=nu
 exact len_str (by omega) ⟨.int z.length,H,I.tok _,⟨_,rfl⟩,q⟩
theorem iP:g9 X (.type "list") (fun xs H Q=>∃ p ys,xs=[.ref p]/\(bx X.K H p ys\/bV X.K H p ys)/\∀ l,H l=none->Q (.ref l) (upd H l (.lst ys))):=by
 intro pins s σ H xs us Q I r h
 obtain⟨p,ys,rfl,hq,q⟩:=h
 obtain⟨u,rfl,rx⟩:=vals1 r
 cases rx
 have fin:∀ (its:List Value),Vals ys its->ys.length<=sizeLine->∀ (h':Heap) (c':Nat),(∀ b o',s.heap.get? b=some o'->h'.get? b=some o') ->
   h'.get? s.heap.objs.size=some { cls:=.type "list",dict:=none,data:=.seq its.toArray c',slots:=#[] }->EP X pins σ Q (.ref s.heap.objs.size) { s with heap:=h' }:=fun its r' hz h' c' kp e =>
  ⟨.ref s.heap.objs.size,_,I.laid (t':=s.toks) kp (Nat.le_refl _) (show bI X.prog X.w _ h' _ (.lst ys) from ⟨hz,its,c',r',e⟩),rfl,q _ (I.a8.fresh (Nat.le_refl _))⟩
 rcases hq with hq | hq
 ·obtain⟨its,r',pl,hz⟩:=I.list hq
  have hlen:=r'.length
  obtain⟨o,ho,hc,n,hd⟩:=pl.isList
  exact call_list_seq p (.inl rfl) ho hc hd (fun h' c' kp e=>fin its r' hz h' c' kp e) (by simp only[List.size_toArray]<;>omega)
 ·obtain⟨its,r',pl,hz⟩:=I.tuple hq
  have hlen:=r'.length
  obtain⟨o,ho,hc,n,hd⟩:=pl
  exact call_list_seq p (.inr rfl) ho hc hd (fun h' c' kp e=>fin its r' hz h' c' kp e) (by simp only[List.size_toArray]<;>omega)
theorem mT:g9 X (.type "tuple") (fun xs H Q=>∃ p ys,xs=[.ref p]/\((bx X.K H p ys/\∀ l,H l=none->Q (.ref l) (upd H l (.tup ys)))\/(bV X.K H p ys/\Q (.ref p) H))):=by
 intro pins s σ H xs us Q I r h
 obtain⟨p,ys,rfl,h⟩:=h
 obtain⟨u,rfl,rx⟩:=vals1 r
 cases rx
 rcases h with ⟨hq,q⟩ | ⟨hq,q⟩
 ·obtain⟨its,r',pl,hz⟩:=I.list hq
  have hlen:=r'.length
  refine call_tuple_list pl.isList (fun h' kp=>?_) (by simp only[List.size_toArray]<;>omega)
  have I1:Inv X pins σ H { s with heap:=h' }:=I.kept (t':=s.toks) kp
  have I2:Inv X pins σ (upd H h'.objs.size (.tup ys)) { s with heap:=h'.push { cls:=.type "tuple",data:=.seq its.toArray } } :=
   I1.laid (t':=s.toks) (fun b o e=>Heap.get?_push_of_some _ e) (Nat.le_refl _) (show bI X.prog X.w _ _ _ (.tup ys) from ⟨hz,its,r',IsTup.new _ _⟩)
  exact⟨.ref h'.objs.size,_,I2,rfl,q _ (I1.a8.fresh (Nat.le_refl _))⟩
 ·obtain⟨its,r',pl,hz⟩:=I.tuple hq
  exact call_tuple_same pl ⟨.ref p,H,I,rfl,q⟩
def tyV(K:W.Frag)(T:String)(x:V)(H:Hp):Prop:=match x with
 | .str _=>T = "str"
 | .int _=>T = "int"
 | .ref p=>(T = "list" /\ ∃ xs,bx K H p xs)\/(T = "tuple" /\ ∃ o,K.lookup p=some o/\o.cls=.type "tuple" /\ o.dict=none) \/
   (T = "dict" /\ ((∃ aJ,H p=some (.dK aJ))\/∃ aJ,H p=some (.dT aJ)))\/(T = "set" /\ ∃ S n,H p=some (.set S n))
 | _=>False
theorem Ob{pins:List (Addr×Obj)}{σ:St}{H:Hp}{s:Shared}{T:String}{x:V}{v:Value}(I:Inv X pins σ H s)(r:RelV x v)(ty:tyV X.K T x H) :
  s.TypeIs v T/\∀ a,v=.ref a->∃ ob,s.heap.get? a=some ob/\ob.dict=none:=by
 cases x with
 | str z =>
  obtain⟨t,rfl⟩:=r
  cases(show T = "str" from ty)
  exact⟨typeIs_str s z t,fun _ e=>nomatch e⟩
 | int i =>
  obtain⟨t,rfl⟩:=r
  cases(show T = "int" from ty)
  exact⟨typeIs_int s i t,fun _ e=>nomatch e⟩
 | ref p =>
  cases r
  rcases ty with ⟨rfl,xs,hq⟩ | ⟨rfl,o,hk,hc,hd⟩ | ⟨rfl,hk⟩ | ⟨rfl,S,n,hk⟩
  ·obtain⟨its,_,pl,_⟩:=I.list hq
   refine⟨pl.isList.typeIs,fun a e=>?_⟩
   cases e
   obtain⟨o,n,e,c,hd,_⟩:=pl
   exact⟨o,e,hd⟩
  ·refine⟨⟨o,I.jI p o hk,hc⟩,fun a e=>?_⟩
   cases e
   exact⟨o,I.jI _ o hk,hd⟩
  ·have z:∃ o,s.heap.get? p=some o/\o.ExactDict:=by
    rcases hk with ⟨aJ,hk⟩ | ⟨aJ,hk⟩
    ·obtain⟨_,_,_,_,o,_,_,e,ex,_⟩:=I.a8 p _ hk
     exact⟨o,e,ex⟩
    ·obtain⟨_,_,_,_,o,_,_,e,ex,_⟩:=I.a8 p _ hk
     exact⟨o,e,ex⟩
   obtain⟨o,e,ex⟩:=z
   refine⟨⟨o,e,ex.1⟩,fun a e2=>?_⟩
   cases e2
   exact⟨o,e,ex.2.1⟩
  ·obtain⟨o,_,_,_,e,ex,_⟩:=I.a8 p _ hk
   refine⟨⟨o,e,ex.1⟩,fun a e2=>?_⟩
   cases e2
   exact⟨o,e,ex.2.1⟩
 | _=>exact False.elim ty
def tBM(K:W.Frag)(T:String)(r:V->List V->Hp->VK->Prop)(to:TE)(t:TA):TE:=fun σ H Q=>to σ H fun x H1=>tyV K T x H1/\t σ H1 fun xs H2=>r x xs H2 Q
variable{o e:Expr}{es:List Expr}{to:TE}{t:TA}{name:Str}{apos j':Pos}{T id:String}{r:V->List V->Hp->VK->Prop}
theorem mU(pa:PlainAttrs T)(slot:Slot T name id)(hty:typeOf (.builtin id)=pure (.type "method_descriptor"))(hm:W9 X id r)(ho:PE X o to)(ha:PA X (e::es) t)
  (GY:attributeBase o name X.env (eval o X.env)=eval o X.env:=by rfl)
  (W':((backTo j' (starEach (e::es) X.env)).all (fun x=>!x.1)&&(backToKw j' (keywordEach [] X.env)).all (fun x=>x.1.isSome)
   && decide ((e::es).length+([]:List Keyword).length+(if ([]:List Keyword).isEmpty then 0 else 1)<30))=true:=by rfl)
  (SJ:(apos.endLine == j'.line)=true:=by rfl) (hs:starEach (e::es) X.env=(false,eval e X.env)::starEach es X.env:=by rfl) (Oc:(backTo j' (starEach es X.env)).any (·.1)=false:=by rfl) :
  PE X (.Call (.Attribute o name apos) (e::es) [] j') (tBM X.K T r to t):=by
 intro pins s σ H Q I h
 refine wpAny_Call_method_late GY W' SJ rfl (bg (ho pins s σ H _ I h) fun v s1 ⟨x,H1,I1,r1,ty,q1⟩=>?_)
 obtain⟨h1,h2⟩:=Ob I1 r1 ty
 refine⟨T,id,pa,slot,hty,h1,h2,?_⟩
 have hA:=ha j' pins s1 σ H1 _ I1 q1
 rw[hs] at hA ⊢
 refine Calls.callWith_builtin (by show(false||(backTo j' (starEach es X.env)).any (·.1))=false;rw[Oc]<;>rfl) (Calls.evalArgs_plain ?_)
 exact bg hA fun us s2 ⟨vs,H2,I2,r2,q2⟩=>hm pins s2 σ H2 x vs v us Q I2 r1 r2 q2
end
def MtM(X:Cx)(id:String)(r:V->List V->Hp->VK->Prop):Prop :=
 ∀ (pins:List (Addr×Obj)) (s:Shared) (σ:St) (H:Hp) (x:V) (xs:List V) (v:Value) (us:List Value) (Q:VK),Inv X pins σ H s->RelV x v->Vals xs us->r x xs H Q ->
  wpAny (model X.prog X.w) X.A (call (.builtin id) (v::us)) (EP X pins σ Q) X.xe s
theorem Vals.one:∀ {x:V} {us:List Value},Vals [x] us->∃ u,us=[u]/\RelV x u
 | _,_,.cons r .nil=>⟨_,rfl,r⟩
section
variable{X:Cx}{pins:List (Addr×Obj)}{σ:St}{H:Hp}{s:Shared}{l b:Addr}{xs ys zs:List V}
theorem Inv.Xa{its its':List Value}{n:Nat}{f:Array Value->Array Value}{t':Nat}(I:Inv X pins σ H s)(hH:H l=some (.lst xs))
  (e:s.heap.get? l=some { cls:=.type "list",data:=.seq its.toArray n }) (hf:f its.toArray=its'.toArray) (hv:Vals ys its') (hz:ys.length<=sizeLine) :
  Inv X pins σ (upd H l (.lst ys)) { s with heap:=s.heap.update l (Obj.mapSeq f),toks:=t' }:=by
 have q:=PySem.IsL.update e f
 rw[hf] at q
 refine I.write (x:=l) (e:=l) (by rw[hH];exact trivial) (.inl rfl) (fun b' u hb hu=>(Heap.get?_update_other s.heap (Obj.mapSeq f) (Ne.symm hb)).trans hu) ⟨_,q⟩ ?_
 exact⟨hz,its',_,hv,q⟩
theorem Inv.GZ{its:List Value}{t':Nat}(I:Inv X pins σ H s)(hv:Vals ys its)(hz:ys.length<=sizeLine) :
  Inv X pins σ (upd H s.heap.objs.size (.lst ys)) { s with heap:=s.heap.push { cls:=.type "list",data:=.seq its.toArray },toks:=t' } :=
 I.laid (fun _ _ q=>Heap.get?_push_of_some _ q) (Nat.le_refl _) ⟨hz,its,0,hv,Heap.get?_push_size _ rfl⟩
theorem Inv.fresh(I:Inv X pins σ H s):H s.heap.objs.size=none:=I.a8.fresh (Nat.le_refl _)
theorem Inv.Od(I:Inv X pins σ H s)(hH:H l=some (.lst xs)):xs.length<=sizeLine/\∃ (its:List Value) (n:Nat),Vals xs its/\xs.length=its.length/\s.heap.get? l=some { cls:=.type "list",data:=.seq its.toArray n }:=by
 obtain⟨z,its,n,r,e⟩:=I.a8 l _ hH
 exact⟨z,its,n,r,r.length,e⟩
end
section
variable{X:Cx}
def KP:V->List V->Hp->VK->Prop:=fun x vs H Q=>∃ l xs y,x=.ref l/\vs=[y]/\H l=some (.lst xs)/\xs.length<sizeLine/\Q .bY (upd H l (.lst (xs++[y])))
theorem eS:MtM X "list.append" KP:=by
 intro pins s σ H x vs v us Q I rx rv h
 obtain⟨l,xs,y,rfl,rfl,hH,hz,q⟩:=h
 cases rx
 obtain⟨u,rfl,ru⟩:=rv.one
 obtain⟨z,its,n,r,hl,e⟩:=I.Od hH
 refine call_meets F.slot_list_append ⟨_,e,rfl⟩ F.entry_list_append (F.args_list_append_2 _ _) (PySem.list_append l its.toArray n u (by rw[List.size_toArray];omega)) ⟨e,?_⟩
 refine⟨.bY,_,I.Xa (its':=its++[u]) hH e (by simp) (r.append (.cons ru .nil)) ?_,rfl,q⟩
 rw[List.length_append,List.length_singleton]
 omega
def Xb:R2:=fun x y H Q=>∃ l b xs zs,x=.ref l/\y=.ref b/\H l=some (.lst xs)/\H b=some (.lst zs)/\xs.length+zs.length<=sizeLine/\∀ p,H p=none->Q (.ref p) (upd H p (.lst (xs++zs)))
theorem i4:pV X (binaryOp .Add) Xb:=by
 intro pins s σ H x y v u Q I rx ry h
 obtain⟨l,b,xs,zs,rfl,rfl,hH,hB,hz,q⟩:=h
 cases rx
 cases ry
 obtain⟨z,its,n,r,hl,e⟩:=I.Od hH
 obtain⟨z2,KN,n2,r2,F4,e2⟩:=I.Od hB
 refine PySem.P.add_list e e2 ?_ (by rw[List.size_toArray,List.size_toArray];omega)
 have ea:its.toArray++KN.toArray=(its++KN).toArray:=by simp
 rw[ea]
 exact⟨.ref _,_,I.GZ (t':=s.toks) (r.append r2) (by rw[List.length_append];omega),rfl,q _ I.fresh⟩
end
section
variable{prog:Program}{w:World}{A:Around}{E:Value->Shared->Prop}{s:Shared}
set_option maxRecDepth 100000 in
end
end L2
namespace Att
open PySem PySem.W PySem.Calls PyProof.Rows
theorem rA{P:Params}{h:Heap}:∀ (ns:List Int) (vs:List Value),WellAll P h vs (ns.map WData.int)->IntsAre vs ns:=by
 intro ns
 induction ns with
 | nil =>
  intro vs w
  rw[List.map_nil] at w
  cases w
  exact .nil
 | cons n ns ih =>
  intro vs w
  rw[List.map_cons] at w
  cases w with
  | cons a b =>
   cases a
   exact .cons _ _ (ih _ b)
theorem Ef{l:OpenLaw}{n:Nat}(hn:l.most=some n){P:Params}{h:Heap}{args:List WData}{vals:List Value}
  (KQ:l.row.toRowW.claim.pre args=true) (Xc:WellAll P h vals args) :
  ∃ a vs ns,vals=[Value.ref a]/\args=[WData.list (ns.map WData.int)]/\h.get? a=some { cls:=.type "list",data:=.seq vs.toArray }/\IntsAre vs ns/\ns.length<=n:=by
 have hsh:WShape.hasAll [] args [.list .int]=true:=(pre_splitW KQ).1
 have hc:l.pre.holds [] { args:=args }=true:=(pre_splitW KQ).2
 obtain⟨d,r,rfl,h1,h2⟩:=hasAllW_cons hsh
 obtain rfl:=hasAllW_nil h2
 obtain⟨xs,rfl,h3⟩:=hasW_list h1
 obtain⟨ns,rfl⟩:=items_int h3
 have hlen:ns.length<=n:=by
  unfold OpenLaw.pre at hc
  have h4:(WTm.not (.lt (.lit (.int (n:Int))) (.len (.arg 0)))).holds [] { args:=[.list (ns.map .int)] }=true:=by
   have h4:=(holds_andW hc).1
   rw[hn] at h4
   exact h4
  have h5:=condW_of h4 (w_not (w_lt w_lit (w_len_list (w_arg rfl))))
  rw[List.length_map] at h5
  refine Nat.le_of_not_lt fun q=>?_
  have q':(n:Int)<((ns.length:Nat):Int):=by omega
  first
   | (rw[decide_eq_true q'] at h5;exact absurd h5 (by decide))
   | (simp at h5;omega)
 cases Xc with
 | cons w1 w2 =>
  cases w2
  cases w1 with
  | list ho A2=>exact⟨_,_,ns,rfl,rfl,ho,rA ns _ A2,hlen⟩
theorem Eg(l:OpenLaw)(args:List WData):l.row.toRowW.claim.post args (.bool true) args=true :=
 postW_of (r:=l.row.toRowW) (X:=(true == true))
  (show WShape.has [] (.bool true) .bool=true by first | rfl | decide | simp [WShape.has,WShape.arms,WShape.armsAll])
  (show(WTm.eq .res (.lit (.bool true))).value [] { args:=args,res:=some (.bool true),after:=args }=some (.bool (true == true)) from w_eq_bool (w_res rfl) w_lit) rfl
theorem yT{l:OpenLaw}{n:Nat}{q:Program}{loose:List Str}{XP:(Str->Option Value)->Heap->Prop}{YP:World->Heap->Prop}{d:DefRec}
  (hn:l.most=some n) (M0:d.params.defaults=[])
  (call:∀ (w:World) (g0 bq:Shared) (mg mb:Str->Option Value) (fa:Addr) (o:Obj) (pm cd doc:Value) (a:Addr) (vs:List Value) (ns:List Int),
   Ground q loose [] XP w g0 mg mb bq.heap->YP w bq.heap ->
   bq.heap.get? fa=some o->o.data=.func (docDef d.name d.params d.body d.scope pm cd doc)->bq.heap.CodeRec cd d.name->mg d.name=some (.ref fa) ->
   bq.heap.get? a=some { cls:=.type "list",data:=.seq vs.toArray }->IntsAre vs ns->ns.length<=n->bq.gens=#[] ->
   codeAny (model l.prog w) callerA (.call (.ref fa) ⟨[.ref a],[]⟩) (fun r s'=>r=.ok (.ret (.bool true))/\OldK bq.heap s'.heap/\s'.os=bq.os/\AllBare s'.gens) bq) :
  WalkO q loose XP YP l.row.toRowW d [] (fun f vs=>PySem.call f vs):=by
 intro w g0 bq mg mb G Y fa o pm cd doc dV kV ho hd yA hD SK hg args vals as KQ afg hrd Xc wg
 obtain rfl:dV=.none:=Dflts.none hD M0
 obtain rfl:kV=.none:=Dflts.noKw hD
 obtain⟨a,vs,ns,rfl,rfl,Oe,hints,hlen⟩:=Ef hn KQ Xc
 refine enter_call (codeAny_mono (call w g0 bq mg mb fa o pm cd doc a vs ns G Y ho (fd_plain hd) yA SK Oe hints hlen hg) fun r s' hq=>?_)
 obtain⟨rfl,h2,h3,h4⟩:=hq
 exact⟨.inl ⟨.bool true,.bool true,[],rfl,fun _=>rfl,.bool true,Eg l _,fun _=>⟨List.Pairwise.nil,fun _ hm=>(nomatch hm)⟩⟩,h2,h3,h4⟩
end Att
namespace L2
open PySem PySem.Spec PyProof.Rows
theorem wj:∀ {vs:List Value} {ns:List Int},IntsAre vs ns->Vals (ns.map V.int) vs
 | _,_,.nil=>.nil
 | _,_,.cons n t h=>.cons ⟨t,rfl⟩ (wj h)
def Of(H:Hp):Prop:=∀ b,H b=none\/∃ o xs,H b=some (.pX o (.lst xs))
theorem G2{P:Program}{w:World}{K:W.Frag}{mg mb:Str->Option Value}{CX:yM}{k:Nat}{fa a:Addr}{fd:FuncData}{x:Str}{sp:Sp}{bq:Shared}{vs:List Value}{ns:List Int}
  (KX:K.In bq.heap) (hns:bq.heap.Ns mainGlobals mg) (hb:bq.heap.Ns builtinsNs mb) (hbb:∀ x:Str,x ≠ "__name__" -> mb x=bootBuiltins x) (Xd:bq.heap.NoLimit) (hg:bq.gens=#[])
  (ha:bq.heap.get? a=some { cls:=.type "list",data:=.seq vs.toArray }) (hi:IntsAre vs ns) (hl:ns.length<=sizeLine) (hr:gz k callerA)
  (F:∀ base:Heap,K.In base->base.Ns mainGlobals mg->aE P w K mg base CX k fa fd [x] sp) (SM:∀ (s:Shared) (u:Value),BindsTo s fd ⟨[u],[]⟩ [(x,u)])
  (yP:∀ H:Hp,Of H->bx K H a (ns.map V.int)->sp [.ref a] H (fun v _=>v=.bl true) fun _ _ _=>False)
  (Xe:∀ H e s',CX [] H bq (fun _ _ _=>False) e s'->False) :
  codeAny (model P w) callerA (.call (.ref fa) ⟨[.ref a],[]⟩) (fun r s'=>r=.ok (.ret (.bool true))/\OldK bq.heap s'.heap/\s'.os=bq.os/\AllBare s'.gens) bq:=by
 have rv:=wj hi
 have Xf:=hi.length
 have core:∀ H:Hp,Of H->bx K H a (ns.map V.int)->lS P w H bq.heap->(∀ b,H b≠none->b=a)->(H a≠none->K.lookup a=none) ->
   codeAny (model P w) callerA (.call (.ref fa) ⟨[.ref a],[]⟩) (fun r s'=>r=.ok (.ret (.bool true))/\OldK bq.heap s'.heap/\s'.os=bq.os/\AllBare s'.gens) bq:=by
  intro H hO hS a8 hA hK
  have C_:∀ {b:Addr} {o:Obj},bq.heap.get? b=some o->H b=none->(wU bq.heap H).get? b=some o:=fun e n=>Ge e n
  have N9:∀ {b:Addr} {o:Obj} {es:Array DictEntry} {ep:Nat},bq.heap.get? b=some o->o.data=.dict es ep->H b=none:=fun {b o es ep} e d=>by
   cases q:H b with
   | none=>rfl
   | some u =>
    have e':b=a:=hA b (by rw[q];simp)
    subst e'
    rw[ha] at e;cases e
    have d':Data.seq vs.toArray _=Data.dict es ep:=d
    cases d'
  have V2:∀ {b:Addr} {m:Str->Option Value},bq.heap.Ns b m->(wU bq.heap H).Ns b m:=fun {b m} ⟨o,es,ep,e,d,r⟩=>⟨o,es,ep,C_ e (N9 e d),d,r⟩
  have hKb:K.In (wU bq.heap H):=fun b o e=>C_ (KX b o e) (by
   cases q:H b with
   | none=>rfl
   | some u =>
    have e':b=a:=hA b (by rw[q];simp)
    subst e'
    rw[hK (by rw[q];simp)] at e;cases e)
  have hM:Mod K mg (wU bq.heap H):=⟨hKb,V2 hns,⟨mb,V2 hb,hbb⟩,let ⟨mc,h1,h2⟩:=Xd;⟨mc,V2 h1,h2⟩⟩
  have e0:AW P w K mg (wU bq.heap H) callerA [] bq H:=⟨rfl,hM,fun b o e=>Kq e,Nat.le_of_eq (D4 _ _),trivial,fun b hb=>absurd (show b∈([]:List Addr) from hb) (by simp),a8,.of_eq hg⟩
  refine codeAny_mono ((F _ hKb (V2 hns)).run callerA [] bq H ⟨[.ref a],[]⟩ [.ref a] [.ref a] _ _ hr e0 (SM bq (.ref a)) (.cons rfl .nil) (yP H hO hS)) fun r s' h=>?_
  cases r with
  | error e=>exact(Xe H e s' h).elim
  | ok fl =>
   cases fl with
   | next=>exact False.elim h
   | brk=>exact False.elim h
   | cont=>exact False.elim h
   | ret u =>
    obtain⟨v,H',os,bare,un,A3,r',q⟩:=h
    have q':v=.bl true:=q
    subst q'
    obtain rfl:u=Value.bool true:=r'
    refine⟨rfl,OldK.of_keep fun b o e=>?_,os,bare⟩
    cases q:H b with
    | none=>exact un.keep b o e q (by intro z;exact absurd (show b∈([]:List Addr) from z) (by simp)) (by simp)
    | some u =>
     rcases hO b with z | ⟨ob,xs,z⟩
     ·rw[q] at z;cases z
     ·have z2:=un.pY b ob _ z
      obtain⟨e1,_⟩:=a8 b _ z
      obtain⟨e2,_⟩:=A3 b _ z2
      rw[e] at e1;cases e1
      exact e2
 cases hk:K.lookup a with
 | some o =>
  have e:=KX a o hk
  rw[ha] at e
  cases e
  refine core (fun _=>none) (fun _=>.inl rfl) (.inr ⟨_,vs.toArray,_,hk,rfl,rfl,rfl,by rw[List.size_toArray,Xf];exact hl,by simpa using rv⟩) (fun b u z=>by have z':(none:Option HO)=some u:=z;cases z') (fun b z=>absurd rfl z) fun z=>absurd rfl z
 | none =>
  refine core (fun b=>if b=a then some (.pX { cls:=.type "list",data:=.seq vs.toArray } (.lst (ns.map V.int))) else none) (fun b=>?_) (.inl (.inr ⟨{ cls:=.type "list",data:=.seq vs.toArray },if_pos rfl⟩)) (fun b u z=>?_) (fun b z=>?_) fun _=>hk
  ·by_cases hb:b=a
   ·exact .inr ⟨_,_,if_pos hb⟩
   ·exact .inl (if_neg hb)
  ·by_cases hb:b=a
   ·have z':=(if_pos hb).symm.trans z
    cases z'
    subst hb
    exact⟨ha,by rw[List.length_map];exact hl,vs,_,rv,ha⟩
   ·have z':=(if_neg hb).symm.trans z
    cases z'
  ·by_cases hb:b=a
   ·exact hb
   ·exact absurd (if_neg hb) z
theorem KR{l:W.OpenLaw}{n k:Nat}{q:Program}{loose:List Str}{XP:(Str->Option Value)->Heap->Prop}{YP:World->Heap->Prop}{d:DefRec}{K:Params->W.Frag}{CX:World->yM}{sp:World->Sp}{x:Str}
  (hn:l.most=some n) (V0:n<=sizeLine) (M0:d.params.defaults=[]) (hr:gz k callerA)
  (hY:∀ (w:World) (h:Heap),YP w h->(K w.params).In h)
  (F:∀ (w:World) (mg:Str->Option Value) (fa:Addr) (h:Heap),(K w.params).In h->h.Ns mainGlobals mg->mg d.name=some (.ref fa) ->
   ∃ fd:FuncData,(∀ (s:Shared) (u:Value),BindsTo s fd ⟨[u],[]⟩ [(x,u)]) /\
    ∀ base:Heap,(K w.params).In base->base.Ns mainGlobals mg->aE l.prog w (K w.params) mg base (CX w) k fa fd [x] (sp w))
  (yP:∀ (w:World) (H:Hp) (a:Addr) (ns:List Int),ns.length<=n->Of H->bx (K w.params) H a (ns.map V.int)->sp w [.ref a] H (fun v _=>v=.bl true) fun _ _ _=>False)
  (Xe:∀ (w:World) (H:Hp) (s:Shared) (e:Value) (s':Shared),CX w [] H s (fun _ _ _=>False) e s'->False) :
  W.WalkO q loose XP YP l.row.toRowW d [] (fun f vs=>PySem.call f vs):=by
 refine Att.yT hn M0 fun w g0 bq mg mb fa o pm cd doc a vs ns G Y ho hd yA SK Oe hints hlen hg=>?_
 have KX:=hY w _ Y
 obtain⟨fd,hb,hF⟩:=F w mg fa _ KX G.T.g SK
 exact G2 KX G.T.g G.T.b G.T.builtins G.T.nolimit hg Oe hints (Nat.le_trans hlen V0) hr hF hb (fun H hO hS=>yP w H a ns hlen hO hS) fun H e s'=>Xe w H bq e s'
end L2
namespace L2
open PySem PySem.Spec PyProof.Rows
def inClass(s:Stmt)(j:Nat):Stmt:=match s with
 | .ClassDef _ _ _ body _ _ _ _ _ _ _=>body.getD j (.Pass ⟨0,0,0,0⟩)
 | _=>.Pass ⟨0,0,0,0⟩
def eT(s:Stmt):Arguments:=match s with
 | .FunctionDef _ a _ _ _ _ _ _ _ _=>a
 | _=>{ posonlyargs:=[],args:=[],vararg:=none,kwonlyargs:=[],kw_defaults:=[],kwarg:=none,defaults:=[] }
def cV(s:Stmt):List Stmt:=match s with
 | .FunctionDef _ _ b _ _ _ _ _ _ _=>b
 | _=>[]
def ao(s:Stmt):Scope:=match s with
 | .FunctionDef _ _ _ _ _ _ sc _ _ _=>sc
 | _=>{ kind:=.function,names:=[],isGenerator:=false,isCoroutine:=false }
abbrev aY:yM:=fun _ _ _ _ _ _=>False
abbrev E0:XK:=fun _ _ _=>False
theorem aS{X:Cx}:Passes aY X E0:=fun _ _ _ _ _ _ _ h=>h.elim
structure d_(K:W.Frag)(x qual:Str)(st:Stmt)(f:Addr)(fd:FuncData):Prop where
 ex:∃ (oc:Value) (od:Option Addr) (kV doc pm:Value) (an:Option Addr) (bJ ct:Value) (C8:Array (Option Value)),
  fd=W.fnOf x qual (eT st) (cV st) (ao st) .none kV doc pm an bJ ct/\K.lookup f=some ⟨oc,od,.func fd,C8⟩/\W.codeIn K bJ qual=true
 kp:W.keepIn K (.ref f)=true
section
variable{P:Program}{w:World}{K:W.Frag}{mg:Str->Option Value}{base:Heap}
theorem d_.ok{x qual:Str}{st:Stmt}{f:Addr}{fd:FuncData}{N ps:List Str}{k:Nat}{sp:Sp}(F:d_ K x qual st f fd)(S:au N ps (ao st))(len:∀ vs H Q E,sp vs H Q E->vs.length=ps.length)
  (tT:∀ (bJ:Value) (A:Around) (outer:List Env) (s:Shared) (H:Hp) (vs:List V) (Q:VK) (E:XK),gz k (A.deeper (envOfC qual (ao st) s.heap.objs.size f bJ))->sp vs H Q E ->
   ∃ t,vj (nv aY P w K mg base N qual (ao st) f bJ A outer s H E).NU (cV st) t/\t { nx:=fun _ H'=>Q .bY H',rt:=Q } (start N vs) H):aE P w K mg base aY (k+1) f fd ps sp:=by
 obtain⟨oc,od,kV,doc,pm,an,bJ,ct,C8,rfl,lk,yA⟩:=F.ex
 refine GF lk yA S len fun A outer s H vs Q E hr yP=>?_
 obtain⟨t,h,q⟩:=tT bJ A outer s H vs Q E hr yP
 exact⟨t,h.NU,q⟩
theorem d_.binds{x qual:Str}{st:Stmt}{f:Addr}{fd:FuncData}{ps:List Str}(F:d_ K x qual st f fd)
  (h:∀ (kV doc pm:Value) (an:Option Addr) (bJ ct:Value) (us:List Value),us.length=ps.length->bindArgs (W.fnOf x qual (eT st) (cV st) (ao st) .none kV doc pm an bJ ct) ⟨us,[]⟩=pure (ps.zip us)):Binds K fd ps []:=by
 obtain⟨oc,od,kV,doc,pm,an,bJ,ct,C8,rfl,lk,yA⟩:=F.ex
 exact .all (h kV doc pm an bJ ct)
theorem G3{x qual:Str}{st:Stmt}{f:Addr}{oc:Value}{od an:Option Addr}{C8:Array (Option Value)}{kV doc pm bJ ct:Value}(l:K.lookup f=some ⟨oc,od,.func (W.fnOf x qual (eT st) (cV st) (ao st) .none kV doc pm an bJ ct),C8⟩)
  (c:W.codeIn K bJ qual=true) (k:W.keepIn K (.ref f)=true):d_ K x qual st f (W.fnOf x qual (eT st) (cV st) (ao st) .none kV doc pm an bJ ct):=⟨⟨oc,od,kV,doc,pm,an,bJ,ct,C8,rfl,l,c⟩,k⟩
end
theorem gc{A:Around}{k:Nat}(hr:gz k A):A.units+1<cLine:=Nat.lt_of_le_of_lt (Nat.add_le_add_left (by decide:1<=64) _) hr.units
theorem dP{n:Nat}(h:n<=1000):n<sizeLine:=Nat.lt_of_le_of_lt h (by decide)
section
variable{X:Cx}
theorem pv(i:Nat){x:Str}{pos:Pos}(hN:X.N[i]?=some x:=by rfl)(hv:MK X.env.scope x:=by first | exact Or.inl rfl | exact Or.inr (Or.inl rfl) | exact Or.inr (Or.inr rfl))(hd:(x == ("__debug__" : Str))=false:=by decide)
  (yA:(x == ("__classdict__" : Str))=false:=by decide):PE X (.Name x pos) (tw i):=NS hN hv hd yA
end
theorem cx{A B:Prop}(h:B):if false=true then A else B:=by
 rw[if_neg Bool.false_ne_true]
 exact h
theorem cH{A B:Prop}(h:A):if true=true then A else B:=by
 rw[if_pos rfl]
 exact h
theorem eg{c A B:Prop}[Decidable c](h1:c->A)(h2:¬ c->B):if c then A else B:=by
 by_cases h:c
 ·rw[if_pos h]
  exact h1 h
 ·rw[if_neg h]
  exact h2 h
def ak(H H':Hp):Prop:=∀ b o,H b=some o->H' b=some o
theorem ak.refl(H:Hp):ak H H:=fun _ _ h=>h
theorem ak.trans{H H1 H2:Hp}(a:ak H H1)(b:ak H1 H2):ak H H2:=fun c o h=>b c o (a c o h)
theorem ak.free{H H':Hp}(e:ak H H'){l:Addr}(h:H' l=Option.none):H l=Option.none:=by
 cases q:H l with
 | none=>rfl
 | some o =>
  rw[e l o q] at h
  cases h
theorem ak.seq{K:W.Frag}{H H':Hp}{a:Addr}{xs:List V}(e:ak H H')(h:bx K H a xs):bx K H' a xs:=by
 rcases h with (h | ⟨o,h⟩) | h
 ·exact .inl (.inl (e _ _ h))
 ·exact .inl (.inr ⟨o,e _ _ h⟩)
 ·exact .inr h
section
variable{κ:Type}[DecidableEq κ]
def iH(aJ:List (κ×V))(k:κ):Option V:=(aJ.find? fun kv=>decide (kv.1=k)).map (·.2)
def putK(aJ:List (κ×V))(k:κ)(v:V):List (κ×V) :=
 if (aJ.any fun kv=>decide (kv.1=k))=true then aJ.map (fun kv=>if kv.1=k then (kv.1,v) else kv) else aJ++[(k,v)]
theorem jM{p:κ×V}{r:List (κ×V)}{k:κ}(e:p.1=k):iH (p::r) k=some p.2:=by simp [iH,List.find?_cons,e]
theorem i5{p:κ×V}{r:List (κ×V)}{k:κ}(e:¬ p.1=k):iH (p::r) k=iH r k:=by simp [iH,List.find?_cons,e]
theorem oE(k:κ):∀ aJ:List (κ×V),(aJ.any fun kv=>decide (kv.1=k))=(iH aJ k).isSome
 | []=>rfl
 | p::r=>by
  rw[List.any_cons]
  by_cases e:p.1=k
  ·simp only[jM e,decide_eq_true e,Bool.true_or,Option.isSome_some]
  ·rw[i5 e,decide_eq_false e,Bool.false_or];exact oE k r
theorem qT(aJ:List (κ×V))(k:κ)(v:V):(putK aJ k v).length<=aJ.length+1:=by
 unfold putK
 split
 ·rw[List.length_map];omega
 ·rw[List.length_append,List.length_cons,List.length_nil];omega
theorem G4{aJ:List (κ×V)}{k:κ}(v:V)(h:iH aJ k=none):putK aJ k v=aJ++[(k,v)]:=by
 unfold putK
 rw[oE,h]
 exact if_neg (by decide)
theorem j5.jN{o:Option V}{u:Option Value}(r:j5 o u):o.isSome=u.isSome:=by
 cases o with
 | none=>cases u with
  | none=>rfl
  | some _=>exact(show False from r).elim
 | some _=>cases u with
  | none=>exact(show False from r).elim
  | some _=>rfl
theorem j5.getD{o:Option V}{u:Option Value}{d:V}{d':Value}(r:j5 o u)(rd:RelV d d'):RelV (o.getD d) (u.getD d'):=by
 cases o with
 | none=>cases u with
  | none=>exact rd
  | some _=>exact(show False from r).elim
 | some _=>cases u with
  | none=>exact(show False from r).elim
  | some _=>exact r
theorem KV.val{aJ:List (κ×V)}{vs:List (κ×Value)}(r:KV aJ vs)(k:κ):j5 (iH aJ k) (valueAt vs k):=by
 unfold KV at r
 induction r with
 | nil=>exact True.intro
 | @cons p q ps qs h t ih =>
  obtain⟨h1,h2⟩:=h
  by_cases e:p.1=k
  ·have e':q.1=k:=h1.symm.trans e
   have b:valueAt (q::qs) k=some q.2:=by simp [valueAt,List.find?_cons,e']
   rw[jM e,b];exact h2
  ·have e':¬ q.1=k:=fun z=>e (h1.trans z)
   have b:valueAt (q::qs) k=valueAt qs k:=by simp [valueAt,List.find?_cons,e']
   rw[i5 e,b];exact ih
theorem KV.any{aJ:List (κ×V)}{vs:List (κ×Value)}(r:KV aJ vs)(k:κ):(aJ.any fun kv=>decide (kv.1=k))=vs.any fun kv=>decide (kv.1=k):=by
 unfold KV at r
 induction r with
 | nil=>rfl
 | cons h t ih=>rw[List.any_cons,List.any_cons,ih,h.1]
theorem KV.Og{aJ:List (κ×V)}{vs:List (κ×Value)}(r:KV aJ vs)(k:κ){y:V}{u:Value}(ry:RelV y u) :
  KV (aJ.map fun kv=>if kv.1=k then (kv.1,y) else kv) (vs.map fun kv=>if kv.1=k then (kv.1,u) else kv):=by
 unfold KV at r ⊢
 induction r with
 | nil=>exact .nil
 | @cons p q ps qs h t ih =>
  rw[List.map_cons,List.map_cons]
  refine .cons ?_ ih
  obtain⟨h1,h2⟩:=h
  by_cases e:p.1=k
  ·rw[if_pos e,if_pos (h1.symm.trans e)];exact⟨h1,ry⟩
  ·rw[if_neg e,if_neg (fun z=>e (h1.trans z))];exact⟨h1,h2⟩
theorem KV.put{aJ:List (κ×V)}{vs:List (κ×Value)}(r:KV aJ vs)(k:κ){y:V}{u:Value}(ry:RelV y u):KV (putK aJ k y) (stored vs k u):=by
 unfold putK stored
 rw[r.any k]
 by_cases e:(vs.any fun kv=>decide (kv.1=k))=true
 ·rw[if_pos e,if_pos e];exact r.Og k ry
 ·rw[if_neg e,if_neg e];exact Paired.snoc r ⟨rfl,ry⟩
theorem KV.keys{aJ:List (κ×V)}{vs:List (κ×Value)}(r:KV aJ vs):aJ.map (·.1)=vs.map (·.1):=by
 unfold KV at r
 induction r with
 | nil=>rfl
 | cons h t ih=>rw[List.map_cons,List.map_cons,ih,h.1]
theorem KV.length{aJ:List (κ×V)}{vs:List (κ×Value)}(r:KV aJ vs):aJ.length=vs.length:=Paired.length r
end
theorem wk{P:Program}{w:World}{k:Key}{u:Value}(r:RelV (kV k) u):(bW P w).is k u=true:=by
 cases k with
 | inl i=>obtain⟨t,e⟩:=(show ∃ t,u=Value.int i t from r);subst e;exact yC P w i t
 | inr x=>obtain⟨t,e⟩:=(show ∃ t,u=Value.str x t from r);subst e;exact kT P w x t
theorem wm{P:Program}{w:World}:∀ {ks:List Key} {us:List Value},Vals (ks.map kV) us->ItemsAre (bW P w) ks us
 | [],_,r=>by rw[List.map_nil] at r;cases r;exact .nil
 | k::ks,_,r=>by
  rw[List.map_cons] at r
  cases r with
  | cons h t=>exact .cons (wk h) (wm t)
abbrev KT(H:Hp):List (List Key×V)->List (List Key×Addr×Value)->Prop:=Paired fun p q=>p.1=q.1/\H q.2.1=some (.tup (p.1.map kV))/\RelV p.2 q.2.2
theorem KT.val{H:Hp}{aJ:List (List Key×V)}{xs:List (List Key×Addr×Value)}(r:KT H aJ xs)(k:List Key):j5 (iH aJ k) ((atKey xs k).map (·.2)):=by
 induction r with
 | nil=>exact True.intro
 | @cons p q ps qs h t ih =>
  obtain⟨h1,_,h2⟩:=h
  by_cases e:p.1=k
  ·have e':q.1=k:=h1.symm.trans e
   have b:atKey (q::qs) k=some q.2:=by simp [atKey,List.find?_cons,e']
   rw[jM e,b];exact h2
  ·have e':¬ q.1=k:=fun z=>e (h1.trans z)
   have b:atKey (q::qs) k=atKey qs k:=by simp [atKey,List.find?_cons,e']
   rw[i5 e,b];exact ih
theorem KT.Og{H:Hp}{aJ:List (List Key×V)}{xs:List (List Key×Addr×Value)}(r:KT H aJ xs)(k:List Key){y:V}{u:Value}(ry:RelV y u) :
  KT H (aJ.map fun kv=>if kv.1=k then (kv.1,y) else kv) (xs.map (putAt k u)):=by
 induction r with
 | nil=>exact .nil
 | @cons p q ps qs h t ih =>
  rw[List.map_cons,List.map_cons]
  refine .cons ?_ ih
  obtain⟨h1,h2,h3⟩:=h
  unfold putAt
  by_cases e:p.1=k
  ·rw[if_pos e,if_pos (h1.symm.trans e)];exact⟨h1,h2,ry⟩
  ·rw[if_neg e,if_neg (fun z=>e (h1.trans z))];exact⟨h1,h2,h3⟩
theorem KT.put{H:Hp}{aJ:List (List Key×V)}{xs:List (List Key×Addr×Value)}(r:KT H aJ xs)(k:List Key){b:Addr}{y:V}{u:Value}(hb:H b=some (.tup (k.map kV)))(ry:RelV y u) :
  KT H (putK aJ k y) (storedH xs k b u):=by
 have e:(aJ.any fun kv=>decide (kv.1=k))=(atKey xs k).isSome:=by
  rw[oE,(r.val k).jN,Option.isSome_map]
 unfold putK storedH
 rw[e]
 by_cases q:(atKey xs k).isSome=true
 ·rw[if_pos q,if_pos q];exact r.Og k ry
 ·rw[if_neg q,if_neg q];exact Paired.snoc r ⟨rfl,hb,ry⟩
theorem KT.keeps{H H':Hp}{aJ:List (List Key×V)}{xs:List (List Key×Addr×Value)}(r:KT H aJ xs)(ht:∀ b ys,H b=some (.tup ys)->H' b=some (.tup ys)):KT H' aJ xs :=
 Paired.AI r fun _ _ z=>⟨z.1,ht _ _ z.2.1,z.2.2⟩
section
variable{P:Program}{w:World}{H:Hp}{h:Heap}{a:Addr}
theorem M3{u:HO}(ok:lS P w H h)(e:Rd H a u):bI P w H h a u:=e.ok ok
theorem qU{aJ:List (Key×V)}(ok:lS P w H h)(e:Rd H a (.dK aJ)):aJ.length<=sizeLine/\(a == sysModules)=false/\∃ vs,KV aJ vs/\h.DictOf (bW P w) a vs :=
 show bI P w H h a (.dK aJ) from M3 ok e
theorem SN{aJ:List (Key×V)}(ok:lS P w H h)(e:H a=some (.dK aJ)):aJ.length<=sizeLine/\(a == sysModules)=false/\∃ vs,KV aJ vs/\h.DictOf (bW P w) a vs:=qU ok (.inl e)
theorem qd{ks:List Key}(ok:lS P w H h)(e:H a=some (.tup (ks.map kV))):(tupleKind (bW P w)).is h ks a:=by
 obtain⟨_,its,r,o,h1,h2,n,h3⟩:=(show bI P w H h a (.tup (ks.map kV)) from ok a _ e)
 exact⟨o,its.toArray,n,h1,h2,h3,by simpa using wm r⟩
theorem qV{aJ:List (List Key×V)}(ok:lS P w H h)(e:Rd H a (.dT aJ)):aJ.length<=sizeLine/\(a == sysModules)=false /\
  ∃ xs,KT H aJ xs/\h.DictOfH (tupleKind (bW P w)) a xs:=by
 obtain⟨z,y,xs,r,o,es,ep,h1,h2,h3,h4,h5⟩:=(show bI P w H h a (.dT aJ) from M3 ok e)
 refine⟨z,y,xs,r,o,es,ep,h1,h2,h3,h4,fun x hx=>?_,h5⟩
 have all:∀ {l:List (List Key×V)} {m:List (List Key×Addr×Value)},KT H l m->∀ x∈m,(tupleKind (bW P w)).is h x.1 x.2.1:=by
  intro l m q
  induction q with
  | nil=>intro x hx;exact nomatch hx
  | @cons p q ps qs hq t ih =>
   intro x hx
   rcases List.mem_cons.mp hx with e | hx
   ·subst e
    exact qd ok (by rw[<- hq.1];exact hq.2.1)
   ·exact ih x hx
 exact all r x hx
theorem SQ{aJ:List (List Key×V)}(ok:lS P w H h)(e:H a=some (.dT aJ)):aJ.length<=sizeLine/\(a == sysModules)=false /\
  ∃ xs,KT H aJ xs/\h.DictOfH (tupleKind (bW P w)) a xs:=qV ok (.inl e)
end
def fj(H:Hp)(a:Addr)(y:V)(r:Option V):Prop :=
 (∃ aJ k,Rd H a (.dK aJ)/\y=kV k/\r=iH aJ k)\/∃ aJ k b,Rd H a (.dT aJ)/\y=.ref b/\H b=some (.tup (k.map kV))/\r=iH aJ k
def xa(H:Hp)(a:Addr)(y v:V)(H':Hp):Prop :=
 (∃ aJ k,H a=some (.dK aJ)/\y=kV k/\aJ.length<sizeLine/\H'=upd H a (.dK (putK aJ k v))) \/
 ∃ aJ k b,H a=some (.dT aJ)/\y=.ref b/\H b=some (.tup (k.map kV))/\aJ.length<sizeLine/\H'=upd H a (.dT (putK aJ k v))
theorem fj.k{H:Hp}{a:Addr}{aJ:List (Key×V)}{k:Key}(e:H a=some (.dK aJ)):fj H a (kV k) (iH aJ k):=.inl ⟨aJ,k,.inl e,rfl,rfl⟩
theorem fj.t{H:Hp}{a b:Addr}{aJ:List (List Key×V)}{k:List Key}(e:H a=some (.dT aJ))(eb:H b=some (.tup (k.map kV))):fj H a (.ref b) (iH aJ k):=.inr ⟨aJ,k,b,.inl e,rfl,eb,rfl⟩
theorem xa.k{H:Hp}{a:Addr}{aJ:List (Key×V)}{k:Key}{v:V}(e:H a=some (.dK aJ))(hl:aJ.length<sizeLine):xa H a (kV k) v (upd H a (.dK (putK aJ k v))):=.inl ⟨aJ,k,e,rfl,hl,rfl⟩
theorem xa.t{H:Hp}{a b:Addr}{aJ:List (List Key×V)}{k:List Key}{v:V}(e:H a=some (.dT aJ))(eb:H b=some (.tup (k.map kV)))(hl:aJ.length<sizeLine) :
  xa H a (.ref b) v (upd H a (.dT (putK aJ k v))):=.inr ⟨aJ,k,b,e,rfl,eb,hl,rfl⟩
section
variable{X:Cx}{pins:List (Addr×Obj)}{σ:St}{H:Hp}{s:Shared}{a:Addr}{y v:V}{u r:Value}{o:Option V}{A:Around}{E:Value->Shared->Prop}
theorem Inv.big(I:Inv X pins σ H s):sysModules<s.heap.objs.size:=by
 have h:mainGlobals<s.heap.objs.size:=(I.mod.glob.keeps I.bk).lt
 exact Nat.lt_trans (by decide) h
theorem Ei{Q:Value->Shared->Prop}(hu:A.units+1<cLine)(I:Inv X pins σ H s)(g:fj H a y (some v))(ry:RelV y u)(h:∀ w' s',Inv X pins σ H s'->RelV v w'->Q w' s') :
  wpAny (model X.prog X.w) A (getItem (.ref a) u) Q E s:=by
 rcases g with ⟨aJ,k,e,ey,l⟩ | ⟨aJ,k,b,e,ey,eb,l⟩
 ·subst ey
  obtain⟨z,hd,vs,rel,dd⟩:=qU I.a8 e
  obtain⟨w',hw,AB⟩:=j5.some_of (v:=v) (o:=valueAt vs k) (by rw[l];exact rel.val k)
  exact wpAny_getItem_of (wk ry) dd.mapOf hw (h w' _ (I.tok _) AB)
 ·subst ey
  cases(show u=Value.ref b from ry)
  obtain⟨z,hd,xs,rel,dd⟩:=qV I.a8 e
  obtain⟨w',hw,AB⟩:=j5.some_of (v:=v) (o:=(atKey xs k).map (·.2)) (by rw[l];exact rel.val k)
  obtain⟨p,hp,KS⟩:=Option.map_eq_some_iff.mp hw
  refine wpAny_getItem_heap (tupleKind_room_in1 hu) (qd I.a8 eb) dd hp ?_
  rw[KS]
  exact h w' _ (I.tok _) AB
theorem Xg{Q:Value->Shared->Prop}(hu:A.units+1<cLine)(I:Inv X pins σ H s)(g:fj H a y o)(ry:RelV y u)(h:∀ s',Inv X pins σ H s'->Q (.bool o.isSome) s') :
  wpAny (model X.prog X.w) A (compareOp .In u (.ref a)) Q E s:=by
 rcases g with ⟨aJ,k,e,ey,l⟩ | ⟨aJ,k,b,e,ey,eb,l⟩
 ·subst ey
  obtain⟨z,hd,vs,rel,dd⟩:=qU I.a8 e
  refine wpAny_in_of (wk ry) hd dd.mapOf ?_
  rw[<- (rel.val k).jN,<- l]
  exact h _ (I.tok _)
 ·subst ey
  cases(show u=Value.ref b from ry)
  obtain⟨z,hd,xs,rel,dd⟩:=qV I.a8 e
  refine wpAny_in_heap (tupleKind_room_in1 hu) (qd I.a8 eb) hd dd ?_
  have q:=(rel.val k).jN
  rw[Option.isSome_map] at q
  rw[<- q,<- l]
  exact h _ (I.tok _)
theorem KU{Q:Value->Shared->Prop}(hu:A.units+1<cLine)(I:Inv X pins σ H s)(g:fj H a y o)(ry:RelV y u)(h:∀ s',Inv X pins σ H s'->Q (.bool (!o.isSome)) s') :
  wpAny (model X.prog X.w) A (compareOp .NotIn u (.ref a)) Q E s:=by
 rcases g with ⟨aJ,k,e,ey,l⟩ | ⟨aJ,k,b,e,ey,eb,l⟩
 ·subst ey
  obtain⟨z,hd,vs,rel,dd⟩:=qU I.a8 e
  refine wpAny_notIn_of (wk ry) hd dd.mapOf ?_
  rw[<- (rel.val k).jN,<- l]
  exact h _ (I.tok _)
 ·subst ey
  cases(show u=Value.ref b from ry)
  obtain⟨z,hd,xs,rel,dd⟩:=qV I.a8 e
  refine wpAny_notIn_heap (tupleKind_room_in1 hu) (qd I.a8 eb) hd dd ?_
  have q:=(rel.val k).jN
  rw[Option.isSome_map] at q
  rw[<- q,<- l]
  exact h _ (I.tok _)
theorem Dc{h':Heap}{t':Nat}{ob:HO}(I:Inv X pins σ H s)(mu:R7 (H a))(hs:Heap.SameBut a s.heap h')(he:∃ q,h'.get? a=some q)(new:bI X.prog X.w (upd H a ob) h' a ob) :
  Inv X pins σ (upd H a ob) { s with heap:=h',toks:=t' } :=
 I.write (x:=a) (e:=a) mu (.inl rfl) (fun b q hb z=>(hs.2 b hb).trans z) he new
theorem G5{P:Program}{w:World}{H':Hp}{h':Heap}{aJ:List (Key×V)}{vs:List (Key×Value)}(z:aJ.length<=sizeLine)(hd:(a == sysModules)=false)(rel:KV aJ vs)(dd:h'.DictOf (bW P w) a vs) :
  bI P w H' h' a (.dK aJ):=⟨z,hd,vs,rel,dd⟩
theorem Ej{H':Hp}{Q:Unit->Shared->Prop}(hu:A.units+1<cLine)(I:Inv X pins σ H s)(g:xa H a y v H')(ry:RelV y u)(rv:RelV v r)(h:∀ s',Inv X pins σ H' s'->Q () s') :
  wpAny (model X.prog X.w) A (setItem (.ref a) u r) Q E s:=by
 rcases g with ⟨aJ,k,e,ey,l,eH⟩ | ⟨aJ,k,b,e,ey,eb,l,eH⟩
 ·subst ey eH
  obtain⟨z,hd,vs,rel,dd⟩:=SN I.a8 e
  have hz:vs.length<=sizeLine:=by rw[<- rel.length];exact z
  have hl:(putK aJ k v).length<=sizeLine:=by have:=qT aJ k v;omega
  refine wpAny_setItem_pairs (hsz:=hz) (wk ry) dd fun h' RM hs=>h _ ?_
  have he:∃ q,h'.get? a=some q:=let ⟨q,_,_,hq,_⟩:=RM;⟨q,hq⟩
  exact Dc I (by rw[e];exact True.intro) hs he (G5 hl hd (rel.put k rv) RM)
 ·subst ey eH
  cases(show u=Value.ref b from ry)
  obtain⟨z,hd,xs,rel,dd⟩:=SQ I.a8 e
  have hz:xs.length<=sizeLine:=by rw[<- Paired.length rel];exact z
  have hl:(putK aJ k v).length<=sizeLine:=by have:=qT aJ k v;omega
  refine wpAny_setItem_heap (hsz:=hz) (tupleKind_room_in1 hu) (qd I.a8 eb) dd fun h' RM hs=>h _ ?_
  obtain⟨q,es,ep,hq,h2,h3,h4,_,h5⟩:=RM
  refine Dc I (by rw[e];exact True.intro) hs ⟨q,hq⟩ ⟨hl,hd,_,(rel.put k eb rv).keeps fun c ys ec=>?_,q,es,ep,hq,h2,h3,h4,h5⟩
  rw[aj (iq ec e (fun z=>nomatch z))]
  exact ec
end
def Oh(i:Expr):Prop:=∀ ov iv,subscripted i false ov iv=operate [ov,iv] (getItem ov iv)
theorem De{prog:Program}{w:World}{A:Around}{E:Value->Shared->Prop}{s:Shared}{env:Env}{value slice:Expr}{pos:Pos}{T id:String}{Q:Value->Shared->Prop}
  (hl:typeLookup (.type T) "__getitem__" = pure (some (.builtin id))) (hs:Oh slice)
  (h:wpAny (model prog w) A (eval value env) (fun o bq=>wpAny (model prog w) A (eval slice env) (fun i kJ=>kJ.TypeIs o T/\wpAny (model prog w) A (getItem o i) Q E kJ) E bq) E s) :
  wpAny (model prog w) A (eval (.Subscript value slice pos) env) Q E s:=by
 refine Subscript_ (wpAny_mono h (fun o bq dB=>wpAny_mono dB (fun i kJ A4=>?_) fun _ _ x=>x) fun _ _ x=>x)
 obtain⟨hT,A4⟩:=A4
 unfold subscriptTail
 refine wpAny_bind ?_
 rw[getitemInPython_of_ne hT.not_modules]
 refine wpAny_bind (wpAny_specialOf hT hl ?_)
 have fin:wpAny (model prog w) A (subscripted slice false o i) (fun r jJ=>wpAny (model prog w) A (letTemporaryGo value o r >>= fun _=>pure r) Q E jJ) E kJ:=by
  rw[hs o i]
  exact wpAny_operating (wpAny_mono A4 (fun r jJ A5=>wpAny_bind (wpAny_letTemporaryGo (wpAny_pure A5))) fun _ _ x=>x)
 first
  | exact wpAny_pure (wpAny_bind fin)
  | exact wpAny_bind (wpAny_pure (wpAny_bind fin))
  | exact wpAny_bind fin
theorem yU{X:Cx}{pins:List (Addr×Obj)}{σ:St}{H:Hp}{s:Shared}{a:Addr}{y:V}{o:Option V}(I:Inv X pins σ H s)(g:fj H a y o):s.TypeIs (.ref a) "dict" := by
 rcases g with ⟨aJ,k,e,_,_⟩ | ⟨aJ,k,b,e,_,_,_⟩
 ·obtain⟨_,_,vs,_,dd⟩:=qU I.a8 e
  exact dd.typeIs
 ·obtain⟨_,_,xs,_,dd⟩:=qV I.a8 e
  exact dd.typeIs
def SR(td ty:TE):TE:=fun σ H Q=>td σ H fun x H1=>ty σ H1 fun y H2=>∃ a v,x=.ref a/\fj H2 a y (some v)/\Q v H2
def Xh(ty td:TE):TE:=fun σ H Q=>ty σ H fun y H1=>td σ H1 fun x H2=>∃ a o,x=.ref a/\fj H2 a y o/\Q (.bl o.isSome) H2
def KW(ty td:TE):TE:=fun σ H Q=>ty σ H fun y H1=>td σ H1 fun x H2=>∃ a o,x=.ref a/\fj H2 a y o/\Q (.bl (!o.isSome)) H2
def SU(td ty tv:TE):TS:=fun D σ H=>tv σ H fun v H1=>td σ H1 fun x H2=>ty σ H2 fun y H3=>∃ a H4,x=.ref a/\xa H3 a y v H4/\D.nx σ H4
section
variable{X:Cx}{o i e value:Expr}{pos pos' W6:Pos}{td ty tv:TE}
theorem ig(hu:X.A.units+1<cLine)(ho:PE X o td)(hi:PE X i ty)(hs:Oh i):PE X (.Subscript o i pos) (SR td ty):=by
 intro pins s σ H Q I h
 refine De PySem.F.slot_dict_getitem.lookup hs (bg (ho pins s σ H _ I h) fun u s1 ⟨x,H1,I1,rx,q1⟩=>bg (hi pins s1 σ H1 _ I1 q1) fun iv s2 ⟨y,H2,I2,ry,a,v,ex,g,q2⟩=>?_)
 subst ex
 obtain rfl:u=Value.ref a:=rx
 exact⟨yU I2 g,Ei hu I2 g ry fun w' s3 I3 AB=>⟨v,H2,I3,AB,q2⟩⟩
theorem A6(hu:X.A.units+1<cLine)(hi:PE X i ty)(ho:PE X o td):PC X .In i o (Xh ty td):=by
 intro pins s σ H Q I h
 refine bg (hi pins s σ H _ I h) fun iv s1 ⟨y,H1,I1,ry,q1⟩=>bg (ho pins s1 σ H1 _ I1 q1) fun u s2 ⟨x,H2,I2,rx,a,ov,ex,g,q2⟩=>?_
 subst ex
 obtain rfl:u=Value.ref a:=rx
 exact Xg hu I2 g ry fun s3 I3=>⟨.bl ov.isSome,H2,I3,rfl,q2⟩
theorem gf(hu:X.A.units+1<cLine)(hi:PE X i ty)(ho:PE X o td):PC X .NotIn i o (KW ty td):=by
 intro pins s σ H Q I h
 refine bg (hi pins s σ H _ I h) fun iv s1 ⟨y,H1,I1,ry,q1⟩=>bg (ho pins s1 σ H1 _ I1 q1) fun u s2 ⟨x,H2,I2,rx,a,ov,ex,g,q2⟩=>?_
 subst ex
 obtain rfl:u=Value.ref a:=rx
 exact KU hu I2 g ry fun s3 I3=>⟨.bl (!ov.isSome),H2,I3,rfl,q2⟩
theorem xb(hu:X.A.units+1<cLine)(ho:PE X o td)(hi:PE X i ty)(hv:PE X value tv)(hs:swapsWith value (some (.Subscript o i pos')) pos.line X.env=pure false) :
  PS X (.Assign [.Subscript o i pos'] value pos) (SU td ty tv):=by
 intro pins s σ H D I h
 refine wpAny_Assign_Subscript (bg (hv pins s σ H _ I h) fun r s1 ⟨v,H1,I1,rv,q1⟩=>bg (ho pins s1 σ H1 _ I1 q1) fun u s2 ⟨x,H2,I2,rx,q2⟩=>bg (hi pins s2 σ H2 _ I2 q2) fun iv s3 ⟨y,H3,I3,ry,a,H4,ex,g,q3⟩=>?_) hs
 subst ex
 obtain rfl:u=Value.ref a:=rx
 exact Ej hu I3 g ry rv fun s4 I4=>⟨σ,H4,I4,q3⟩
end
theorem G6{P:Program}{w:World}{H:Hp}(h:Heap)(hb:sysModules<h.objs.size):bI P w H (h.push { cls:=.type "dict",data:=.dict #[] }) h.objs.size (.dK []) :=
 ⟨Nat.zero_le _,beq_eq_false_iff_ne.mpr (Ne.symm (Nat.ne_of_lt hb)),[],.nil,Heap.DictOf.new h⟩
theorem G7{P:Program}{w:World}{H:Hp}(h:Heap)(hb:sysModules<h.objs.size):bI P w H (h.push { cls:=.type "dict",data:=.dict #[] }) h.objs.size (.dT []) :=
 ⟨Nat.zero_le _,beq_eq_false_iff_ne.mpr (Ne.symm (Nat.ne_of_lt hb)),[],.nil,_,#[],0,Heap.get?_push_size _ rfl,⟨rfl,rfl,rfl⟩,rfl,rfl,List.nodup_nil⟩
def Oi:TE:=fun _ H Q=>∀ p,H p=none->Q (.ref p) (upd H p (.dK []))
def Oj:TE:=fun _ H Q=>∀ p,H p=none->Q (.ref p) (upd H p (.dT []))
section
variable{X:Cx}{pos:Pos}
theorem oF:PE X (.Dict [] [] pos) Oi:=fun pins s σ H Q I h =>
 wpAny_Dict_empty ⟨.ref s.heap.objs.size,_,I.laid (a:=s.heap.objs.size) (o:=.dK []) (t':=s.toks) (fun _ _ q=>Heap.get?_push_of_some _ q) (Nat.le_refl _) (G6 s.heap I.big),rfl,h _ (I.a8.fresh (Nat.le_refl _))⟩
theorem G8:PE X (.Dict [] [] pos) Oj:=fun pins s σ H Q I h =>
 wpAny_Dict_empty ⟨.ref s.heap.objs.size,_,I.laid (a:=s.heap.objs.size) (o:=.dT []) (t':=s.toks) (fun _ _ q=>Heap.get?_push_of_some _ q) (Nat.le_refl _) (G7 s.heap I.big),rfl,h _ (I.a8.fresh (Nat.le_refl _))⟩
end
abbrev VV:List (V×V)->List (Value×Value)->Prop:=Paired fun p q=>RelV p.1 q.1/\RelV p.2 q.2
structure M1(X:Cx)(o:Expr)(m:Str)(apos:Pos)(e:Expr)(j':Pos):Prop where
 base:attributeBase o m X.env (eval o X.env)=eval o X.env
 Xi:((backTo j' (starEach [e] X.env)).all (fun x=>!x.1)&&(backToKw j' (keywordEach [] X.env)).all (fun x=>x.1.isSome)
  && decide (([e]:List Expr).length+([]:List Keyword).length+(if ([]:List Keyword).isEmpty then 0 else 1)<30))=true
 line:(apos.endLine == j'.line)=true
 trees:backTo j' (starEach [e] X.env)=[(false,eval e X.env)]
def IsD(H:Hp)(a:Addr):Prop:=(∃ aJ,Rd H a (.dK aJ))\/∃ aJ,Rd H a (.dT aJ)
theorem Ol{X:Cx}{pins:List (Addr×Obj)}{σ:St}{H:Hp}{s:Shared}{a:Addr}(I:Inv X pins σ H s)(d:IsD H a) :
  s.TypeIs (.ref a) "dict" /\ (∀ b,Value.ref a=.ref b->∃ ob,s.heap.get? b=some ob/\ob.dict=none)/\(a == sysModules)=false:=by
 rcases d with ⟨aJ,e⟩ | ⟨aJ,e⟩
 ·obtain⟨_,hd,vs,_,dd⟩:=qU I.a8 e
  refine⟨dd.typeIs,fun b q=>?_,hd⟩
  cases q
  obtain⟨ob,_,_,h1,h2,_⟩:=dd
  exact⟨ob,h1,h2.2.1⟩
 ·obtain⟨_,hd,xs,_,dd⟩:=qV I.a8 e
  refine⟨dd.typeIs,fun b q=>?_,hd⟩
  cases q
  obtain⟨ob,_,_,h1,h2,_⟩:=dd
  exact⟨ob,h1,h2.2.1⟩
section
variable{X:Cx}{pins:List (Addr×Obj)}{σ:St}{H:Hp}{s:Shared}{a:Addr}{y d:V}{u r:Value}{o:Option V}{A:Around}{E:Value->Shared->Prop}
theorem Om{Q:Value->Shared->Prop}(hu:A.units+1<cLine)(I:Inv X pins σ H s)(g:fj H a y o)(ry:RelV y u)(h:∀ w' s',Inv X pins σ H s'->RelV (o.getD .bY) w'->Q w' s') :
  wpAny (model X.prog X.w) A (call (.builtin "dict.get") [.ref a,u]) Q E s:=by
 rcases g with ⟨aJ,k,e,ey,l⟩ | ⟨aJ,k,b,e,ey,eb,l⟩
 ·subst ey
  obtain⟨z,hd,vs,rel,dd⟩:=qU I.a8 e
  refine call_meetsIn PySem.F.slot_dict_get dd.typeIs PySem.F.entry_dict_get (PySem.F.args_dict_get_2 _ _) (meets_dict_get (bW X.prog X.w) a (wk ry) hd) ⟨_,dd.mapOf,h _ _ (I.tok _) ?_⟩
  rw[l]
  exact(rel.val k).getD rfl
 ·subst ey
  cases(show u=Value.ref b from ry)
  obtain⟨z,hd,xs,rel,dd⟩:=qV I.a8 e
  refine call_meetsIn PySem.F.slot_dict_get dd.typeIs PySem.F.entry_dict_get (PySem.F.args_dict_get_2 _ _) (meetsH_dict_get (tupleKind (bW X.prog X.w)) a b hd) ⟨tupleKind_room_in1 hu,k,xs,qd I.a8 eb,dd,h _ _ (I.tok _) ?_⟩
  rw[l]
  exact(rel.val k).getD rfl
end
def Oo(td ty:TE):TE:=fun σ H Q=>td σ H fun x H1=>∃ a,x=.ref a/\IsD H1 a/\ty σ H1 fun y H2=>∃ o,fj H2 a y o/\Q (o.getD .bY) H2
section
variable{X:Cx}{o e f:Expr}{apos j':Pos}{td ty tx:TE}
theorem G9(hu:X.A.units+1<cLine)(ho:PE X o td)(he:PE X e ty)(m:M1 X o "get" apos e j'):PE X (.Call (.Attribute o "get" apos) [e] [] j') (Oo td ty):=by
 intro pins s σ H Q I h
 refine wpAny_Call_method m.base m.Xi m.line PySem.F.plainAttrs_dict PySem.F.slot_dict_get PySem.F.type_dict_get (bg (ho pins s σ H _ I h) fun u s1 ⟨x,H1,I1,rx,a,ex,d,q1⟩=>?_)
 subst ex
 obtain rfl:u=Value.ref a:=rx
 obtain⟨t1,t2,_⟩:=Ol I1 d
 refine⟨t1,t2,?_⟩
 rw[m.trees]
 refine Calls.callWith_builtin rfl (Calls.evalArgs_plain (Calls.spliced_cons (bg (he pins s1 σ H1 _ I1 q1) fun iv s2 ⟨y,H2,I2,ry,ov,g,q2⟩=>Calls.spliced_nil ?_)))
 exact Om hu I2 g ry fun w' s3 I3 AB=>⟨_,H2,I3,AB,q2⟩
end
section
variable{X:Cx}{pins:List (Addr×Obj)}{σ:St}{H:Hp}{s:Shared}{a:Addr}{aJ:List (Key×V)}{A:Around}{E:Value->Shared->Prop}
theorem G_{Q:Value->Shared->Prop}(I:Inv X pins σ H s)(e:Rd H a (.dK aJ))(h:∀ p s',H p=none->Inv X pins σ (upd H p (.dK aJ)) s'->Q (.ref p) s'):wpAny (model X.prog X.w) A (call (.type "dict") [.ref a]) Q E s:=by
 obtain⟨z,hd,vs,rel,dd⟩:=qU I.a8 e
 refine kt_call_dict hd dd (by rw[<- rel.length];exact z) fun h' RM hs=>?_
 refine h _ _ (I.a8.fresh (Nat.le_refl _)) (I.laid (a:=s.heap.objs.size) (o:=.dK aJ) (t':=s.toks) (fun b q hq=>?_) (Nat.le_refl _) (G5 z (beq_eq_false_iff_ne.mpr (Ne.symm (Nat.ne_of_lt I.big))) rel RM))
 exact(hs.2 b (Nat.ne_of_lt (Heap.lt_size hq))).trans (Heap.get?_push_of_some _ hq)
end
section
variable{κ:Type}[DecidableEq κ]
theorem Df:∀ {l:List κ} {k:κ},l.Nodup->¬ k∈l->(l++[k]).Nodup
 | [],k,_,_=>by simp
 | a::r,k,h,hk=>by
  obtain⟨h1,h2⟩:=List.nodup_cons.mp h
  show(a::(r++[k])).Nodup
  refine List.nodup_cons.mpr ⟨fun m=>?_,Df h2 fun m=>hk (List.mem_cons.mpr (Or.inr m))⟩
  rcases List.mem_append.mp m with q | q
  ·exact h1 q
  ·exact hk (List.mem_cons.mpr (Or.inl (List.mem_singleton.mp q).symm))
end
end L2
set_option maxHeartbeats 4000000
namespace L2
open PySem PySem.Spec PyProof.Rows
def cN(x:Str)(N:List Str):List Str:=x::N.map fun y=>if y=x\/y = ".0" then Str.empty else y
def ik(env:Env):List (Str×NameKind)->List (Str×Addr)
 | []=>[]
 | (n,k)::r=>if k=.free then (match env.cells.lookup n with | some c=>(n,c)::ik env r | none=>ik env r) else ik env r
def dY(scope:Scope)(env:Env):List (Str×Addr):=(ik env scope.names).reverse
theorem jr{env:Env}:∀ {l:List (Str×NameKind)} {y:Str} {c:Addr},(y,c)∈ik env l->env.cells.lookup y=some c
 | [],_,_,h=>nomatch h
 | (n,k)::r,y,c,h=>by
  unfold ik at h
  split at h
  ·split at h
   ·rename_i c' e
    rcases List.mem_cons.mp h with z | z
    ·cases z;exact e
    ·exact jr z
   ·exact jr h
  ·exact jr h
theorem js{env:Env}:∀ {l:List (Str×NameKind)} {y:Str} {c:Addr},(y,NameKind.free)∈l->env.cells.lookup y=some c->(y,c)∈ik env l
 | [],_,_,h,_=>nomatch h
 | (n,k)::r,y,c,h,e=>by
  unfold ik
  rcases List.mem_cons.mp h with z | z
  ·cases z
   rw[if_pos rfl,e]
   exact List.mem_cons_self
  ·split
   ·split
    ·exact List.mem_cons_of_mem _ (js z e)
    ·exact js z e
   ·exact js z e
theorem cn{scope:Scope}{env:Env}{y:Str}{c:Addr}(h:(dY scope env).lookup y=some c):env.cells.lookup y=some c :=
 jr (List.mem_reverse.mp (PySem.mem_of_lookup h))
theorem il{α:Type}:∀ {l:List (Str×α)} {y:Str} {c:α},(y,c)∈l->∃ c',l.lookup y=some c'
 | [],_,_,h=>nomatch h
 | (n,d)::r,y,c,h=>by
  rw[List.lookup_cons]
  cases e:y == n with
  | true=>exact⟨d,rfl⟩
  | false =>
   rcases List.mem_cons.mp h with z | z
   ·cases z;simp at e
   ·exact il z
theorem ka{scope:Scope}{env:Env}{y:Str}{c:Addr}(h:(y,NameKind.free)∈scope.names)(e:env.cells.lookup y=some c):(dY scope env).lookup y=some c:=by
 obtain⟨c',h'⟩:=il (List.mem_reverse.mpr (js h e))
 have:=cn (scope:=scope) h'
 rw[e] at this
 cases this
 exact h'
theorem cX{scope:Scope}{env:Env}(h:∀ y∈scope.names,y.2=.free->∃ c,env.cells.lookup y.1=some c):closureFor scope env=pure (dY scope env):=by
 have all:∀ (l:List (Str×NameKind)) (acc:List (Str×Addr)),(∀ y∈l,y.2=.free->∃ c,env.cells.lookup y.1=some c) ->
   (forIn l acc (fun x (cs:List (Str×Addr))=>if x.2 == .free then do let c <- cellOf env x.1;pure (ForInStep.yield ((x.1,c)::cs)) else pure (ForInStep.yield cs)):Sem (List (Str×Addr)))=pure ((ik env l).reverse++acc):=by
  intro l
  induction l with
  | nil=>intro acc _;rfl
  | cons y r ih =>
   intro acc hl
   obtain⟨n,k⟩:=y
   have hr:=fun z hz=>hl z (List.mem_cons_of_mem _ hz)
   rw[List.forIn_cons]
   unfold ik
   by_cases hk:k=.free
   ·subst hk
    obtain⟨c,e⟩:=hl (n,.free) List.mem_cons_self rfl
    have e':env.cells.lookup n=some c:=e
    simp only[beq_self_eq_true,if_true]
    rw[show cellOf env n=pure c from by unfold cellOf;rw[e']]
    rw[e']
    simp only[pure_bind]
    rw[ih _ hr]
    simp
   ·have hb:(k == NameKind.free)=false:=by simpa using hk
    simp only[hb,Bool.false_eq_true,if_false]
    rw[if_neg (by simp [hk])]
    simp only[pure_bind]
    exact ih _ hr
 unfold closureFor
 have:=all scope.names [] h
 rw[List.append_nil] at this
 unfold dY
 rw[<- this]
 simp
structure lb(x:Str)(scope:Scope)(env:Env):Prop where
 kind:scope.kind=.function
 own:scope.names.lookup x=some .local
 loc:∀ y∈scope.names,y.2=.local->y.1=x\/y.1 = ".0"
 nm:∀ y∈scope.names,y.2=.local->scope.names.lookup y.1=some .local
 cell:∀ y∈scope.names,y.2≠.cell
 free:∀ y∈scope.names,y.2=.free->env.kindOf y.1=some .cell\/env.kindOf y.1=some .free
 emp:scope.names.lookup Str.empty=none
 nz:((".0" : Str),NameKind.free)∉scope.names
def cM(X:Cx)(scope:Scope)(x:Str)(C:Addr)(s:Shared)(H:Hp)(fp:List Addr)(pins:List (Addr×Obj)):Cx where
 prog:=X.prog
 w:=X.w
 K:=X.K
 mg:=X.mg
 base:=X.base
 A:=X.A
 N:=cN x X.N
 g0:=s
 D5:=H
 env:=compEnvC scope (dY scope X.env) C X.env
 outer:=X.stack
 stack:=X.stack
 ex:=fp
 fn:=fun _=>false
 calm:=X.calm
 pn:=X.pn++pins
 xe:=fun _ _=>False
theorem bZ{scope:Scope}{env:Env}:∀ {names:List (Str×NameKind)} {y:Str} {k:NameKind},
  (names.map fun (n,k)=>if (k == NameKind.free&&env.scope.kind == .function&&env.kindOf n == some .cell) then (n,NameKind.cell) else (n,k)).lookup y=some k ->
  ∃ k',(y,k')∈names/\(k=k'\/(k=.cell/\k'=.free))
 | [],_,_,h=>by simp at h
 | (n,k0)::r,y,k,h=>by
  rw[List.map_cons] at h
  by_cases hc:(k0 == NameKind.free&&env.scope.kind == .function&&env.kindOf n == some .cell)=true
  ·simp only[hc,if_true] at h
   rw[List.lookup_cons] at h
   cases e:y == n with
   | true =>
    rw[e] at h
    have hk:NameKind.cell=k:=Option.some.inj h
    obtain rfl:y=n:=by simpa using e
    refine⟨k0,List.mem_cons_self,.inr ⟨hk.symm,?_⟩⟩
    simp only[Bool.and_eq_true,beq_iff_eq] at hc
    exact hc.1.1
   | false =>
    rw[e] at h
    obtain⟨k',m,q⟩:=bZ (scope:=scope) h
    exact⟨k',List.mem_cons_of_mem _ m,q⟩
  ·have e0:(match (n,k0) with | (n,k)=>if (k == NameKind.free&&env.scope.kind == .function&&env.kindOf n == some .cell)=true then (n,NameKind.cell) else (n,k))=(n,k0):=if_neg hc
   rw[e0] at h
   rw[List.lookup_cons] at h
   cases e:y == n with
   | true =>
    rw[e] at h
    have hk:k0=k:=Option.some.inj h
    obtain rfl:y=n:=by simpa using e
    exact⟨k0,List.mem_cons_self,.inl hk.symm⟩
   | false =>
    rw[e] at h
    obtain⟨k',m,q⟩:=bZ (scope:=scope) h
    exact⟨k',List.mem_cons_of_mem _ m,q⟩
section
variable{X:Cx}{pins:List (Addr×Obj)}{σ:St}{H:Hp}{s:Shared}{scope:Scope}{x:Str}{fp:List Addr}
theorem lb.Ky(S:lb x scope X.env){y:Str}(hy:y≠x)(Oq:y ≠ ".0")(h:MK (relabel scope X.env) y):(y,NameKind.free)∈scope.names/\((relabel scope X.env).names.lookup y=some .cell\/(relabel scope X.env).names.lookup y=some .free):=by
 have all:∀ k,(relabel scope X.env).names.lookup y=some k->(k=.local\/k=.cell\/k=.free)->(y,NameKind.free)∈scope.names/\(k=.cell\/k=.free):=fun k e hk=>by
  obtain⟨k',m,q⟩:=bZ (scope:=scope) e
  have hl:k'≠.local:=fun e=>(S.loc _ m e).elim hy Oq
  have hc:k'≠.cell:=S.cell _ m
  rcases q with q | ⟨q,q'⟩
  ·subst q
   rcases hk with z | z | z
   ·exact absurd z hl
   ·exact absurd z hc
   ·subst z;exact⟨m,.inr rfl⟩
  ·subst q q'
   exact⟨m,.inl rfl⟩
 rcases h with h | h | h
 ·obtain⟨_,q⟩:=all _ h (.inl rfl);rcases q with q | q<;>cases q
 ·exact⟨(all _ h (.inr (.inl rfl))).1,.inl h⟩
 ·exact⟨(all _ h (.inr (.inr rfl))).1,.inr h⟩
theorem yV(S:lb x scope X.env)(hx:x≠Str.empty):¬ MK (relabel scope X.env) Str.empty:=fun h=>by
 obtain⟨m,_⟩:=S.Ky hx.symm (by left) h
 obtain⟨c',e⟩:=il m
 rw[S.emp] at e
 cases e
theorem c6.comp{H':Hp}{C:Addr}(I:Inv X pins σ H s)(hC:C=s.heap.objs.size){b:Addr}(hb:b∈fp)(hf:c6 X pins H b)(c_:b<s.heap.objs.size)(hn:H' b=none):c6 (cM X scope x C s H fp pins) [] H' b:=by
 obtain⟨f0,f1,f2,f3,f4,f5⟩:=hf
 refine⟨hn,?_,fun z=>?_,.inl hb,fun y c e=>f4 y c (cn e),fun p hp=>f5 p ?_⟩
 ·show b≠C
  rw[hC];exact Nat.ne_of_lt c_
 ·rcases List.mem_cons.mp (I.kU b z) with q | q
  ·exact f1 q
  ·exact f2 q
 ·have AD:p∈(X.pn++pins)++[]:=hp
  rwa [List.append_nil] at AD
theorem Ha{h':Heap}{t:Nat}{m:Str->Option Value}{o:Obj}(I:Inv X pins σ H s)(S:lb x scope X.env)(hx:x≠Str.empty)(xc:∀ b∈fp,c6 X pins H b)(c_:∀ b∈fp,b<s.heap.objs.size)
  (hn:h'.Ns s.heap.objs.size m) (sb:Heap.SameBut s.heap.objs.size (s.heap.push o) h') :
  Inv (cM X scope x s.heap.objs.size s H fp pins) [] (none::σ) H { s with heap:=h',toks:=t }:=by
 have kp:∀ b u,s.heap.get? b=some u->h'.get? b=some u:=fun b u e=>(sb.2 b (Nat.ne_of_lt (Heap.lt_size e))).trans (Heap.get?_push_of_some _ e)
 refine⟨⟨I.ok.mod,S.kind,I.ok.glob,I.ok.blt,Nat.le_refl _,fun y z c h1 h2=>I.ok.inj y z c (cn h1) (cn h2),fun y hy=>?_,fun y c h _=>absurd h (by simp [cM]),I.ok.hd,I.ok.frames,.inl rfl,fun b hb=>?_,I.bs,Nat.le_trans I.ok.AA I.sz,fun b ob e hb=>?_,fun b hb z=>?_,I.stack,I.rY⟩,
  rfl,I.bare,Un.kept kp,⟨m,hn,fun i y v h1 h2 h3=>?_⟩,fun y c e=>?_,I.a8.fresh (Nat.le_refl _),fun y c e=>I.ir y c (cn e),fun p hp=>?_,I.a8.kept kp,?_⟩
 ·
  have Ot:(relabel scope X.env).names.lookup y=some .cell\/(relabel scope X.env).names.lookup y=some .free:=hy
  have Xj:y≠x:=fun e=>by
   subst e
   have:=PySem.lookup_relabel_local (env:=X.env) S.own
   rcases Ot with z | z
   ·have z':=this.symm.trans z;cases z'
   ·have z':=this.symm.trans z;cases z'
  have Oq:y ≠ ".0" := fun e=>by
   obtain⟨k',m',q⟩:∃ k',(y,k')∈scope.names/\(k'=.cell\/k'=.free):=by
    rcases Ot with z | z
    ·obtain⟨k',m',q⟩:=bZ (scope:=scope) z
     rcases q with q | ⟨_,q⟩
     ·exact⟨k',m',.inl q.symm⟩
     ·exact⟨k',m',.inr q⟩
    ·obtain⟨k',m',q⟩:=bZ (scope:=scope) z
     rcases q with q | ⟨q',q⟩
     ·exact⟨k',m',.inr q.symm⟩
     ·cases q'
   rcases q with q | q
   ·exact S.cell _ m' q
   ·exact S.nz (e▸q▸m')
  obtain⟨mm,_⟩:=S.Ky Xj Oq (.inr Ot)
  obtain⟨c,e⟩:=I.ok.has y (S.free _ mm rfl)
  exact⟨c,ka mm e⟩
 ·obtain⟨f0,f1,f2,f3,f4,f5⟩:=xc b hb
  exact⟨Nat.ne_of_lt (c_ b hb),fun y c e=>f4 y c (cn e)⟩
 ·obtain⟨f0,f1,f2,f3,f4,f5⟩:=xc b hb
  rcases f3 with z | z
  ·exact I.ok.vh b ob e z
  ·exact absurd (Nat.lt_of_lt_of_le (Heap.lt_size e) (Nat.le_trans I.ok.AA z)) (Nat.lt_irrefl _)
 ·obtain⟨f0,f1,f2,f3,f4,f5⟩:=xc b hb
  rcases List.mem_cons.mp (I.kU b z) with q | q
  ·exact f1 q
  ·exact f2 q
 ·cases i with
  | zero=>simp at h2
  | succ j =>
   have Hb:(X.N.map fun y=>if y=x\/y = ".0" then Str.empty else y)[j]?=some y:=h1
   have Xk:σ[j]?=some (some v):=h2
   rw[List.getElem?_map] at Hb
   cases e:X.N[j]? with
   | none=>rw[e] at Hb;cases Hb
   | some z =>
    rw[e] at Hb
    have tU:(if z=x\/z = ".0" then Str.empty else z)=y:=Option.some.inj Hb
    by_cases hz:z=x\/z = ".0"
    ·rw[if_pos hz] at tU
     subst tU
     exact absurd h3 (yV S hx)
    ·rw[if_neg hz] at tU
     subst tU
     obtain⟨mm,kk⟩:=S.Ky (fun e=>hz (.inl e)) (fun e=>hz (.inr e)) h3
     have fk:=S.free _ mm rfl
     obtain⟨m',_,hl⟩:=I.loc
     obtain⟨u,r,l⟩:=hl j z v e Xk (by rcases fk with q | q;exact .inr (.inl q);exact .inr (.inr q))
     refine⟨u,r,?_⟩
     rcases l with ⟨k,_⟩ | ⟨k,c,e1,e2⟩
     ·rcases fk with q | q
      ·have z':=k.symm.trans q;cases z'
      ·have z':=k.symm.trans q;cases z'
     ·obtain⟨oc,J9,hd⟩:=e2
      exact .inr ⟨kk,c,ka mm e1,oc,kp _ _ J9,hd⟩
 ·obtain⟨v,oc,J9,hd⟩:=I.cell y c (cn e)
  exact⟨v,oc,kp _ _ J9,hd⟩
 ·have AD:p∈(X.pn++pins)++[]:=hp
  rw[List.append_nil] at AD
  obtain⟨e,n,ne,nf,d⟩:=I.pin p AD
  refine⟨kp _ _ e,n,Nat.ne_of_lt (Heap.lt_size e),fun z=>?_,d⟩
  rcases List.mem_cons.mp (I.kU p.1 z) with q | q
  ·exact ne q
  ·exact nf q
 ·show(none::σ).length=(cN x X.N).length
  unfold cN
  rw[List.length_cons,List.length_cons,List.length_map,I.len]
theorem A7{s':Shared}{H':Hp}{bf:St}{C:Addr}(I:Inv X pins σ H s)(hC:C=s.heap.objs.size)(xc:∀ b∈fp,c6 X pins H b)(J:Inv (cM X scope x C s H fp pins) [] bf H' s'):Inv X pins σ H' s' :=
 I.Gg (ch:=fp) J.os J.base J.a8 J.bare fun b hb=>by
  obtain⟨f0,f1,f2,f3,f4,f5⟩:=xc b hb
  exact⟨f3,f1,f4,f5⟩
theorem xf{s':Shared}{H':Hp}{bf:St}{C:Addr}(I:Inv X pins σ H s)(hC:C=s.heap.objs.size)(J:Inv (cM X scope x C s H fp pins) [] bf H' s'):c6 X pins H' C:=by
 have f:=I.qa (H':=H') (b:=C) (by rw[hC];exact Nat.le_refl _) J.free
 exact f
end
theorem lh{prog:Program}{w:World}{A:Around}{R:Result->Shared->Prop}{s:Shared}{elt target iter:Expr}{ifs:List Expr}{scope:Scope}{pos:Pos}{it acc:Value}{env:Env}(I:Nat->Shared->Prop)
  (turn:∀ n s,I n s->wpAny (model prog w) A (pyNext it) (fun r bq=>match r with
   | none=>R (.ok .next) bq
   | some v=>wpAny (model prog w) A (letOwnedTupleGo target it v) (fun _ yW=>wpAny (model prog w) A (assign target env v) (fun _ kJ =>
     wpAny (model prog w) A (forIn ifs true fun c r=>if r=true then do let ok <- isTrue c env (eval c env);pure (ForInStep.yield ok) else pure (ForInStep.yield r)) (fun ok jJ =>
      if ok=true then wpAny (model prog w) A (eval elt env) (fun x lj =>
       wpAny (model prog w) A (call (.builtin "list.append") [acc,x]) (fun _ Hc=>∃ m,m<n/\I m Hc) (fun _ _=>False) lj) (fun _ _=>False) jJ
      else ∃ m,m<n/\I m jJ) (fun _ _=>False) kJ) (fun _ _=>False) yW) (fun _ _=>False) bq) (fun _ _=>False) s)
  (n:Nat) (h:I n s) :
  codeAny (model prog w) A (.compLoop (.ListComp elt [⟨target,iter,ifs,0⟩] scope pos) 0 it acc env) R s:=by
 refine codeAny_loop rfl I (fun n s hI=>?_) n h
 show wpAny _ A ((compTurn (.ListComp elt [⟨target,iter,ifs,0⟩] scope pos) 0 it acc env).onRaise (fun x=>do noteFrame x env;theTreesLotGoes x)) _ _ s
 refine wpAny_noted ?_
 rw[compTurn_list]
 refine wpAny_bind (wpAny_standAt (wpAny_bind (wpAny_mono (turn n s hI) (fun r bq dB=>?_) fun _ _ h'=>h'.elim)))
 cases r with
 | none=>exact wpAny_pure dB
 | some v =>
  refine wpAny_bind (wpAny_mono dB (fun _ yW Hd=>?_) fun _ _ h'=>h'.elim)
  refine wpAny_bind (wpAny_mono Hd (fun _ kJ A4=>wpAny_bind (wpAny_mono A4 (fun ok jJ A5=>?_) fun _ _ h'=>h'.elim)) fun _ _ h'=>h'.elim)
  cases ok with
  | false=>exact wpAny_pure ⟨rfl,A5⟩
  | true =>
   exact wpAny_bind (wpAny_bind (wpAny_mono A5 (fun x lj Ou=>wpAny_bind (wpAny_mono Ou (fun _ Hc Ov=>wpAny_pure (wpAny_pure ⟨rfl,Ov⟩)) fun _ _ h'=>h'.elim)) fun _ _ h'=>h'.elim))
def yX(X:Cx)(ifs:List Expr)(t:TT):Prop :=
 ∀ (pins:List (Addr×Obj)) (s:Shared) (σ:St) (H:Hp) (Q:Bool->Hp->Prop),Inv X pins σ H s->t σ H Q ->
  wpAny (model X.prog X.w) X.A (forIn ifs true fun c r=>if r=true then do let ok <- isTrue c X.env (eval c X.env);pure (ForInStep.yield ok) else pure (ForInStep.yield r)) (TP X pins σ Q) X.xe s
def SV:TT:=fun _ H Q=>Q true H
theorem iQ{X:Cx}:yX X [] SV:=fun pins s σ H Q I h=>wpAny_tests_nil ⟨H,I,h⟩
theorem xg{X:Cx}{c:Expr}{t:TT}(h:PT X c t):yX X [c] t:=fun pins s σ H Q I q=>wpAny_tests_one (h pins s σ H Q I q)
def kc(tt:TT)(te:TE)(D:Addr)(J:It)(σ:St)(H1:Hp)(Q:Hp->Prop):Prop :=
 ∃ Wq:Nat->Nat->List V->Hp->Prop,(∃ m,Wq 0 m [] (upd H1 D (.lst [])))/\∀ i m ys H,Wq i m ys H ->
  (J.stop i H/\Q H)\/(J.go i H/\∀ x H',J.MQ i H x H'->tt (some x::σ) H' fun b H2=>if b=true then te (some x::σ) H2 fun y H3 =>
   H3 D=some (.lst ys)/\ys.length<sizeLine/\∃ m',m'<m/\Wq (i+1) m' (ys++[y]) (upd H3 D (.lst (ys++[y]))) else ∃ m',m'<m/\Wq (i+1) m' ys H2)
def Dg(wi:TI)(tt:TT)(te:TE):TE:=fun σ H Q=>wi σ H fun J H1=>∀ D,H1 D=none->kc tt te D J σ H1 fun H2=>Q (.ref D) H2
section
variable{X:Cx}{pins:List (Addr×Obj)}{σ:St}{H:Hp}{s:Shared}{scope:Scope}{x:Str}{fp:List Addr}{elt iter:Expr}{ifs:List Expr}{px pos:Pos}{te:TE}{tt:TT}{wi:TI}
theorem tV{E:Value->Shared->Prop}{RR:Value->Addr->Result->Shared->Prop}{it:Addr}{tn:Nat->Heap->Prop}{J:It}{Q:Addr->Hp->Prop}(hc:X.calm=true)(S:lb x scope X.env)(hx:x≠Str.empty)(hN:(cN x X.N).Nodup)
  (gF:∀ C s H fp pins,PE (cM X scope x C s H fp pins) elt te) (gH:∀ C s H fp pins,yX (cM X scope x C s H fp pins) ifs tt)
  (I:Inv X pins σ H s) (T:Turn X.prog X.w X.K (.Name x px) J fp it tn) (st:tn 0 s.heap) (xc:∀ b∈fp,c6 X pins H b) (h:∀ D,H D=none->kc tt te D J σ H (Q D))
  (hR:∀ D C s' H' m,Inv X pins σ H' s'->c6 X pins H' C->s'.heap.Ns C m->(∀ y c,X.env.cells.lookup y=some c->C≠c)->C≠X.env.locals->Q D H'->RR (.ref D) C (.ok .next) s') :
  wpAny (model X.prog X.w) X.A (newList []) (fun acc jJ=>wpAny (model X.prog X.w) X.A (newFunctionEnv scope X.env.globals (dY scope X.env) [] X.env.qual none .none (some X.env)) (fun ke lj =>
   codeAny (model X.prog X.w) X.A (.compStart (.ListComp elt [⟨.Name x px,iter,ifs,0⟩] scope pos) 0 (.ref it) acc { ke with scope:=relabel scope X.env }) (RR acc ke.locals) lj) E jJ) E s:=by
 refine wpAny_newObj_type ?_
 have I1:Inv X pins σ (upd H s.heap.objs.size (.lst [])) { s with heap:=s.heap.push { cls:=.type "list",data:=.seq ([]:List Value).toArray },toks:=s.toks }:=I.GZ (ys:=[]) (its:=[]) .nil (Nat.zero_le _)
 have c_:∀ b∈fp,b<s.heap.objs.size:=fun b hb=>by
  obtain⟨o,e,_⟩:=T.obj 0 _ st b hb
  exact Heap.lt_size e
 have Dh:∀ b∈fp,b≠s.heap.objs.size:=fun b hb=>Nat.ne_of_lt (c_ b hb)
 have kN:∀ b∈fp,c6 X pins (upd H s.heap.objs.size (.lst [])) b:=fun b hb=>by
  obtain⟨f0,f1⟩:=xc b hb
  exact⟨by rw[aj (Dh b hb)];exact f0,f1⟩
 have hW:=h s.heap.objs.size (I.a8.fresh (Nat.le_refl _))
 have Ek:tn 0 (s.heap.push { cls:=.type "list",data:=.seq ([]:List Value).toArray }):=T.keep 0 _ _ st fun b _ o e=>Heap.get?_push_of_some _ e
 generalize hH1:upd H s.heap.objs.size (.lst [])=H1 at I1 kN
 generalize hD:s.heap.objs.size=D at hW hR hH1 ⊢
 have hsz:(s.heap.push { cls:=.type "list",data:=.seq ([]:List Value).toArray }).objs.size=s.heap.objs.size+1:=Heap.size_push ..
 generalize tW:({ s with heap:=s.heap.push { cls:=.type "list",data:=.seq ([]:List Value).toArray },toks:=s.toks }:Shared)=s1 at I1
 have tX:s1.heap=s.heap.push { cls:=.type "list",data:=.seq ([]:List Value).toArray }:=by rw[<- tW]
 have goal:wpAny (model X.prog X.w) X.A (newFunctionEnv scope X.env.globals (dY scope X.env) [] X.env.qual none .none (some X.env)) (fun ke lj =>
   codeAny (model X.prog X.w) X.A (.compStart (.ListComp elt [⟨.Name x px,iter,ifs,0⟩] scope pos) 0 (.ref it) (.ref D) { ke with scope:=relabel scope X.env }) (RR (.ref D) ke.locals) lj) E s1:=by
  rw[<- tX] at Ek
  have tY:∀ b∈fp,b<s1.heap.objs.size:=fun b hb=>by rw[tX,hsz];exact Nat.lt_succ_of_lt (c_ b hb)
  clear tW tX hsz
  refine wpAny_newFunctionEnv S.cell (by intro y hy;simp at hy) (fun dB tZ lp=>?_) S.kind
  have I2:=Ha (t:=s1.toks+([]:List (Str×Value)).length) I1 S hx kN tY tZ lp
  have vb:tn 0 dB:=T.keep 0 _ _ Ek fun b hb o e=>(lp.2 b (Nat.ne_of_lt (tY b hb))).trans (Heap.get?_push_of_some _ e)
  obtain⟨Wq,⟨m0,w0⟩,turn⟩:=hW
  rw[hH1] at w0
  generalize hCC:s1.heap.objs.size=C at I2 ⊢
  have j_:∀ {H':Hp},(∀ b∈fp,H' b=none)->∀ b∈fp,c6 (cM X scope x C s1 H1 fp pins) [] H' b:=fun hn b hb=>c6.comp I1 hCC.symm hb (kN b hb) (tY b hb) (hn b hb)
  have loop:codeAny (model X.prog X.w) X.A (.compLoop (.ListComp elt [⟨.Name x px,iter,ifs,0⟩] scope pos) 0 (.ref it) (.ref D) (compEnvC scope (dY scope X.env) C X.env)) (RR (.ref D) C) { s1 with heap:=dB,toks:=s1.toks+([]:List (Str×Value)).length }:=by
   refine lh (fun n s'=>∃ i ys v0 H',Inv (cM X scope x C s1 H1 fp pins) [] (v0::σ) H' s'/\tn i s'.heap/\(∀ b∈fp,H' b=none)/\Wq i n ys H') ?_ m0 ⟨0,[],none,H1,I2,vb,fun b hb=>(kN b hb).1,w0⟩
   rintro n s3 ⟨i,ys,v0,H3,I3,CW,CY,w3⟩
   rcases turn i n ys H3 w3 with ⟨stop,qn⟩ | ⟨go,step⟩
   ·refine bg (T.done (cM X scope x C s1 H1 fp pins) rfl rfl rfl hc i [] s3 _ H3 _ I3 (j_ CY) CW stop) fun r s4 ⟨hr,I4⟩=>?_
    subst hr
    obtain⟨m4,SW,_⟩:=I4.loc
    exact hR D C s4 H3 m4 (A7 I1 hCC.symm kN I4) (xf I1 hCC.symm I4) SW
     (fun y c e z=>(xf I1 hCC.symm I4).2.2.2.2.1 y c e z.symm) (xf I1 hCC.symm I4).2.1 qn
   ·refine bg (T.item (cM X scope x C s1 H1 fp pins) rfl rfl rfl hc i [] s3 _ H3 _ I3 (j_ CY) CW go) fun r s4 ⟨u,hr,h4⟩=>?_
    subst hr
    refine bg h4 fun _ s5 ⟨y5,H5,I5,r5,SX,wY,Kz⟩=>?_
    have KA:=I5.pinned (j_ Kz) (T.obj _ _ wY)
    refine bg (bz (X:=cM X scope x C s1 H1 fp pins) (i:=0) (x:=x) hN rfl (.inl (PySem.lookup_relabel_local (env:=X.env) S.own)) (.inr (PySem.lookup_relabel_local (env:=X.env) S.own)) _ s5 (v0::σ) H5 y5 u
     (fun bf H'=>bf=some y5::σ/\H'=H5) KA r5 ⟨rfl,rfl⟩) fun _ s6 ⟨RI,H6,I6,e6,e6'⟩=>?_
    subst e6 e6'
    have again:∀ {mz:St} {H7:Hp} {s7:Shared},Inv (cM X scope x C s1 H1 fp pins) ([]++kZ fp s5.heap) mz H7 s7->tn (i+1) s7.heap/\∀ b∈fp,H7 b=none:=fun {mz H7 s7} I7=>by
     refine⟨T.keep _ _ _ wY fun b hb o e=>(I7.pin (b,o) (List.mem_append_right _ (List.mem_append_right _ (cZ hb e)))).1,fun b hb=>?_⟩
     obtain⟨o,e,d⟩:=T.obj _ _ wY b hb
     exact(I7.pin (b,o) (List.mem_append_right _ (List.mem_append_right _ (cZ hb e)))).2.1
    refine bg (gH C s1 H1 fp pins _ s6 _ H6 _ I6 (step y5 H6 SX)) fun ok s7 ⟨H7,I7,q7⟩=>?_
    cases ok with
    | false =>
     obtain⟨m',hm,w7⟩:=q7
     rw[if_neg (by decide)]
     exact⟨m',hm,i+1,ys,_,H7,I7.c9,(again I7).1,(again I7).2,w7⟩
    | true =>
     rw[if_pos rfl]
     rw[if_pos rfl] at q7
     refine bg (gF C s1 H1 fp pins _ s7 _ H7 _ I7 q7) fun v8 s8 ⟨y8,H8,I8,r8,SY,S1,m',hm,w8⟩=>?_
     refine bg (eS (X:=cM X scope x C s1 H1 fp pins) _ s8 _ H8 (.ref D) [y8] (.ref D) [v8] (fun _ H'=>H'=upd H8 D (.lst (ys++[y8]))) I8 rfl (.cons r8 .nil) ⟨D,ys,y8,rfl,rfl,SY,S1,rfl⟩) fun _ s9 ⟨_,H9,I9,_,e9⟩=>?_
     subst e9
     exact⟨m',hm,i+1,ys++[y8],_,_,I9.c9,(again I9).1,(again I9).2,w8⟩
  exact codeAny_compStart_list loop (T.self _ 0 _ _ _ vb loop)
 exact goal
theorem KY(hc:X.calm=true)(S:lb x scope X.env)(hx:x≠Str.empty)(hN:(cN x X.N).Nodup)(hi:PI X (.Name x px) iter wi)
  (gF:∀ C s H fp pins,PE (cM X scope x C s H fp pins) elt te) (gH:∀ C s H fp pins,yX (cM X scope x C s H fp pins) ifs tt)
  (hs:∀ v,foldedSetIterable iter X.env v=pure v:=by intro _;rfl) :
  PE X (.ListComp elt [⟨.Name x px,iter,ifs,0⟩] scope pos) (Dg wi tt te):=by
 intro pins s σ H Q I h
 rw[eval_ListComp]
 have KZ:=cX (scope:=scope) (env:=X.env) fun y hy hk=>I.ok.has y.1 (S.free y hy hk)
 have Ow:∀ y∈scope.names,y.2=.local->scope.names.lookup y.1=some .local:=S.nm
 refine wpAny_comprehension_free (use:=none) rfl hs KZ S.kind Ow (bg (hi pins s σ H _ I h) fun v s1 h1=>bg h1 fun MR s2 h2=>?_)
 obtain⟨it,fp,tn,J,H2,e,I2,T,vb,f2,q⟩:=h2
 subst e
 refine tV (RR:=fun acc C=>compPost (model X.prog X.w) X.A X.xe none (EP X pins σ Q) acc C) (Q:=fun D H'=>Q (.ref D) H') hc S hx hN gF gH I2 T vb f2 q ?_
 intro D C s' H' m I' f' yz Ku El q'
 exact⟨m,yz,fun h' sb=>⟨.ref D,H',I'.turned (t':=s'.toks) (fun b o hb e=>(sb.2 b hb).trans e) f'.1 f'.2.1 f'.2.2.2.1 f'.2.2.2.2.1 f'.2.2.2.2.2,rfl,q'⟩⟩
theorem A8{y:Str}{py t8:Pos}{j:Nat}(hc:X.calm=true)(S:lb x scope X.env)(hx:x≠Str.empty)(hN:(cN x X.N).Nodup)(Ox:X.N.Nodup)(hj:X.N[j]?=some y)(hy:X.env.scope.names.lookup y=some .local)(hi:PI X (.Name x px) iter wi)
  (gF:∀ C s H fp pins,PE (cM X scope x C s H fp pins) elt te) (gH:∀ C s H fp pins,yX (cM X scope x C s H fp pins) ifs tt)
  (Oy:swapsWith (.ListComp elt [⟨.Name x px,iter,ifs,0⟩] scope pos) (some (.Name y py)) t8.line X.env=pure true:=by rfl)
  (hs:∀ v,foldedSetIterable iter X.env v=pure v:=by intro _;rfl) :
  PS X (.Assign [.Name y py] (.ListComp elt [⟨.Name x px,iter,ifs,0⟩] scope pos) t8) (D6 (Dg wi tt te) (jm j)):=by
 intro pins s σ H D I h
 rw[exec_Assign_Name_used _ _ _ _ Oy]
 refine wpAny_bind (wpAny_standAt (wpAny_bind ?_))
 have KZ:=cX (scope:=scope) (env:=X.env) fun y hy hk=>I.ok.has y.1 (S.free y hy hk)
 have Ow:∀ y∈scope.names,y.2=.local->scope.names.lookup y.1=some .local:=S.nm
 show wpAny _ X.A (do let _ <- comprehension (.ListComp elt [⟨.Name x px,iter,ifs,0⟩] scope pos) scope X.env _ (newList []) false (eval iter X.env) (some (assign (.Name y py) X.env))) _ _ s
 refine wpAny_bind (wpAny_mono (wpAny_comprehension_free (use:=some (assign (.Name y py) X.env)) (Q:=fun _ s'=>SP X pins D .next s') rfl hs KZ S.kind Ow
  (bg (hi pins s σ H _ I h) fun v s1 h1=>bg h1 fun MR s2 h2=>?_)) (fun _ s' hq=>wpAny_pure (wpAny_pure hq)) fun _ _ e=>e)
 obtain⟨it,fp,tn,J,H2,e,I2,T,vb,f2,q⟩:=h2
 subst e
 refine tV (RR:=fun acc C=>compPost (model X.prog X.w) X.A X.xe (some (assign (.Name y py) X.env)) (fun _ s'=>SP X pins D .next s') acc C) (Q:=fun A H'=>D.nx (σ.set j (some (.ref A))) H') hc S hx hN gF gH I2 T vb f2 q ?_
 intro A C s' H' m I' f' yz Ku El q'
 show wpAny _ X.A (assign (.Name y py) X.env (.ref A)) _ _ _
 refine wpAny_assign_Name (pZ (i:=j) (v:=.ref A) I' Ox hj (.inl hy) rfl (fun GD Xl ⟨a,sb,ha⟩=>?_) (.inr hy))
 have Xm:C≠a:=by
  rcases ha with z | z
  ·rw[z];exact El
  ·exact Ku y a z
 refine⟨m,yz.sameBut sb Xm,fun h' Xn=>⟨_,H',Xl.turned (t':=GD.toks) (fun b o hb e=>(Xn.2 b hb).trans e) f'.1 f'.2.1 f'.2.2.2.1 f'.2.2.2.2.1 f'.2.2.2.2.2,q'⟩⟩
end
def Xo(x:Str):It:=⟨fun i _=>i<x.cps.size,fun i H v H'=>H'=H/\∃ c,x.cps[i]?=some c/\v=.str ⟨#[c]⟩,fun i _=>x.cps.size<=i⟩
def S2(it:Addr)(x:Str)(t:Tok)(i:Nat)(h:Heap):Prop:=h.IsStrIter it "str_ascii_iterator" x t i\/h.IsStrIter it "str_iterator" x t i
theorem yY{P:Program}{w:World}{K:W.Frag}{tg:Expr}(it:Addr)(x:Str)(t:Tok):Turn P w K tg (Xo x) [it] it (S2 it x t) where
 mem:=by simp
 obj:=fun i h st b hb=>by
  have e:b=it:=by simpa using hb
  subst e
  rcases st with ⟨o,e,c,d⟩ | ⟨o,e,c,d⟩
  all_goals exact⟨o,e,fun v z=>by rw[d] at z;cases z⟩
 keep:=fun i h h' st k=>by
  rcases st with ⟨o,e,c,d⟩ | ⟨o,e,c,d⟩
  ·exact .inl ⟨o,k it (by simp) o e,c,d⟩
  ·exact .inr ⟨o,k it (by simp) o e,c,d⟩
 item:=by
  intro X hP hw hK hc i pins s σ H E I hf st hg
  subst hP hw hK
  obtain⟨f0,f1,f2,f3,f4,f5⟩:=hf it (by simp)
  have c_:i<x.cps.size:=hg
  have hx:x.cps[i]?=some x.cps[i]:=by simp [c_]
  rcases st with st | st
  ·refine wpAny_pyNext_ascii_item st hx fun h' yJ sb=>?_
   have I1:Inv X pins σ H { s with heap:=h',toks:=s.toks+1 }:=I.turned (fun b o hb e=>(sb.2 b hb).trans e) f0 f1 f3 f4 f5
   obtain⟨o,e,c,d⟩:=id yJ
   exact⟨_,rfl,v9 (s:={ s with heap:=h',toks:=s.toks+1 }) e c d (by decide) ⟨V.str ⟨#[x.cps[i]]⟩,H,I1,⟨_,rfl⟩,⟨rfl,_,hx,rfl⟩,.inl yJ,fun b hb=>(hf b hb).1⟩⟩
  ·refine wpAny_pyNext_wide_item st hx fun h' yJ sb=>?_
   have I1:Inv X pins σ H { s with heap:=h',toks:=s.toks+1 }:=I.turned (fun b o hb e=>(sb.2 b hb).trans e) f0 f1 f3 f4 f5
   obtain⟨o,e,c,d⟩:=id yJ
   exact⟨_,rfl,v9 (s:={ s with heap:=h',toks:=s.toks+1 }) e c d (by decide) ⟨V.str ⟨#[x.cps[i]]⟩,H,I1,⟨_,rfl⟩,⟨rfl,_,hx,rfl⟩,.inr yJ,fun b hb=>(hf b hb).1⟩⟩
 done:=by
  intro X hP hw hK hc i pins s σ H E I hf st hg
  subst hP hw hK
  obtain⟨f0,f1,f2,f3,f4,f5⟩:=hf it (by simp)
  have hle:x.cps.size<=i:=hg
  have hx:x.cps[i]?=none:=by simp [hle]
  rcases st with st | st
  ·exact wpAny_pyNext_ascii_end (I.ok.hd hc) st hx fun h' eb=>⟨rfl,I.turned (t':=s.toks) (fun b o hb e=>eb b o hb e) f0 f1 f3 f4 f5⟩
  ·exact wpAny_pyNext_wide_end (I.ok.hd hc) st hx fun h' eb=>⟨rfl,I.turned (t':=s.toks) (fun b o hb e=>eb b o hb e) f0 f1 f3 f4 f5⟩
 self:=fun _ _ _ _ _ st h=>by
  rcases st with st | st
  ·exact wpAny_pyIter_striter_ascii st h
  ·exact wpAny_pyIter_striter_wide st h
section
variable{X:Cx}{tg:Expr}
def Xp(ts:TE):TI:=fun σ H R=>ts σ H fun v H1=>∃ x,v=.str x/\R (Xo x) H1
theorem He{l:Expr}{tl:TE}(hl:PE X l tl):PI X tg l (Xp tl):=by
 intro pins s σ H R I h
 refine bg (hl pins s σ H _ I h) fun v s1 ⟨x,H1,I1,r1,q1⟩=>?_
 obtain⟨z,e,q⟩:=q1
 subst e
 obtain⟨t,rfl⟩:=r1
 have fp:∀ b∈[s1.heap.objs.size],c6 X pins H1 b:=fun b hb=>by
  have e:b=s1.heap.objs.size:=by simpa using hb
  subst e
  exact I1.qa (Nat.le_refl _) (I1.a8.fresh (Nat.le_refl _))
 cases ha:z.cps.all (· < 128)
 ·refine wpAny_pyIter_wide ha ?_
  exact⟨s1.heap.objs.size,[s1.heap.objs.size],_,_,H1,rfl,I1.kept (t':=s1.toks) fun b o e=>Heap.get?_push_of_some _ e,yY _ z t,.inr ⟨_,Heap.get?_push_size _ rfl,rfl,rfl⟩,fp,q⟩
 ·refine wpAny_pyIter_ascii ha ?_
  exact⟨s1.heap.objs.size,[s1.heap.objs.size],_,_,H1,rfl,I1.kept (t':=s1.toks) fun b o e=>Heap.get?_push_of_some _ e,yY _ z t,.inl ⟨_,Heap.get?_push_size _ rfl,rfl,rfl⟩,fp,q⟩
end
section
variable{X:Cx}
theorem A9{ys:List Str}:∀ {us:List Value},Vals (ys.map V.str) us->StrsAre us ys:=by
 induction ys with
 | nil=>intro us h;cases h;exact .nil
 | cons y r ih =>
  intro us h
  cases h with
  | cons h1 h2 =>
   obtain⟨t,rfl⟩:=h1
   exact .cons y t (ih h2)
def rJoin(K:W.Frag):V->List V->Hp->VK->Prop:=fun x vs H Q=>∃ sep p ys,x=.str sep/\vs=[.ref p]/\bx K H p (ys.map V.str)/\(ys.map (·.length)).sum+ys.length*sep.length<=16777216/\Q (.str (Txt.join sep ys)) H
theorem K0:W9 X "str.join" (rJoin X.K):=by
 intro pins s σ H x xs v us Q I rx r h
 obtain⟨sep,p,ys,rfl,rfl,hq,hz,q⟩:=h
 obtain⟨t,rfl⟩:=rx
 obtain⟨u,rfl,ru⟩:=Vals.one r
 cases ru
 obtain⟨its,rv,pl,hl⟩:=I.list hq
 exact join_list pl.isList (by rw[List.toList_toArray];exact A9 rv) hz fun t' k=>⟨V.str (Txt.join sep ys),H,I.tok k,⟨t',rfl⟩,q⟩
theorem yZ{prog:Program}{w:World}{A:Around}{bs:List Bool}{its:List Value}(rv:Vals (bs.map V.bl) its):TruthOf prog w A (fun i v=>its.toArray[i]?=some v) (fun i=>bs.getD i false):=by
 intro i v s Q E hP hQ
 have hP':its[i]?=some v:=by simpa using hP
 have hl:=rv.length
 rw[List.length_map] at hl
 have hi:i<its.length:=(List.getElem?_eq_some_iff.mp hP').1
 have hb:(bs.map V.bl)[i]?=some (V.bl (bs.getD i false)):=by
  rw[List.getElem?_map,List.getElem?_eq_getElem (by omega)]
  simp [List.getD,List.getElem?_eq_getElem (show i<bs.length by omega)]
 obtain⟨u,hu,ru⟩:=rv.get hb
 rw[hP'] at hu
 cases hu
 have:v=Value.bool (bs.getD i false):=ru
 subst this
 exact wpAny_truthy_bool hQ
theorem all_range(bs:List Bool):(List.range bs.length).all (fun i=>bs.getD i false)=bs.all id:=by
 rw[Bool.eq_iff_iff]
 simp only[List.all_eq_true,List.mem_range,id]
 constructor
 ·intro h b hb
  obtain⟨i,hi,e⟩:=List.mem_iff_getElem.mp hb
  have:=h i hi
  simpa [List.getD,hi,e] using this
 ·intro h i hi
  have:=h bs[i] (List.getElem_mem hi)
  simpa [List.getD,hi] using this
theorem oG(hc:X.calm=true):g9 X (.builtin "all") (fun xs H Q=>∃ (p:Addr) (bs:List Bool),xs=[.ref p]/\bx X.K H p (bs.map V.bl)/\Q (.bl (bs.all id)) H):=by
 intro pins s σ H xs us Q I r h
 obtain⟨p,bs,rfl,hq,q⟩:=h
 obtain⟨u,rfl,ru⟩:=vals1 r
 cases ru
 obtain⟨its,rv,pl,hl⟩:=I.list hq
 have hlen:its.length=bs.length:=by have:=rv.length;rw[List.length_map] at this;exact this.symm
 have c_:p<s.heap.objs.size:=by obtain⟨o,ho,_⟩:=pl.isList;exact Heap.lt_size ho
 refine call_all_walk (wpAny_pyIter_list pl.isList ?_)
 refine⟨_,_,_,_,_,_,fun i=>bs.getD i false,rfl,Walks.list (A:=X.A.in1) (I.ok.hd hc) _ p (Nat.ne_of_lt c_) its.toArray,⟨⟨_,Heap.get?_push_size _ rfl,rfl,rfl⟩,pl.isList.at fun o e=>Heap.get?_push_of_some _ e⟩,yZ rv,fun h' tk k=>?_⟩
 refine⟨V.bl (bs.all id),H,I.kept fun b o e=>k b o ?_ (Heap.get?_push_of_some _ e),?_,q⟩
 ·intro z
  have e':b=s.heap.objs.size:=by simpa using z
  rw[e'] at e
  exact absurd (Heap.lt_size e) (Nat.lt_irrefl _)
 ·show Value.bool _=Value.bool _
  rw[List.size_toArray,hlen,all_range]
def Xq:V->Option Value
 | .ty n=>some (.type n)
 | .ref C=>some (.ref C)
 | _=>none
def Xr(K:W.Frag):List V->Hp->VK->Prop:=fun xs H Q=>∃ x c cv t b,xs=[x,c]/\Xq c=some cv/\dX K H x t/\W.kitOne K t cv=some b/\Q (.bl b) H
theorem ba:g9 X (.builtin "isinstance") (Xr X.K):=by
 intro pins s σ H xs us Q I r h
 obtain⟨x,c,cv,t,b,rfl,hc,ty,hk,q⟩:=h
 obtain⟨u,w',rfl,ru,AB⟩:=vals2 r
 have e:w'=cv:=by
  cases c<;>first | cases hc | skip
  ·exact AB
  ·exact AB
 subst e
 exact Ea I ru ty hk fun tk=>⟨V.bl b,H,I.tok tk,rfl,q⟩
end
def eh(x:Str)(scope bH:Scope)(N:List Str):Bool :=
 decide (scope.kind=.function)&&decide (scope.names.lookup x=some .local) &&
 (scope.names.all fun y=>decide (y.2=.local->y.1=x\/y.1 = ".0")&&decide (y.2=.local->scope.names.lookup y.1=some .local)&&decide (y.2≠.cell)&&decide (y.2=.free->bH.names.lookup y.1=some .cell\/bH.names.lookup y.1=some .free)) &&
 decide (scope.names.lookup Str.empty=none)&&decide (((".0" : Str),NameKind.free)∉scope.names)&&decide (x≠Str.empty)&&decide ((cN x N).Nodup)
theorem eh.scope{x:Str}{scope bH:Scope}{N:List Str}{env:Env}(h:eh x scope bH N=true)(e:env.scope=bH):lb x scope env:=by
 unfold eh at h
 simp only[Bool.and_eq_true,decide_eq_true_eq,List.all_eq_true] at h
 obtain⟨⟨⟨⟨⟨⟨h1,h2⟩,h3⟩,h4⟩,h7⟩,h5⟩,h6⟩:=h
 subst e
 exact⟨h1,h2,fun y hy=>(h3 y hy).1.1.1,fun y hy=>(h3 y hy).1.1.2,fun y hy=>(h3 y hy).1.2,fun y hy=>(h3 y hy).2,h4,h7⟩
theorem eh.ne{x:Str}{scope bH:Scope}{N:List Str}(h:eh x scope bH N=true):x≠Str.empty:=by
 unfold eh at h
 simp only[Bool.and_eq_true,decide_eq_true_eq,List.all_eq_true] at h
 exact h.1.2
theorem eh.nd{x:Str}{scope bH:Scope}{N:List Str}(h:eh x scope bH N=true):(cN x N).Nodup:=by
 unfold eh at h
 simp only[Bool.and_eq_true,decide_eq_true_eq,List.all_eq_true] at h
 exact h.2
section
variable{X:Cx}{scope:Scope}{x:Str}{elt iter:Expr}{ifs:List Expr}{px pos:Pos}{te:TE}{tt:TT}{wi:TI}
theorem t9(bH:Scope)(N0:List Str)(M4:X.env.scope=bH)(M5:X.N=N0)(oH:eh x scope bH N0=true)(hc:X.calm=true)(hi:PI X (.Name x px) iter wi)
  (gF:∀ C s H fp pins,PE (cM X scope x C s H fp pins) elt te) (gH:∀ C s H fp pins,yX (cM X scope x C s H fp pins) ifs tt)
  (hs:∀ v,foldedSetIterable iter X.env v=pure v:=by intro _;rfl) :
  PE X (.ListComp elt [⟨.Name x px,iter,ifs,0⟩] scope pos) (Dg wi tt te):=by
 subst M5
 exact KY hc (eh.scope oH M4) (eh.ne oH) (eh.nd oH) hi gF gH hs
theorem Di{y:Str}{py t8:Pos}(j:Nat)(bH:Scope)(N0:List Str)(M4:X.env.scope=bH)(M5:X.N=N0)(oH:eh x scope bH N0=true)(Ox:N0.Nodup)(hc:X.calm=true)(hj:X.N[j]?=some y)(hy:X.env.scope.names.lookup y=some .local)(hi:PI X (.Name x px) iter wi)
  (gF:∀ C s H fp pins,PE (cM X scope x C s H fp pins) elt te) (gH:∀ C s H fp pins,yX (cM X scope x C s H fp pins) ifs tt)
  (Oy:swapsWith (.ListComp elt [⟨.Name x px,iter,ifs,0⟩] scope pos) (some (.Name y py)) t8.line X.env=pure true:=by rfl)
  (hs:∀ v,foldedSetIterable iter X.env v=pure v:=by intro _;rfl) :
  PS X (.Assign [.Name y py] (.ListComp elt [⟨.Name x px,iter,ifs,0⟩] scope pos) t8) (D6 (Dg wi tt te) (jm j)):=by
 subst M5
 exact A8 hc (eh.scope oH M4) (eh.ne oH) (eh.nd oH) Ox hj hy hi gF gH Oy hs
end
theorem wo{K:W.Frag}{a D:Addr}{xs:List V}{tt:TT}{te:TE}{σ:St}{H1:Hp}{Q:Hp->Prop}(p:V->Bool)(f:V->V)(hS:bx K H1 a xs)(hD:H1 D=none)(hz:xs.length<=sizeLine)
  (ht:∀ x∈xs,∀ (H:Hp) (R:Bool->Hp->Prop),ak H1 H->R (p x) H->tt (some x::σ) H R)
  (he:∀ x∈xs,p x=true->∀ (H:Hp) (R:VK),ak H1 H->R (f x) H->te (some x::σ) H R)
  (hd:Q (upd H1 D (.lst ((xs.filter p).map f)))):kc tt te D (Gn K a) σ H1 Q:=by
 refine⟨fun i m ys H=>m=xs.length - i/\i<=xs.length/\ys=((xs.take i).filter p).map f/\H=upd H1 D (.lst ys),⟨xs.length,by simp,Nat.zero_le _,by simp,rfl⟩,?_⟩
 rintro i m ys H ⟨rfl,hi,rfl,rfl⟩
 have sm:∀ o,ak H1 (upd H1 D o):=fun o b u e=>by rw[aj (ah e hD)];exact e
 by_cases c_:i<xs.length
 ·refine .inr ⟨⟨xs,xs[i],(sm _).seq hS,by simp [c_]⟩,fun x H' y=>?_⟩
  obtain⟨e,y⟩:=y
  subst e
  have hx:=y xs ((sm _).seq hS)
  have hm:x∈xs:=List.mem_of_getElem? hx
  have tk:xs.take (i+1)=xs.take i++[x]:=by rw[List.take_add_one,hx];rfl
  refine ht x hm _ _ (sm _) ?_
  cases hp:p x with
  | false =>
   refine cx ⟨xs.length - (i+1),by omega,rfl,c_,?_,rfl⟩
   rw[tk,List.filter_append]
   simp [hp]
  | true =>
   refine cH (he x hm hp _ _ (sm _) ⟨af,?_,xs.length - (i+1),by omega,rfl,c_,?_,by rw[lR]⟩)
   ·rw[List.length_map]
    have h1:=List.length_filter_le p (xs.take i)
    rw[List.length_take] at h1
    omega
   ·rw[tk,List.filter_append]
    simp [hp]
 ·have e:i=xs.length:=by omega
  subst e
  refine .inl ⟨⟨xs,(sm _).seq hS,Nat.le_refl _⟩,?_⟩
  rw[List.take_length]
  exact hd
theorem wq{D:Addr}{z:Str}{tt:TT}{te:TE}{σ:St}{H1:Hp}{Q:Hp->Prop}(p:V->Bool)(f:V->V)(hD:H1 D=none)(hz:z.length<=sizeLine)
  (ht:∀ c,∀ (H:Hp) (R:Bool->Hp->Prop),ak H1 H->R (p (.str ⟨#[c]⟩)) H->tt (some (.str ⟨#[c]⟩)::σ) H R)
  (he:∀ c,∀ (H:Hp) (R:VK),ak H1 H->R (f (.str ⟨#[c]⟩)) H->te (some (.str ⟨#[c]⟩)::σ) H R)
  (hd:Q (upd H1 D (.lst (((z.cps.toList.map fun c=>V.str ⟨#[c]⟩).filter p).map f)))):kc tt te D (Xo z) σ H1 Q:=by
 have hlen:z.cps.toList.length=z.cps.size:=by simp
 have RN:z.cps.size<=sizeLine:=hz
 refine⟨fun i m ys H=>m=z.cps.size - i/\i<=z.cps.size/\ys=(((z.cps.toList.take i).map fun c=>V.str ⟨#[c]⟩).filter p).map f/\H=upd H1 D (.lst ys),⟨z.cps.size,by simp,Nat.zero_le _,by simp,rfl⟩,?_⟩
 rintro i m ys H ⟨rfl,hi,rfl,rfl⟩
 have sm:∀ o,ak H1 (upd H1 D o):=fun o b u e=>by rw[aj (ah e hD)];exact e
 by_cases c_:i<z.cps.size
 ·refine .inr ⟨c_,fun x H' y=>?_⟩
  obtain⟨e,c,hc,rfl⟩:=y
  subst e
  have VU:z.cps.toList[i]?=some c:=by simpa using hc
  have tk:z.cps.toList.take (i+1)=z.cps.toList.take i++[c]:=by rw[List.take_add_one,VU];rfl
  refine ht c _ _ (sm _) ?_
  cases hp:p (.str ⟨#[c]⟩) with
  | false =>
   refine cx ⟨z.cps.size - (i+1),by omega,rfl,c_,?_,rfl⟩
   rw[tk,List.map_append,List.filter_append]
   simp [hp]
  | true =>
   refine cH (he c _ _ (sm _) ⟨af,?_,z.cps.size - (i+1),by omega,rfl,c_,?_,by rw[lR]⟩)
   ·rw[List.length_map]
    have h1:=List.length_filter_le p ((z.cps.toList.take i).map fun c=>V.str ⟨#[c]⟩)
    rw[List.length_map,List.length_take] at h1
    omega
   ·rw[tk,List.map_append,List.filter_append]
    simp [hp]
 ·have e:i=z.cps.size:=by omega
  subst e
  refine .inl ⟨Nat.le_refl _,?_⟩
  rw[<- hlen,List.take_length]
  exact hd
theorem nC{α:Type}(l:List α):l.filter (fun _=>true)=l:=List.filter_eq_self.mpr fun _ _=>rfl
theorem Hf{t u:TS}{D:Ends}{σ:St}{H:Hp}(R:St->Hp->Prop)(h1:∀ bf H',R bf H'->u D bf H')(h2:(∀ bf H',R bf H'->u D bf H')->t { D with nx:=u D } σ H):Kv t u D σ H:=h2 h1
theorem eu(K:W.Frag)(t:Value):W.kitOne K t t=some true:=by
 unfold W.kitOne
 rw[if_pos (by simp)]
theorem xh(K:W.Frag):W.kitOne K (.type "str") (.type "bool")=some false:=by rfl
theorem y9(K:W.Frag):W.kitOne K (.type "str") (.type "int")=some false:=by rfl
theorem oJ(K:W.Frag):W.kitOne K (.type "int") (.type "bool")=some false:=by rfl
theorem t_(K:W.Frag):W.kitOne K (.type "tuple") (.type "bool")=some false:=by rfl
theorem vo(K:W.Frag):W.kitOne K (.type "tuple") (.type "int")=some false:=by rfl
theorem vp(K:W.Frag):W.kitOne K (.type "tuple") (.type "str")=some false:=by rfl
theorem lq(K:W.Frag):W.kitOne K (.type "tuple") (.type "list")=some false:=by rfl
end L2
namespace L2
open PySem PySem.Spec PyProof.Rows PySem.Builtin PySem.Builtin.Str
theorem ak.new{H:Hp}{p:Addr}{o:HO}(h:H p=Option.none):ak H (upd H p o):=fun b u e=>by rw[aj (ah e h)];exact e
end L2
namespace L2
open PySem
section
variable{prog:Program}{w:World}{A:Around}{E:Value->Shared->Prop}{R:Result->Shared->Prop}{h:Heap}{g:Array GenState}{d:Drawn}{t:Nat}{os:OsState}
variable{nm q:Str}{C N:Addr}{bs bm:List Value}{hdct:Bool}{sn:List Str}{sub:List Value}{ab:Bool}{col:Option Bool}{dd:Option Addr}{k0 k1 k2 k3 k5:Option Value}{B newId V3:String}{V4:List Value}
structure qW(B:String)(bm:List Value):Prop where
 has:bm.contains (.type B)=true
 N9:bm.contains (.type "AttributeError")=false
 noN:bm.contains (.type "NameError")=false
theorem qW.own(T:qW B bm):(Value.ref C::bm).contains (.type B)=true:=by rw[List.contains_cons,T.has,Bool.or_true]
theorem Hg{M:Model}(Fn:ExcBaseFacts B newId V3 V4)(T:qW B bm){rest:List Value}{Q:Unit->Shared->Prop}(hC:h.get? C=some (excClassObj nm q C N bs bm hdct sn sub ab col dd k0 k1 k2 k3 k5 newId))
  (hq:Q () ⟨h,g,d,t,os⟩):wpAny M A (checkBuiltinCall newId ⟨.ref C::rest,[]⟩) Q E ⟨h,g,d,t,os⟩:=by
 have h1:=T.own (C:=C)
 have h2:=Fn.noStar
 simp only[checkBuiltinCall,Fn.newKind,Fn.newSplit,Fn.newRow]
 repeat (first | refine wpAny_loadPart_at hC ?_ | (refine wpAny_isSubtype_exc hC ?_;rw[h1]) | refine wpAny_staticBase_exc hC ?_ | refine wpAny_madeBy_exc hC ?_ | simp only[bne_self_eq_false,Bool.false_eq_true,if_false] | wp_step)
 exact hq
theorem Oz(Fn:ExcBaseFacts B newId V3 V4)(T:qW B bm){rest:List Value}(hC:h.get? C=some (excClassObj nm q C N bs bm hdct sn sub ab col dd k0 k1 k2 k3 k5 newId))
  (hq:R (.ok (.ret (.ref (h.objs.size+1)))) ⟨(h.push { cls:=.type "tuple",data:=.seq rest.toArray }).push
   { cls:=.ref C,data:=.fields #[.ref h.objs.size,.none,.none,.none,.bool false,.none] },g,d,t,os⟩) (y_:rest.length<=sizeLine) :
  codeAny (model prog w) A (.builtin newId ⟨.ref C::rest,[]⟩) R ⟨h,g,d,t,os⟩:=by
 have h0:=Fn.ends
 have S3:=T.own (C:=C)
 have hcA:(Value.ref C::bm).contains (.type "AttributeError")=false:=by rw[List.contains_cons,T.N9];rfl
 have hcN:(Value.ref C::bm).contains (.type "NameError")=false:=by rw[List.contains_cons,T.noN];rfl
 refine codeAny_builtinAt Fn.entry ?_
 unfold Builtin.«BaseException.__new__»
 refine wpAt_bind ?_
 show wpAt _ _ _ (stack >>= _) _ _ _
 refine wpAt_bind (wpAt_stack fun p below=>wpAt_of_wpAny ?_)
 wp_walk
 refine wpAt_of_wpAny ?_
 rw[Fn.owner]
 repeat (first | with_reducible refine wpAny_madeHere_exc Fn.canon hC ?_ | with_reducible refine wpAny_loadPart_at hC ?_ | (with_reducible refine wpAny_isSubtype_exc hC ?_;first | rw[S3] | rw[hcA] | rw[hcN]) | wp_step)
 show R _ _
 rw[Heap.size_push]
 exact hq
theorem xi(Fn:ExcBaseFacts B newId V3 V4)(T:qW B bm){rest:List Value}{fI:Addr}{oI:Obj}{Q:Fin->Shared->Prop}
  (hC:h.get? C=some (excClassObj nm q C N bs bm hdct sn sub ab col dd k0 k1 k2 k3 k5 newId)) (L:W.Looks (model prog w) h (typeLookup (.ref C) "__init__") (some (.ref fI)))
  (Xs:h.get? fI=some oI) (K1:oI.cls=.type "function")
  (hq:∀ h' e,Heap.MadeExcOf h h' e (.ref C) rest->h.objs.size<=e ->
   wpAny (model prog w) A (call (.ref fI) (.ref e::rest)) (fun r s'=>r=.none/\Q (.done (.ret (.ref e))) s') E ⟨h',g,d,t,os⟩) (y_:rest.length<=sizeLine) :
  wpAny (model prog w) A (Builtin.«type.__call__» ⟨.ref C::rest,[]⟩) Q E ⟨h,g,d,t,os⟩:=by
 repeat (first | with_reducible refine wpAny_loadPart_at hC ?_ | with_reducible refine wpAny_madeBy_exc hC ?_ | wp_step)
 refine codeAny_call_builtin_code (Code.quiet_builtin _ Fn.quiet) (Hg Fn T hC ?_)
 refine Oz Fn T hC ?_ y_
 show wpAny _ _ _ _ _ _
 have up:∀ b o,h.get? b=some o->((h.push { cls:=.type "tuple",data:=.seq rest.toArray }).push { cls:=.ref C,data:=.fields #[.ref h.objs.size,.none,.none,.none,.bool false,.none] }).get? b=some o:=fun b o e =>
  Heap.get?_push_of_some _ (Heap.get?_push_of_some _ e)
 have S4:=up _ _ hC
 have OA:=up _ _ Xs
 have S5:((h.push { cls:=.type "tuple",data:=.seq rest.toArray }).push
   { cls:=.ref C,data:=.fields #[.ref h.objs.size,.none,.none,.none,.bool false,.none] }).get? (h.objs.size+1)=some
   { cls:=.ref C,data:=.fields #[.ref h.objs.size,.none,.none,.none,.bool false,.none] }:=by heap_get
 have hcC:(Value.ref C::bm).contains (.ref C)=true:=by simp
 unfold isInstance
 repeat (first | with_reducible refine wpAny_loadPart_at S5 ?_ | (with_reducible refine wpAny_isSubtype_exc S4 ?_;rw[hcC]) | wp_step)
 show wpAny _ _ (typeLookup (.ref C) _) _ _ _
 refine L _ _ _ _ up (wpAny_holding (wpAny_bind ?_))
 unfold bindSpecial
 refine wpAny_bind (wpAny_typeOf (T := "function") ⟨_,OA,K1⟩ ?_)
 rw[if_pos (by decide)]
 refine wpAny_pure (wpAny_bind (wpAny_mono (hq _ (h.objs.size+1) ⟨up,Heap.get?_none_of_le (Nat.le_succ _),h.objs.size,S5,Heap.get?_none_of_le (Nat.le_refl _),?_⟩ (Nat.le_succ _)) (fun r s' hr=>?_) fun _ _ x=>x))
 ·exact Heap.get?_push_of_some _ (Heap.get?_push_at rfl rfl)
 ·obtain⟨rfl,hQ⟩:=hr
  wp_walk
  exact hQ
theorem K2(Fn:ExcBaseFacts B newId V3 V4)(T:qW B bm){rest:List Value}{fI:Addr}{oI:Obj}{Q:Value->Shared->Prop}
  (hC:h.get? C=some (excClassObj nm q C N bs bm hdct sn sub ab col dd k0 k1 k2 k3 k5 newId)) (L:W.Looks (model prog w) h (typeLookup (.ref C) "__init__") (some (.ref fI)))
  (Xs:h.get? fI=some oI) (K1:oI.cls=.type "function")
  (hq:∀ h' e,Heap.MadeExcOf h h' e (.ref C) rest->h.objs.size<=e ->
   wpAny (model prog w) (A.under (.builtin "type.__call__" ⟨.ref C::rest,[]⟩)) (call (.ref fI) (.ref e::rest)) (fun r s'=>r=.none/\Q (.ref e) s') E ⟨h',g,d,t,os⟩) (y_:rest.length<=sizeLine) :
  wpAny (model prog w) A (call (.ref C) rest) Q E ⟨h,g,d,t,os⟩:=by
 have f1:=tc_lookup
 have f2:=tc_bind (.ref C)
 have hT:(⟨h,g,d,t,os⟩:Shared).TypeIs (.ref C) "type" := ⟨_,hC,rfl⟩
 refine wpAny_call (codeAny_of_tree ?_)
 show wpAny _ _ (callAny (.ref C) _) _ _ _
 repeat (any_goals (first | assumption | with_reducible refine wpAny_loadPart_at hC ?_ | wp_step))
 refine⟨rfl,?_⟩
 exact codeAny_call_builtin_at (Code.quiet_builtin _ (by left)) entry_typeCall (wpAny_check_type_call_sub hC (xi Fn T hC L Xs K1 (fun h' e hm hz=>hq h' e hm hz) y_))
theorem Hh{M:Model}{s:Shared}{env:Env}{x:Sem Value}{Q:Flow->Shared->Prop}(GY:bm.contains (.type "BaseException")=true)(hh:A.handled=none)
  (h:wpAny M A x (fun v bq=>∃ e dx vs,v=.ref e/\bq.heap.get? C=some (excClassObj nm q C N bs bm hdct sn sub ab col dd k0 k1 k2 k3 k5 newId) /\
   bq.heap.get? e=some { cls:=.ref C,dict:=some dx,data:=.fields vs }/\vs[1]?=some .none/\E (.ref e) bq) E s) :
  wpAny M A (raiseStmt env (some x) none) Q E s:=by
 have S3:(Value.ref C::bm).contains (.type "BaseException")=true:=by rw[List.contains_cons,GY,Bool.or_true]
 unfold raiseStmt
 refine wpAny_bind (wpAny_mono h (fun v bq dB=>?_) fun _ _ x=>x)
 obtain⟨e,dx,vs,rfl,hC,he,h1,hE⟩:=dB
 obtain⟨hp,g,d,tk,os⟩:=bq
 repeat (first | with_reducible refine wpAny_loadPart_at he ?_ | with_reducible refine wpAny_loadPart_at hC ?_ | (with_reducible refine wpAny_isSubtype_exc hC ?_;rw[S3]) | with_reducible refine wpAny_field he rfl h1 ?_ | wp_step)
 exact wpAny_raiseNew_none hh hE
end
end L2
namespace L2
open PySem PySem.Spec PyProof.Rows
def A_(h:Heap)(lo:Nat)(e:Addr)(vs:Array Value):Prop :=
 vs[1]?=some .none\/∃ T oT ts,vs[1]?=some (.ref T)/\lo<=T/\T≠e/\h.get? T=some oT/\oT.data=.fields ts/\ts[3]?=some .none
def jk(vs:Array Value):List Addr:=match vs[1]? with
 | some (Value.ref T)=>[T]
 | _=>[]
structure rB(fs ch:List Addr)(h h':Heap):Prop where
 keep:∀ b o,b∉fs->b∉ch->h.get? b=some o->h'.get? b=some o
 slot:∀ b o,b∈fs->h.get? b=some o->∃ sl,h'.get? b=some { o with slots:=sl }
 there:∀ b o,h.get? b=some o->∃ o',h'.get? b=some o'
theorem kf{h:Heap}{base:Heap}{l:List Env}{b:Addr}{o:Obj}{vs:Array Value}(hl:h.FunFrames base l)(hb:b∈ni l)(e:h.get? b=some o)(hd:o.data=.fields vs):False:=by
 obtain⟨_,o',e',hn⟩:=hl.mem hb
 rw[e] at e';cases e'
 exact hn vs hd
theorem nE{M:Model}{A:Around}{E:Value->Shared->Prop}{s:Shared}{base:Heap}{env:Env}{outer:List Env}{L e:Addr}{oe:Obj}{vs:Array Value}{head:Value}{xj:Bool}{lo:Nat}{Q:Unit->Shared->Prop}
  (vd:A.frames=some (env::outer)) (hl:s.heap.FunFrames base (env::outer)) (hf:env.frame=some L)
  (he:s.heap.get? e=some oe) (hd:oe.data=.fields vs) (hsz:1<vs.size) (hle:lo<=e) (wg:lo<=s.heap.objs.size)
  (h:∀ h' T oT ts,s.heap.objs.size<=T->T≠e->rB (ni (env::outer)) [e] s.heap h'->h'.get? e=some (oe.mapFields (·.setIfInBounds 1 (.ref T)))->h'.get? T=some oT->oT.data=.fields ts->ts[3]?=some .none->Q () { s with heap:=h' }) :
  wpAny M A (do let a <- frameOf env;let pl <- entryPlaceOf L xj;let b <- EntryCells.newEntry head a .none (rawInt L) .none pl;setField (.ref e) 1 b) (fun _ s'=>wpAny M A (setFlight (.ref e) none) Q E s') E s:=by
 have S6:e∉(env::outer).filterMap (·.frame):=fun hm=>kf hl hm he hd
 refine wpAny_bind (wpAny_frameOf_fun vd hl hf fun dB y'=>?_)
 refine wpAny_bind (wpAny_entryPlaceOf fun pl vm=>?_)
 unfold EntryCells.newEntry newFields
 refine wpAny_bind (wpAny_newObj_type ?_ (vm.sizeOk5 _ _ _ _ _))
 generalize hTo:({ cls:=.type "traceback",dict:=none,data:=.fields ([head,.ref L,.none,rawInt L,.none]++(if pl.isEmpty then List.replicate 6 Value.none else pl)).toArray }:Obj)=oT
 have OB:oT.data=.fields ([head,.ref L,.none,rawInt L,.none]++(if pl.isEmpty then List.replicate 6 Value.none else pl)).toArray:=by rw[<- hTo]
 have hTf:oT.isFreed=false:=Obj.isFreed_of_fields OB
 have M6:dB.get? e=some oe:=(y'.2.1 e S6).trans he
 have M7:=Heap.get?_push_of_some (h:=dB) oT M6
 refine wpAny_setField M7 hd hsz ?_
 have Em:dB.objs.size≠e:=Nat.ne_of_gt (Heap.lt_size M6)
 have M8:=Obj.data_mapFields hd (·.setIfInBounds 1 (Value.ref dB.objs.size))
 have M9:=Heap.get?_update_self (Obj.mapFields (·.setIfInBounds 1 (Value.ref dB.objs.size))) M7 (Obj.isFreed_of_fields M8)
 have M_:=(Heap.get?_update_other (dB.push oT) (Obj.mapFields (·.setIfInBounds 1 (Value.ref dB.objs.size))) (Ne.symm Em)).trans (Heap.get?_push_size dB hTf)
 unfold setFlight
 refine wpAny_bind (wpAny_field M9 M8 (x:=.ref dB.objs.size) (by simp [hsz]) ?_)
 rw[if_pos (show(Value.ref dB.objs.size != Value.none)=true from by simp)]
 refine wpAny_setField M_ OB (by simp only[List.size_toArray,List.length_append,List.length_cons,List.length_nil]<;>omega) ?_
 have keep:∀ b o,b≠e->dB.get? b=some o ->
   (((dB.push oT).update e (Obj.mapFields (·.setIfInBounds 1 (Value.ref dB.objs.size)))).update dB.objs.size
    (Obj.mapFields (·.setIfInBounds 3 ((none:Option Addr).elim Value.none fun f=>rawInt f)))).get? b=some o:=fun b o wR hb=>by
  have Ka:dB.objs.size≠b:=Nat.ne_of_gt (Heap.lt_size hb)
  rw[Heap.get?_update_other _ _ Ka,Heap.get?_update_other _ _ (Ne.symm wR)]
  exact Heap.get?_push_of_some _ hb
 have eF:(((dB.push oT).update e (Obj.mapFields (·.setIfInBounds 1 (Value.ref dB.objs.size)))).update dB.objs.size
    (Obj.mapFields (·.setIfInBounds 3 ((none:Option Addr).elim Value.none fun f=>rawInt f)))).get? e=some (oe.mapFields (·.setIfInBounds 1 (.ref dB.objs.size))):=by
  rw[Heap.get?_update_other _ _ Em];exact M9
 refine h _ dB.objs.size _ _ (by rw[y'.1];exact Nat.le_refl _) Em ⟨fun b o sj wR ho=>keep b o (by simpa using wR) ((y'.2.1 b sj).trans ho),fun b o sj ho=>?_,fun b o ho=>?_⟩ eF
  (Heap.get?_update_self _ M_ (Obj.isFreed_of_fields (Obj.data_mapFields OB _))) (Obj.data_mapFields OB _) (by first | (simp;done) | (rcases vm with rfl | ⟨_,_,_,_,_,_,_,rfl⟩<;>simp))
 ·obtain⟨sl,q⟩:=y'.2.2 b o ho
  exact⟨sl,keep b _ (fun z=>S6 (z▸sj)) q⟩
 ·by_cases wR:b=e
  ·subst wR;exact⟨_,eF⟩
  ·obtain⟨sl,q⟩:=y'.2.2 b o ho
   exact⟨_,keep b _ wR q⟩
theorem za{M:Model}{A:Around}{E:Value->Shared->Prop}{s:Shared}{base:Heap}{env:Env}{outer:List Env}{L e:Addr}{oe:Obj}{vs:Array Value}{lo:Nat}{Q:Unit->Shared->Prop}
  (vd:A.frames=some (env::outer)) (hl:s.heap.FunFrames base (env::outer)) (hf:env.frame=some L)
  (he:s.heap.get? e=some oe) (hd:oe.data=.fields vs) (hsz:1<vs.size) (ht:A_ s.heap lo e vs) (hle:lo<=e) (wg:lo<=s.heap.objs.size)
  (h:∀ h' T oT ts,s.heap.objs.size<=T->T≠e->rB (ni (env::outer)) (e::jk vs) s.heap h'->h'.get? e=some (oe.mapFields (·.setIfInBounds 1 (.ref T)))->h'.get? T=some oT->oT.data=.fields ts->ts[3]?=some .none->Q () { s with heap:=h' }) :
  wpAny M A (noteFrame (.ref e) env) (fun _ s'=>wpAny M A (setFlight (.ref e) none) Q E s') E s:=by
 unfold noteFrame
 simp only[hf]
 rcases ht with h1 | ⟨T,oT,ts,h1,Xt,Em,hT,sq,h3⟩
 ·refine wpAny_bind (wpAny_field he hd h1 ?_)
  rw[if_neg (by decide)]
  refine nE vd hl hf he hd hsz hle wg fun h' T' AE AF a1 a2 G=>h h' T' AE AF a1 a2 ⟨fun b o sj Kb=>G.keep b o sj fun z=>Kb ?_,G.slot,G.there⟩
  rw[List.mem_singleton.mp z]
  exact List.mem_cons_self
 ·refine wpAny_bind (wpAny_field he hd h1 ?_)
  rw[if_pos (show(Value.ref T != Value.none)=true from by simp)]
  refine wpAny_bind (wpAny_field hT sq h3 ?_)
  rw[if_neg (show ¬ ((Value.none == rawInt L)=true) from by simp [rawInt])]
  refine wpAny_bind (wpAny_setField hT sq (Array.getElem?_eq_some_iff.mp h3).1 ?_)
  have other:∀ b,b≠T->(s.heap.update T (Obj.mapFields (·.setIfInBounds 3 Value.none))).get? b=s.heap.get? b:=fun b hb=>Heap.get?_update_other _ _ (Ne.symm hb)
  have Dj:=Heap.get?_update_self (Obj.mapFields (·.setIfInBounds 3 Value.none)) hT (Obj.isFreed_of_fields (Obj.data_mapFields sq _))
  have nT:∀ b,b∈ni (env::outer)->b≠T:=fun b hb z=>kf hl (z▸hb) hT sq
  have Hi:∀ b o,s.heap.get? b=some o->(∀ vs,o.data≠.fields vs)->b≠T:=fun b o hb En q=>by
   rw[q,hT] at hb;cases hb;exact En ts sq
  refine nE (s:={ s with heap:=s.heap.update T (Obj.mapFields (·.setIfInBounds 3 Value.none)) }) vd (hl.of_keeps fun b o hb En=>⟨o,(other b (Hi b o hb En)).trans hb,rfl⟩) hf ((other e (Ne.symm Em)).trans he) hd hsz hle
   (by show lo<=(s.heap.update T _).objs.size;rw[Heap.size_after_update];exact wg) fun h' T' AE AF a1 a2 G a3 a4 a5 a6=>?_
  have RO:s.heap.objs.size<=T':=by
   have q:(s.heap.update T (Obj.mapFields (·.setIfInBounds 3 Value.none))).objs.size<=T':=a1
   rw[Heap.size_after_update] at q;exact q
  refine h h' T' AE AF RO a2 ⟨fun b o sj Kb ho=>G.keep b o sj (fun z=>Kb (by rw[List.mem_singleton.mp z];exact List.mem_cons_self)) ((other b fun z=>Kb (by rw[z,show jk vs=[T] from by unfold jk;rw[h1]];exact List.mem_cons_of_mem _ List.mem_cons_self)).trans ho),fun b o sj ho=>G.slot b o sj ((other b (nT b sj)).trans ho),fun b o ho=>?_⟩ a3 a4 a5 a6
  by_cases Ka:b=T
  ·subst Ka;exact G.there _ _ Dj
  ·exact G.there b o ((other b Ka).trans ho)
theorem Eo{M:Model}{A:Around}{E:Value->Shared->Prop}{s:Shared}{base:Heap}{env:Env}{outer:List Env}{L e:Addr}{oe:Obj}{vs:Array Value}{lo:Nat}{Q:Unit->Shared->Prop}
  (vd:A.frames=some (env::outer)) (hl:s.heap.FunFrames base (env::outer)) (hf:env.frame=some L)
  (he:s.heap.get? e=some oe) (hd:oe.data=.fields vs) (hsz:1<vs.size) (ht:A_ s.heap lo e vs) (hle:lo<=e) (wg:lo<=s.heap.objs.size)
  (h:∀ h' T oT ts,s.heap.objs.size<=T->T≠e->rB (ni (env::outer)) (e::jk vs) s.heap h'->h'.get? e=some (oe.mapFields (·.setIfInBounds 1 (.ref T)))->h'.get? T=some oT->oT.data=.fields ts->ts[3]?=some .none->Q () { s with heap:=h' }) :
  wpAny M A (leaving env (.ref e)) Q E s:=wpAny_bind (za vd hl hf he hd hsz ht hle wg h)
end L2
namespace L2
open PySem PySem.W PySem.Builtin PySem.Builtin.ObjectAttr
abbrev Na:List Value:=[.type "ValueError",.type "Exception",.type "BaseException",.type "object"]
structure kh(K:Frag)(C:Addr):Prop where
 cls:∃ (cd:ClassData) (tl:List Addr),clsIn K C=some cd/\cd.hasDict=true/\cd.mro=.ref C::(tl.map Value.ref++Na)
 sa:findIn K (.ref C) "__setattr__" = some (some (.builtin "object.__setattr__"))
 ga:findIn K (.ref C) "__getattribute__" = some (some (.builtin "BaseException.__getattribute__"))
 gh:findIn K (.ref C) "__getattr__" = some none
 kl:findIn K (.ref C) "__class__" = some (some (.builtin "object.__class__"))
 kg:specialIn K (.builtin "object.__class__") "__get__" = some (some (.builtin "getset_descriptor.__get__"))
 kt:takesIn K (.builtin "object.__class__")=some true
 kp:keepIn K (.ref C)=true
theorem kh.dict{K:Frag}{C:Addr}(c:kh K C):hasDictIn K C=true:=by
 obtain⟨cd,tl,h1,h2,_⟩:=c.cls
 unfold hasDictIn
 rw[h1]
 exact h2
theorem OC{tl:List Addr}{X:String}(h:Na.contains (.type X)=true)(C:Addr):(Value.ref C::(tl.map Value.ref++Na)).contains (.type X)=true:=by
 have:Value.type X∈Na:=by simpa using h
 simp only[List.contains_iff_mem]
 exact List.mem_cons_of_mem _ (List.mem_append_right _ this)
theorem kh.sub{K:Frag}{C:Addr}(c:kh K C){X:String}(h:Na.contains (.type X)=true):mroIn K C (.type X)=some true:=by
 obtain⟨cd,tl,h1,h2,h3⟩:=c.cls
 unfold mroIn
 rw[h1,Option.bind_some,h3,if_neg (by simp),OC h]
theorem zb(self:Value):∀ tl:List Addr,refuseLoop self "__setattr__" (tl.map Value.ref++Na)=pure ()
 | []=>PySem.F.store_ValueError.passes self
 | c::r=>by
  show refuseLoop self "__setattr__" (.ref c::(r.map Value.ref++Na))=pure ()
  rw[refuseLoop_ref]
  exact zb self r
section
variable{prog:Program}{w:World}{A:Around}{E:Value->Shared->Prop}{s:Shared}{K:Frag}{e C:Addr}{vs:Array Value}{name:Str}{v:Value}
theorem OD(he:s.heap.get? e=some { cls:=.ref C,data:=.fields vs }):InstAt s.heap e { cls:=.ref C,data:=.fields vs } C none:=⟨he,rfl,rfl,trivial⟩
theorem Ep{Q:Unit->Shared->Prop}(X:K.In s.heap)(c:kh K C)(ha:findIn K (.ref C) name=some none)(he:s.heap.get? e=some { cls:=.ref C,data:=.fields vs })
  (h:∀ h' tk,(∀ b o,b≠e->s.heap.get? b=some o->h'.get? b=some o)->h'.get? e=some { cls:=.ref C,dict:=some s.heap.objs.size,data:=.fields vs }->h'.Ns1 s.heap.objs.size (fun y=>if y=name then some v else none)->Q () { s with heap:=h',toks:=tk }) :
  wpAny (model prog w) A (setAttr (.ref e) name v) Q E s:=by
 obtain⟨cd,tl,yA,hhd,Xu⟩:=c.cls
 have SF:=PySem.F.store_ValueError
 have I:=OD he
 refine wpAny_bind (wpAny_mkText (wpAny_bind (wpAny_bind (wpAny_bind (I.type _ _ _ _ (fun _ _ e=>e) (looks_findIn X c.sa _ _ _ _ (fun _ _ e=>e) (wpAny_holding ?_)))))))
 rw[SF.slot.bind]
 refine wpAny_bind (wpAny_pure (wpAny_bind (wpAny_call ?_)))
 have sub:Looks (model prog w) s.heap (isInstance (.ref e) (.type "object")) true:=I.type.andThen (looks_mroIn X (c.sub (by left)))
 refine codeAny_call_builtin SF.slot.plain SF.entry (@check_slot (model prog w) _ _ { s with toks:=s.toks+1 } "object.__setattr__" "object" "__setattr__" (.ref e) [.str name s.toks,v] [] _ SF.kind SF.split sub (SF.args (.ref e) (.str name s.toks) v) ?_)
 have hm:Looks (model prog w) s.heap (mroOf (.ref C)) cd.mro:=(looks_clsIn X yA).andThen .now
 show wpAny _ _ (Builtin.«object.__setattr__» ⟨[.ref e,.str name s.toks,v],[]⟩) _ _ _
 rw[osa_eq,refuse_eq]
 refine wpAny_bind (wpAny_bind (I.type.at (wpAny_bind (hm.at ?_))))
 rw[Xu,refuseLoop_ref,zb]
 refine wpAny_pure (wpAny_bind (I.type.at (wpAny_bind ((looks_findIn X ha).at (wpAny_bind (wpAny_pure ?_))))))
 show wpAny _ _ (storeInOwnDict (.ref e) (.ref C) (.str name s.toks) name v false) _ _ _
 unfold storeInOwnDict
 refine wpAny_bind (wpAny_pure ?_)
 have Nb:(s.heap.push { cls:=.type "dict",data:=.dict #[] }).get? e=some { cls:=.ref C,data:=.fields vs }:=Heap.get?_push_of_some _ he
 have V5:e≠s.heap.objs.size:=Nat.ne_of_lt (Heap.lt_size he)
 have hgd:((s.heap.push { cls:=.type "dict",data:=.dict #[] }).update e fun o=>{ cls:=o.cls,dict:=some s.heap.objs.size,data:=o.data,slots:=o.slots }).get? s.heap.objs.size
   = some { cls:=.type "dict",data:=.dict #[] }:=(Heap.get?_update_ne _ _ _ _ V5.symm).trans (Heap.get?_push_at rfl rfl)
 have Xv:((s.heap.push { cls:=.type "dict",data:=.dict #[] }).update e fun o=>{ cls:=o.cls,dict:=some s.heap.objs.size,data:=o.data,slots:=o.slots }).Ns s.heap.objs.size (fun _=>none) :=
  ⟨_,#[],_,hgd,rfl,fun e he=>absurd he (by simp),fun _=>rfl⟩
 show wpAny _ _ ((do
  match <- instanceDict e true with
  | some d=>storeInDict d (.str name s.toks) name v
  | none=>noDictFor (.ref e) (.ref C) name false):Sem Fin) _ _ _
 refine wpAny_bind ?_
 unfold instanceDict
 refine wpAny_bind (wpAny_loadPart he (wpAny_bind ((looks_clsIn X yA).at ?_)))
 rw[hhd]
 refine wpAny_bind (wpAny_alloc ?_)
 refine wpAny_bind (wpAny_update Nb ?_)
 refine wpAny_pure ?_
 show wpAny _ _ (storeInDict s.heap.objs.size (.str name s.toks) name v) _ _ _
 unfold storeInDict newKeyGuard
 refine wpAny_bind (wpAny_pure (wpAny_bind (wpAny_nsSet1 (Heap.Ns1.of_empty Xv) fun h' yz hs=>?_)))
 obtain⟨oD,esD,epD,W4,RJ,Gy⟩:=yz.count (Within.cons name v Within.nil)
 refine wpAny_bind (wpAny_lookBehind W4 (by rw[RJ];exact pastItsLine_dict (Nat.le_trans Gy (by rw[List.length_cons,List.length_nil,sizeLine_eq];omega))) ?_)
 refine wpAny_pure ?_
 refine wpAny_pure (wpAny_pure (h h' _ (fun b ob hbx hb=>?_) ?_ yz))
 ·exact(hs.2 b (Nat.ne_of_lt (Heap.lt_size hb))).trans ((Heap.get?_update_ne _ _ _ _ hbx).trans (Heap.get?_push_of_some _ hb))
 ·exact(hs.2 e V5).trans (Heap.get?_update_self _ Nb rfl)
end
section
variable{prog:Program}{w:World}{A:Around}{E:Value->Shared->Prop}{s:Shared}{K:Frag}{e C:Addr}{ox:Obj}{od:Option Obj}{name:Str}{v:Value}
theorem S7{tk:Tok}{fill expr:Bool}{r:Found}{Q:Value->Shared->Prop}(X:K.In s.heap)(c:kh K C)(I:InstAt s.heap e ox C od)(hf:findObj K C od name=some r)
  (h:wpAny (model prog w) A.in1 (match r with | .value v=>ret v | .bind g a=>bindTo g a (.ref e) (.ref C) | .missing=>unsupported "x" : Sem PySem.Fin) (fun fin s'=>match fin with | .done (.ret v)=>wpAny (model prog w) A (handedOut v) Q E s' | _=>False) (fun _ _=>False) s) (hr:r≠.missing) :
  wpAny (model prog w) A (getAttrBy (.ref e) (.str name tk) fill expr) Q E s:=by
 have GA:=PySem.F.attr_ValueError.ga
 refine wpAny_holding (wpAny_bind (I.type _ _ _ _ (fun _ _ e=>e) (wpAny_bind (looks_findIn X c.ga _ _ _ _ (fun _ _ e=>e) ?_))))
 dsimp only
 rw[show(onTheHeap (Value.ref C)&&Value.builtin "BaseException.__getattribute__" == Value.builtin "object.__getattribute__")=false from by rw[show(Value.builtin "BaseException.__getattribute__" == Value.builtin "object.__getattribute__")=false from by left,Bool.and_false],if_neg (by decide)]
 unfold getAttrByItsOwn
 refine wpAny_bind ((looks_hook X (mc:=.ref C) (r:=none) (by rw[if_pos (by rfl)];exact c.gh)) _ _ _ _ (fun _ _ e=>e) (wpAny_bind (wpAny_attempt (wpAny_holding ?_))))
 unfold callGetattribute
 rw[show(expr&&onTheHeap (Value.builtin "BaseException.__getattribute__"))=false from Bool.and_false _,if_neg (by decide)]
 unfold boundAndCalled
 rw[GA.bind]
 refine wpAny_bind (wpAny_pure ?_)
 show wpAny _ _ (call (.builtin "BaseException.__getattribute__") [.ref e,.str name tk]) _ _ _
 refine wpAny_call ?_
 have sub:Looks (model prog w) s.heap (isInstance (.ref e) (.type "BaseException")) true:=I.type.andThen (looks_mroIn X (c.sub (by left)))
 refine codeAny_call_builtin GA.plain PySem.F.entry_bexc_ga (@check_slot (model prog w) _ _ s "BaseException.__getattribute__" "BaseException" "__getattribute__" (.ref e) [.str name tk] [] _ (by left) (by left) sub (PySem.F.args_bexc_ga (.ref e) (.str name tk)) ?_)
 unfold Builtin.«object.__getattribute__»
 refine wpAny_bind (wpAny_pure ?_)
 refine wpAny_bind (wpAny_pure (wpAny_bind (I.type.here (wpAny_bind ((looks_find X I hf).here ?_)))))
 cases r with
 | missing=>exact absurd rfl hr
 | value v =>
  refine wpAny_mono h (fun fin s' z=>?_) fun _ _ z=>z.elim
  rcases fin with (_ | _ | _ | _) | _<;>first | exact z | exact z.elim
 | bind g a =>
  refine wpAny_mono h (fun fin s' z=>?_) fun _ _ z=>z.elim
  rcases fin with (_ | _ | _ | _) | _<;>first | exact z | exact z.elim
theorem Er{dx:Addr}{vs:Array Value}{mA:Str->Option Value}{expr:Bool}{Q:Value->Shared->Prop}(X:K.In s.heap)(c:kh K C)(he:s.heap.get? e=some { cls:=.ref C,dict:=some dx,data:=.fields vs })(hn:s.heap.Ns1 dx mA)
  (ha:findIn K (.ref C) name=some none) (hv:mA name=some v) (hh:handedIn v=true) (h:Q v { s with toks:=s.toks+1 }):wpAny (model prog w) A (getAttr (.ref e) name expr) Q E s:=by
 obtain⟨od,h1,h2⟩:=lW hn
 have I:InstAt s.heap e { cls:=.ref C,dict:=some dx,data:=.fields vs } C (some od):=⟨he,rfl,rfl,h1⟩
 refine wpAny_bind (wpAny_mkText (S7 (s:={ s with toks:=s.toks+1 }) (r:=.value v) X c I (findObj_own c.dict ha rfl (by rw[h2,hv])) (wpAny_pure ?_) (by simp)))
 show wpAny _ _ (handedOut v) _ _ _
 rw[handedOut_of hh]
 exact wpAny_pure h
theorem K3{dx:Addr}{vs:Array Value}{mA:Str->Option Value}{Q:Option Value->Shared->Prop}(X:K.In s.heap)(c:kh K C)(he:s.heap.get? e=some { cls:=.ref C,dict:=some dx,data:=.fields vs })(hn:s.heap.Ns1 dx mA)
  (h:Q (some (.ref C)) { s with toks:=s.toks+1 }):wpAny (model prog w) A (getAttr? (.ref e) "__class__") Q E s:=by
 obtain⟨od,h1,h2⟩:=lW hn
 have I:InstAt s.heap e { cls:=.ref C,dict:=some dx,data:=.fields vs } C (some od):=⟨he,rfl,rfl,h1⟩
 have hf:findObj K C (some od) "__class__" = some (.bind (.builtin "getset_descriptor.__get__") (.builtin "object.__class__")):=findObj_data (by obtain⟨cd,tl,hc,_⟩:=c.cls;rw[hc];rfl) c.kl c.kg c.kt
 unfold getAttr? getAttrBy?
 refine wpAny_bind (wpAny_mkText (wpAny_bind (wpAny_attempt (S7 (s:={ s with toks:=s.toks+1 }) (r:=.bind _ _) (Q:=fun v s'=>wpAny (model prog w) A (pure (some v)) Q E s') X c I hf ?_ (by simp)))))
 show wpAny _ _ (bindTo (.builtin "getset_descriptor.__get__") (.builtin "object.__class__") (.ref e) (.ref C)) _ _ _
 unfold bindTo
 refine wpAny_bind (wpAny_holding (wpAny_call (class_get (s:={ s with toks:=s.toks+1 }) (ox:={ cls:=.ref C,dict:=some dx,data:=.fields vs }) (od:=some od) X I (c.sub (by left)) ?_)))
 first
  | exact wpAny_pure (handed_on rfl (wpAny_pure h))
  | exact handed_on rfl (wpAny_pure h)
theorem Hj{dx:Addr}(c:kh K C):KitX K (.ref e) (.ref C) (fun h=>(∃ vs,h.get? e=some { cls:=.ref C,dict:=some dx,data:=.fields vs })/\∃ mA,h.Ns1 dx mA) where
 ty:=fun M h X ⟨⟨vs,he⟩,mA,hn⟩=>by
  obtain⟨od,h1,h2⟩:=lW hn
  have I:InstAt h e { cls:=.ref C,dict:=some dx,data:=.fields vs } C (some od):=⟨he,rfl,rfl,h1⟩
  exact I.type
 it:=fun _ _ X _=>by
  obtain⟨cd,tl,Gy,_⟩:=c.cls
  unfold clsIn at Gy
  split at Gy
  ·rename_i c' d' cd' NR ho
   intro A' Q' E' s' k q
   unfold isType loadHead
   exact wpAny_bind (wpAny_loadPart (k _ _ (X _ _ ho)) (wpAny_pure q))
  ·cases Gy
 ne:=fun h tp dd its n sl X htp=>by
  obtain⟨cd,tl,Gy,_⟩:=c.cls
  refine Bool.eq_false_iff.mpr fun q=>?_
  have e:C=tp:=Value.ref.inj (beq_iff_eq.mp q)
  subst e
  unfold clsIn at Gy
  split at Gy
  ·rename_i c' d' cd' NR ho
   rw[X _ _ ho] at htp
   cases htp
  ·cases Gy
 ca:=fun {_ _ _ _ _ s} X ⟨⟨vs,he⟩,mA,hn⟩ k=>K3 X c he hn k
end
end L2
namespace L2
open PySem
section
variable{prog:Program}{w:World}{A:Around}{E:Value->Shared->Prop}{R:Result->Shared->Prop}{h:Heap}{g:Array GenState}{d:Drawn}{t:Nat}{os:OsState}
variable{nm q:Str}{C N:Addr}{bs bm:List Value}{hdct:Bool}{sn:List Str}{sub:List Value}{ab:Bool}{col:Option Bool}{dd:Option Addr}{k0 k1 k2 k3 k5:Option Value}{B newId nid Ba:String}{bmB:List Value}
theorem K4(F:ExcBaseFacts B nid Ba bmB)(T:qW B bm){e:Addr}{vs:Array Value}{rest:List Value}{Q:Value->Shared->Prop}(hC:h.get? C=some (excClassObj nm q C N bs bm hdct sn sub ab col dd k0 k1 k2 k3 k5 newId))
  (he:h.get? e=some { cls:=.ref C,data:=.fields vs }) (hz:0<vs.size) (y_:rest.length<=sizeLine)
  (hq:∀ h',(∀ b o,b≠e->h.get? b=some o->h'.get? b=some o)->h'.get? e=some { cls:=.ref C,data:=.fields (vs.setIfInBounds 0 (.ref h.objs.size)) }->Q .none ⟨h',g,d,t,os⟩) :
  wpAny (model prog w) A (call (.builtin Ba) (.ref e::rest)) Q E ⟨h,g,d,t,os⟩:=by
 have S3:=T.own (C:=C)
 have Xw:=F.noStar
 refine wpAny_call (codeAny_call_builtin F.init.plain F.initEntry ?_)
 have chk:∀ (Q':Unit->Shared->Prop) (E':Value->Shared->Prop) (A':Around),Q' () ⟨h,g,d,t,os⟩->wpAny (model prog w) A' (checkBuiltinCall Ba ⟨.ref e::rest,[]⟩) Q' E' ⟨h,g,d,t,os⟩:=fun Q' E' A' tS=>by
  simp only[checkBuiltinCall,F.initKind,F.initSplit,F.initRow]
  repeat (first | with_reducible refine wpAny_loadPart_at he ?_ | with_reducible refine wpAny_loadPart_at hC ?_ | (with_reducible refine wpAny_isSubtype_exc hC ?_;rw[S3]) | wp_step)
  refine wpAny_onRaise ?_
  rw[show ∀ (a b:String) (n:Nat),Bind.check ⟨.positional, "*",B,.self,[⟨"args",.varPos,false⟩]⟩ a b n (List.map (fun x=>x.fst) ({ pos:=Value.ref e::rest }:Args).kw)=pure () from
   fun a b n=>check_star_args _ _ _ _ _ _]
  exact wpAny_pure tS
 refine chk _ _ _ ?_
 wp_walk
 have h0:vs[0]?=some vs[0]:=by simp [hz]
 rw[h0]
 have OE:(h.push { cls:=Value.type "tuple",data:=Data.seq rest.toArray }).get? e=some { cls:=.ref C,data:=.fields vs }:=Heap.get?_push_of_some _ he
 refine wpAny_pure (wpAny_bind (wpAny_setField OE rfl hz ?_))
 have fin:Q .none ⟨(h.push { cls:=Value.type "tuple",data:=Data.seq rest.toArray }).update e (Obj.mapFields (·.setIfInBounds 0 (.ref h.objs.size))),g,d,t,os⟩:=by
  refine hq _ (fun b o hb ho=>?_) ?_
  ·rw[Heap.get?_update_other _ _ (Ne.symm hb)]
   exact Heap.get?_push_of_some _ ho
  ·exact Heap.get?_update_self _ OE rfl
 cases vs[0]<;>first
  | exact wpAny_pure (wpAny_pure fin)
  | exact wpAny_letGo (wpAny_pure fin)
end
end L2
namespace L2
open PySem PySem.Spec PyProof.Rows
structure Kd(h:Heap)(lo:Nat)(H:Hp)(a C dx:Addr):Prop where
 ex:∃ vs,h.get? a=some { cls:=.ref C,dict:=some dx,data:=.fields vs }/\1<vs.size/\A_ h lo a vs/\∀ T∈jk vs,H T=none
 lo:lo<=a
 free:H a=none
 dict:∃ fs,H dx=some (.xd fs)
def bu(P:Program)(w:World):yM:=fun outer H s E e s'=>∃ (a C dx:Addr) (H':Hp),e=.ref a/\s'.os=s.os/\AllBare s'.gens/\Un (ni outer) [] H H' s.heap s'.heap/\lS P w H' s'.heap/\Kd s'.heap s.heap.objs.size H' a C dx/\E (.ref C) (some dx) H'
theorem A_.mono{h:Heap}{lo S8:Nat}{e:Addr}{vs:Array Value}(t:A_ h lo e vs)(hl:S8<=lo):A_ h S8 e vs:=by
 rcases t with t | ⟨T,oT,ts,a,b,c⟩
 ·exact .inl t
 ·exact .inr ⟨T,oT,ts,a,Nat.le_trans hl b,c⟩
theorem Kd.mono{h:Heap}{lo S8:Nat}{H:Hp}{a C dx:Addr}(f:Kd h lo H a C dx)(hl:S8<=lo):Kd h S8 H a C dx:=by
 obtain⟨⟨vs,h1,h2,h3,h4⟩,h5,h6,h7⟩:=f
 exact⟨⟨vs,h1,h2,h3.mono hl,h4⟩,Nat.le_trans hl h5,h6,h7⟩
section
variable{P:Program}{w:World}{K:W.Frag}{mg:Str->Option Value}{base:Heap}{N:List Str}{qual:Str}{scope:Scope}{f:Addr}{cd:Value}{A:Around}{outer:List Env}{s:Shared}{H:Hp}{E:XK}
theorem K5{pins:List (Addr×Obj)}{σ:St}{H':Hp}{s':Shared}{a C dx:Addr}(I:Inv (nv (bu P w) P w K mg base N qual scope f cd A outer s H E) pins σ H' s')(fl:Kd s'.heap s.heap.objs.size H' a C dx)(hE:E (.ref C) (some dx) H') :
  (nv (bu P w) P w K mg base N qual scope f cd A outer s H E).xe (.ref a) s':=by
 obtain⟨⟨vs,h1,h2,h3,h4⟩,h5,h6,fs,h7⟩:=fl
 have tG:s'.heap.FunFrames base (envOfC qual scope s.heap.objs.size f cd::outer):=I.stack
 show wpAny (model P w) (A.deeper (envOfC qual scope s.heap.objs.size f cd)) (leaving (envOfC qual scope s.heap.objs.size f cd) (.ref a)) _ _ s'
 have hsz:s.heap.objs.size<=s'.heap.objs.size:=I.sz
 have su:ni (envOfC qual scope s.heap.objs.size f cd::outer)=s.heap.objs.size::ni outer:=rfl
 refine Eo (lo:=s.heap.objs.size) (base:=base) I.ok.frames tG (L:=s.heap.objs.size) rfl h1 rfl h2 h3 h5 hsz fun h' T oT ts t1 t2 G g1 g2 g3 g4=>?_
 rw[su] at G
 have young:∀ b∈a::jk vs,s.heap.objs.size<=b:=fun b hb=>by
  rcases List.mem_cons.mp hb with z | z
  ·rw[z];exact h5
  ·rcases h3 with t | ⟨T',AE,AF,q1,q2,_⟩
   ·unfold jk at z;rw[t] at z;cases z
   ·unfold jk at z;rw[q1] at z
    rw[List.mem_singleton.mp z];exact q2
 have OF:∀ b∈a::jk vs,H' b=none:=fun b hb=>by
  rcases List.mem_cons.mp hb with z | z
  ·rw[z];exact h6
  ·exact h4 b z
 have A3:lS P w H' h':=fun b u q=>by
  refine(I.a8 b u q).oi (fun c ob hc e=>?_) (fun _ z=>z) fun _ _ z=>z
  have Es:H' c≠none:=by
   rcases hc with z | z
   ·rw[z,q];simp
   ·rw[z];simp
  refine G.keep c ob (fun z=>?_) (fun z=>Es (OF c z)) e
  rcases List.mem_cons.mp z with y | y
  ·exact Es (y▸I.free)
  ·obtain⟨_,o',tu,_⟩:=I.ok.jH.mem (show c∈(outer.filterMap (·.frame)) from y)
   exact Es (I.base.free c o' tu (I.ok.CQ c y) (by intro q;exact absurd (show c∈([]:List Addr) from q) (by simp)))
 refine⟨a,C,dx,H',rfl,I.os,I.bare,⟨fun b o e n hb _=>?_,fun b o e n hb _=>?_,fun b o e n _=>?_,fun b o e _=>?_,I.base.om,I.base.pY,I.base.rz⟩,A3,⟨⟨_,g1,by simp [h2],.inr ⟨T,oT,ts,by simp [h2],Nat.le_trans hsz t1,t2,g2,g3,g4⟩,fun T' xn=>?_⟩,h5,h6,fs,h7⟩,hE⟩
 ·have lt:=Heap.lt_size e
  refine G.keep b o (fun z=>?_) (fun z=>absurd (young b z) (Nat.not_le.mpr lt)) (I.base.keep b o e n hb (by intro q;exact absurd (show b∈([]:List Addr) from q) (by simp)))
  rcases List.mem_cons.mp z with y | y
  ·rw[y] at lt;exact Nat.lt_irrefl _ lt
  ·exact hb y
 ·obtain⟨sl,e1⟩:=I.base.slot b o e n hb (by intro q;exact absurd (show b∈([]:List Addr) from q) (by simp))
  obtain⟨NR,e2⟩:=G.slot b _ (List.mem_cons_of_mem _ hb) e1
  exact⟨NR,e2⟩
 ·exact I.base.free b o e n (by intro q;exact absurd (show b∈([]:List Addr) from q) (by simp))
 ·obtain⟨o',e1⟩:=I.base.there b o e (by intro q;exact absurd (show b∈([]:List Addr) from q) (by simp))
  exact G.there b o' e1
 ·have:T'=T:=by
   unfold jk at xn
   simp [h2] at xn
   exact xn
  rw[this]
  exact I.a8.fresh t1
end
def iJ(X:Cx)(E:XK):Prop:=∀ (pins:List (Addr×Obj)) (σ:St) (H':Hp) (s':Shared) (lo:Nat) (a C dx:Addr),Inv X pins σ H' s'->Kd s'.heap lo H' a C dx->X.g0.heap.objs.size<=lo->(∀ p∈X.pn++pins,p.1<lo)->E (.ref C) (some dx) H'->X.xe (.ref a) s'
theorem av{P:Program}{w:World}{K:W.Frag}{mg:Str->Option Value}{base:Heap}{N:List Str}{qual:Str}{scope:Scope}{f:Addr}{cd:Value}{A:Around}{outer:List Env}{s:Shared}{H:Hp}{E:XK} :
  iJ (nv (bu P w) P w K mg base N qual scope f cd A outer s H E) E:=fun _ _ _ _ _ _ _ _ I f l _ e=>K5 I (f.mono l) e
theorem iJ.passes{X:Cx}{E:XK}(h:iJ X E):Passes (bu X.prog X.w) X E:=fun pins σ H s e s' I q=>by
 obtain⟨a,C,dx,H',rfl,os,bare,un,a8,fl,hE⟩:=q
 have I':Inv X pins σ H' s':=I.Gg (ch:=[]) os un a8 bare (fun b z=>nomatch z)
 exact h pins σ H' s' s.heap.objs.size a C dx I' fl I.sz (fun p hp=>Heap.lt_size (I.pin p hp).1) hE
section
variable{P:Program}{w:World}{K:W.Frag}{mg:Str->Option Value}{base:Heap}
structure oK(K:W.Frag)(x qual:Str)(st:Stmt)(f:Addr)(fd:FuncData):Prop where
 ex:∃ (oc:Value) (od:Option Addr) (dV kV doc pm:Value) (an:Option Addr) (bJ ct:Value) (C8:Array (Option Value)),
  fd=W.fnOf x qual (eT st) (cV st) (ao st) dV kV doc pm an bJ ct/\K.lookup f=some ⟨oc,od,.func fd,C8⟩/\W.codeIn K bJ qual=true
 kp:W.keepIn K (.ref f)=true
theorem d_.d{x qual:Str}{st:Stmt}{f:Addr}{fd:FuncData}(F:d_ K x qual st f fd):oK K x qual st f fd:=by
 obtain⟨oc,od,kV,doc,pm,an,bJ,ct,C8,h⟩:=F.ex
 exact⟨⟨oc,od,.none,kV,doc,pm,an,bJ,ct,C8,h⟩,F.kp⟩
theorem oK.kQ{x qual:Str}{st:Stmt}{f:Addr}{fd:FuncData}{N ps:List Str}{k:Nat}{sp:Sp}(F:oK K x qual st f fd)(S:au N ps (ao st))(len:∀ vs H Q E,sp vs H Q E->vs.length=ps.length)
  (tT:∀ (bJ:Value) (A:Around) (outer:List Env) (s:Shared) (H:Hp) (vs:List V) (Q:VK) (E:XK),gz k (A.deeper (envOfC qual (ao st) s.heap.objs.size f bJ))->sp vs H Q E ->
   ∃ t,vj (nv (bu P w) P w K mg base N qual (ao st) f bJ A outer s H E) (cV st) t/\t { nx:=fun _ H'=>Q .bY H',rt:=Q } (start N vs) H):aE P w K mg base (bu P w) (k+1) f fd ps sp:=by
 obtain⟨oc,od,dV,kV,doc,pm,an,bJ,ct,C8,rfl,lk,yA⟩:=F.ex
 exact GF lk yA S len fun A outer s H vs Q E hr yP=>tT bJ A outer s H vs Q E hr yP
theorem oK.ok0{x qual:Str}{st:Stmt}{f:Addr}{fd:FuncData}{N ps:List Str}{k:Nat}{sp:Sp}(F:oK K x qual st f fd)(S:au N ps (ao st))(len:∀ vs H Q E,sp vs H Q E->vs.length=ps.length)
  (tT:∀ (bJ:Value) (A:Around) (outer:List Env) (s:Shared) (H:Hp) (vs:List V) (Q:VK) (E:XK),gz k (A.deeper (envOfC qual (ao st) s.heap.objs.size f bJ))->sp vs H Q E ->
   ∃ t,vj (nv aY P w K mg base N qual (ao st) f bJ A outer s H E).NU (cV st) t/\t { nx:=fun _ H'=>Q .bY H',rt:=Q } (start N vs) H):aE P w K mg base aY (k+1) f fd ps sp:=by
 obtain⟨oc,od,dV,kV,doc,pm,an,bJ,ct,C8,rfl,lk,yA⟩:=F.ex
 refine GF lk yA S len fun A outer s H vs Q E hr yP=>?_
 obtain⟨t,h,q⟩:=tT bJ A outer s H vs Q E hr yP
 exact⟨t,h.NU,q⟩
end
def XO(e C:Addr):HO:=.ext fun h=>∃ vs,h.get? e=some { cls:=.ref C,data:=.fields vs }/\vs.size=6/\vs[1]?=some .none
def XD(e C dx:Addr):HO:=.ext fun h=>∃ vs,h.get? e=some { cls:=.ref C,dict:=some dx,data:=.fields vs }/\vs.size=6/\vs[1]?=some .none
theorem Nc{P:Program}{w:World}{H:Hp}{h:Heap}{e C:Addr}{vs:Array Value}(h1:h.get? e=some { cls:=.ref C,data:=.fields vs })(h2:vs.size=6)(h3:vs[1]?=some .none):bI P w H h e (XO e C) :=
 ⟨⟨vs,h1,h2,h3⟩,⟨_,h1⟩,fun _ _ ⟨vs,a,b⟩ k=>⟨vs,k _ a,b⟩⟩
theorem S9{P:Program}{w:World}{H:Hp}{h:Heap}{e C dx:Addr}{vs:Array Value}(h1:h.get? e=some { cls:=.ref C,dict:=some dx,data:=.fields vs })(h2:vs.size=6)(h3:vs[1]?=some .none):bI P w H h e (XD e C dx) :=
 ⟨⟨vs,h1,h2,h3⟩,⟨_,h1⟩,fun _ _ ⟨vs,a,b⟩ k=>⟨vs,k _ a,b⟩⟩
def del(H:Hp)(e:Addr):Hp:=fun b=>if b=e then none else H b
theorem ua{H:Hp}{e:Addr}:del H e e=none:=if_pos rfl
theorem xp{H:Hp}{e b:Addr}(h:b≠e):del H e b=H b:=if_neg h
theorem Inv.del{X:Cx}{pins:List (Addr×Obj)}{σ:St}{H:Hp}{s:Shared}{e:Addr}{φ:Heap->Prop}(I:Inv X pins σ H s)(he:H e=some (.ext φ)):Inv X pins σ (L2.del H e) s:=by
 have nn:∀ b,H b=none->L2.del H e b=none:=fun b n=>by
  by_cases h:b=e
  ·rw[h];exact ua
  ·rw[xp h];exact n
 have nt:∀ b o,H b=some o->(∀ φ,o≠.ext φ)->L2.del H e b=some o:=fun b o q z=>by
  have:b≠e:=fun h=>by rw[h,he] at q;cases q;exact z φ rfl
  rw[xp this];exact q
 refine⟨I.ok,I.os,I.bare,⟨I.base.keep,I.base.slot,fun b o q n hx=>nn b (I.base.free b o q n hx),I.base.there,fun b xs q=>nt b _ (I.base.om b xs q) (by simp),fun b o u q=>nt b _ (I.base.pY b o u q) (by simp),fun b ps q=>?_⟩,I.loc,I.cell,nn _ I.free,fun x c q=>nn _ (I.ir x c q),fun p hp=>?_,fun b u q=>?_,I.len⟩
 ·obtain⟨more,q'⟩:=I.base.rz b ps q
  exact⟨more,nt b _ q' (by simp)⟩
 ·obtain⟨a,n,r⟩:=I.pin p hp
  exact⟨a,nn _ n,r⟩
 ·have hb:b≠e:=fun h=>by rw[h,ua] at q;cases q
  rw[xp hb] at q
  exact(I.a8 b u q).oi (fun c v _ r=>r) (fun c r=>nt c _ r (by simp)) fun c xs r=>nt c _ r (by simp)
def Xx(K:W.Frag)(ta tb:TE):TE:=fun σ H Q=>ta σ H fun x H1=>∃ k,Su K x H1 k/\if k=true then Q x H1 else tb σ H1 Q
section
variable{X:Cx}{a b e o value:Expr}{rest es:List Expr}{ta tb tv:TE}{t:TA}{pos pos' apos p:Pos}{f x m:Str}
theorem OG(ha:PE X a ta)(hb:PE X (.BoolOp .Or (b::rest) pos) tb):PE X (.BoolOp .Or (a::b::rest) pos) (Xx X.K ta tb):=by
 intro pins s σ H Q I h
 refine BoolOp_or (bg (ha pins s σ H _ I h) fun v s1 ⟨x,H1,I1,r1,k,tk,q1⟩=>?_)
 refine bg (N5 (X:=X) pins s1 σ H1 x v (fun c H2=>c=k/\H2=H1) I1 r1 ⟨k,tk,rfl,rfl⟩) fun c s2 ⟨H2,I2,e1,e2⟩=>?_
 subst e1 e2
 cases c with
 | false=>exact hb pins s2 σ H2 Q I2 q1
 | true=>exact⟨x,H2,I2,r1,q1⟩
def K6(K:W.Frag)(ta tv:TE)(f:Str):TS:=fun D σ H=>tv σ H fun y H1=>ta σ H1 fun x H2=>∃ a C,x=.ref a/\H2 a=some (XO a C)/\kh K C/\bB K C f /\
 ∀ dx,H2 dx=none->D.nx σ (upd (upd H2 dx (.xd [(f,y)])) a (XD a C dx))
theorem Et(ha:PE X o ta)(hv:PE X value tv)(hs:swapsWith value (some (.Attribute o f pos')) pos.line X.env=pure false):PS X (.Assign [.Attribute o f pos'] value pos) (K6 X.K ta tv f):=by
 intro pins s σ H D I h
 refine plainObj_wpAny_Assign_Attribute (bg (hv pins s σ H _ I h) fun u s1 ⟨y,H1,I1,ry,q⟩=>bg (ha pins s1 σ H1 _ I1 q) fun ov s2 ⟨x,H2,I2,rx,a,C,ex,ea,c,n,q2⟩=>?_) hs
 subst ex
 obtain rfl:ov=Value.ref a:=rx
 obtain⟨⟨vs,e1,e2,e3⟩,_,_⟩:=(show bI X.prog X.w H2 s2.heap a (XO a C) from I2.a8 a _ ea)
 refine Ep I2.jI c n e1 fun h' tk k1 k2 k3=>?_
 have hd:H2 s2.heap.objs.size=none:=I2.a8.fresh (Nat.le_refl _)
 have nad:a≠s2.heap.objs.size:=Nat.ne_of_lt (Heap.lt_size e1)
 have S_:∃ od,h'.get? s2.heap.objs.size=some od:=by obtain⟨od,_,_,q,_⟩:=k3;exact⟨od,q⟩
 have Xy:∀ H',bI X.prog X.w H' h' s2.heap.objs.size (.xd [(f,y)]):=fun H'=>⟨_,k3,fun g=>by
  by_cases hg:g=f
  ·subst hg;simp only[List.lookup_cons,beq_self_eq_true,if_true];exact ry
  ·have:(g == f)=false:=by simpa using hg
   simp only[List.lookup_cons,this,List.lookup_nil,if_neg hg];trivial⟩
 have Gd:∀ c y,H2 c=some (.own y)->c≠a:=fun c y r z=>by rw[z,ea] at r;cases r
 have NQ:∀ c y,H2 c=some (.tup y)->c≠a:=fun c y r z=>by rw[z,ea] at r;cases r
 have I3:Inv X pins σ (upd (upd H2 s2.heap.objs.size (.xd [(f,y)])) a (XD a C s2.heap.objs.size)) { s2 with heap:=h',toks:=tk }:=by
  refine I2.un (h':=h') ⟨fun b ob q n _ _=>k1 b ob (fun z=>by rw[z,ea] at n;cases n) q,fun b ob q n _ _=>⟨ob.slots,k1 b ob (fun z=>by rw[z,ea] at n;cases n) q⟩,fun b ob q n _=>?_,fun b ob q _=>?_,fun b xs q=>?_,fun b ob u q=>?_,fun b ps q=>⟨#[],?_⟩⟩ fun b u q=>?_
  ·rw[aj (fun z=>by rw[z,ea] at n;cases n),aj (Nat.ne_of_lt (Heap.lt_size q))];exact n
  ·by_cases hb:b=a
   ·rw[hb];exact⟨_,k2⟩
   ·exact⟨ob,k1 b ob hb q⟩
  ·rw[aj (fun z=>by rw[z,ea] at q;cases q),aj (ah q hd)];exact q
  ·rw[aj (fun z=>by rw[z,ea] at q;cases q),aj (ah q hd)];exact q
  ·rw[aj (fun z=>by rw[z,ea] at q;cases q),aj (ah q hd),q];simp
  ·by_cases hb:b=a
   ·rw[hb,af] at q
    cases q
    rw[hb]
    exact S9 k2 e2 e3
   ·rw[aj hb] at q
    by_cases Xz:b=s2.heap.objs.size
    ·rw[Xz,af] at q
     cases q
     rw[Xz]
     exact Xy _
    ·rw[aj Xz] at q
     refine(I2.a8 b u q).oi (fun c v hc r=>k1 c v ?_ r) (fun c r=>?_) fun c xs r=>?_
     ·rcases hc with z | z
      ·rw[z];exact hb
      ·exact Gd c b z
     ·rw[aj (Gd c b r),aj (ah r hd)];exact r
     ·rw[aj (NQ c xs r),aj (ah r hd)];exact r
 exact⟨σ,_,I3,q2 _ hd⟩
end
structure K7(K:W.Frag)(C:Addr):Prop where
 ex:∃ (nm q:Str) (N:Addr) (bs bm:List Value) (hdct:Bool) (sn:List Str) (sub:List Value) (ab:Bool) (col:Option Bool) (dd:Option Addr) (k0 k1 k2 k3 k5:Option Value),
  K.lookup C=some (excClassObj nm q C N bs bm hdct sn sub ab col dd k0 k1 k2 k3 k5 "ValueError.__new__")/\qW "ValueError" bm/\bm.contains (.type "BaseException")=true
section
variable{X:Cx}{a b e o value:Expr}{rest es:List Expr}{ta tb tv:TE}{t:TA}{pos pos' apos p:Pos}{x m:Str}
theorem OH{H:Hp}{a:Addr}{o:HO}(h:H a=some o):upd H a o=H:=by
 funext b
 by_cases hb:b=a
 ·rw[hb,af,h]
 ·rw[aj hb]
theorem K8{CX:yM}{k:Nat}{f C0:Addr}{fd:FuncData}{ps:List Str}{sp:Sp}{mB:List V}{ds:List Value}{E:XK}{pl:Sem Bool}(hg:Gl X x)(hm:X.mg x=some (.ref C0))
  (yP:W.specialIn X.K (.ref C0) "__getattribute__" = some (some (.builtin "type.__getattribute__"))) (hrd:W.readsIn X.K C0 (.type "type")=true) (K1:W.findCls X.K (.ref C0) (.type "type") m=some (.val (.ref f)))
  (hk:W.keepIn X.K (.ref f)=true) (F:aE X.prog X.w X.K X.mg X.base CX k f fd ps sp) (hr:gz k X.A) (hb:Binds X.K fd ps ds) (hd:Vals mB ds) (hx:Passes CX X E) (ha:PA X (e::es) t)
  (AX:(x == ("__debug__" : Str))=false:=by decide) (tG:starEach (e::es) X.env=(false,eval e X.env)::starEach es X.env:=by rfl) (vm:(backTo pos (starEach es X.env)).any (·.1)=false:=by rfl)
  (ht:eval (.Call (.Attribute (.Name x p) m apos) (e::es) [] pos) X.env=(do
   let ov <- eval (.Name x p) X.env
   standAt apos.atName
   let (f,first) <- holding [ov] (getMethod ov m pl)
   callWith pos f first (backTo pos (starEach (e::es) X.env)) (backToKw pos (keywordEach [] X.env))):=by rfl) :
  PE X (.Call (.Attribute (.Name x p) m apos) (e::es) [] pos) (MX sp mB E t):=by
 intro pins s σ H Q I h
 refine W.methodCall_KW (pl:=pl) (j6 I hg hm ?_ AX) ht
 refine W.method_cls I.jI yP (W.cls_value I.jI hrd K1 rfl ?_)
 refine W.callWith_K (first:=[]) (h₀:=X.base) I.ok.mod.MJ hk (bg (ha pos pins _ σ H _ (I.tok _) h) fun us s1 ⟨vs,H1,I1,r,q⟩=>⟨I1.jI,?_⟩) tG vm
 exact w5 F hr hb hd hx I1 r q
def Hk(K:W.Frag)(t:TA):TE:=fun σ H Q=>t σ H fun vs H1=>∃ a C ys,vs=.ref a::ys/\ys.length<=1000/\H1 a=some (XO a C)/\K7 K C/\Q .bY H1
theorem Bb{pl:Sem Bool}(hg:Gl X "ValueError")(hm:X.mg "ValueError" = none)(K1:W.findCls X.K (.type "ValueError") (.type "type") "__init__" = some (.val (.builtin "ValueError.__init__")))(ha:PA X (e::es) t)
  (tG:starEach (e::es) X.env=(false,eval e X.env)::starEach es X.env:=by rfl) (vm:(backTo pos (starEach es X.env)).any (·.1)=false:=by rfl)
  (ht:eval (.Call (.Attribute (.Name "ValueError" p) "__init__" apos) (e::es) [] pos) X.env=(do
   let ov <- eval (.Name "ValueError" p) X.env
   standAt apos.atName
   let (f,first) <- holding [ov] (getMethod ov "__init__" pl)
   callWith pos f first (backTo pos (starEach (e::es) X.env)) (backToKw pos (keywordEach [] X.env))):=by rfl) :
  PE X (.Call (.Attribute (.Name "ValueError" p) "__init__" apos) (e::es) [] pos) (Hk X.K t):=by
 intro pins s σ H Q I h
 have hv:bootBuiltins "ValueError" = some (.type "ValueError"):=by left
 refine W.methodCall_KW (pl:=pl) (kW I hg hm hv ?_) ht
 obtain⟨mm,Fr0⟩:=I.fr
 refine W.method_type Fr0 I.ok.mod.MJ (W.kitMeta_of (by left)) (by left) K1 rfl ?_
 refine PyProof.Rows.callWith_builtin1 (bg (ha pos pins _ σ H _ (I.tok _) h) fun us s1 ⟨vs,H1,I1,r,q⟩=>?_) tG vm
 obtain⟨a,C,ys,rfl,hl,ea,xo,q⟩:=q
 cases r with
 | cons r1 r2 =>
  cases r1
  obtain⟨⟨vs,e1,e2,e3⟩,_,_⟩:=(show bI X.prog X.w H1 s1.heap a (XO a C) from I1.a8 a _ ea)
  obtain⟨nm,qq,N,bs,bm,hdct,sn,sub,ab,col,dd,k0,k1,k2,k3,k5,V6,T,_⟩:=xo.ex
  obtain⟨hh,g,d,tk,os⟩:=s1
  have hlen:=Vals.length r2
  refine K4 PySem.F.excBase_ValueError T (I1.jI _ _ V6) e1 (by omega) (by rw[<- hlen];exact Nat.le_of_lt (dP hl)) fun h' k1 k2=>?_
  have I2:Inv X pins σ (upd H1 a (XO a C)) ⟨h',g,d,tk,os⟩:=I1.write (x:=a) (e:=a) (t':=tk) (by rw[ea];trivial) (.inl rfl) k1 ⟨_,k2⟩ (Nc k2 (by simp [e2]) (by simp [e3]))
  rw[OH ea] at I2
  exact⟨.bY,H1,I2,rfl,q⟩
end
def cJ(C:Addr)(word:Str):Sp:=fun vs H Q _=>∃ e z,vs=[.ref e,.str z]/\z.length<=1000/\H e=some (XO e C)/\∀ dx,H dx=none->Q .bY (upd (upd H dx (.xd [("word",.str word)])) e (XD e C dx))
def Bc(C:Addr)(word:Str)(E:XK)(t:TA):TS:=fun _ σ H=>t σ H fun vs H1=>∃ z,vs=[.str z]/\z.length<=1000/\∀ dx,H1 dx=none->E (.ref C) (some dx) (upd H1 dx (.xd [("word",.str word)]))
theorem K9{H:Hp}{e dx:Addr}{o o' xd:HO}(he:H e=none)(Dh:dx≠e):del (upd (upd (upd H e o) dx xd) e o') e=upd H dx xd:=by
 funext b
 by_cases hb:b=e
 ·rw[hb,ua,aj Dh.symm,he]
 ·rw[xp hb,aj hb]
  by_cases hd:b=dx
  ·rw[hd,af,af]
  ·rw[aj hd,aj hb,aj hd]
section
variable{X:Cx}{e:Expr}{es:List Expr}{t:TA}{pos j' np:Pos}{x:Str}
theorem aW{k:Nat}{C fI:Addr}{fd:FuncData}{ps:List Str}{word:Str}{E:XK}(hg:Gl X x)(hm:X.mg x=some (.ref C))(c:kh X.K C)(xo:K7 X.K C)(hi:W.findIn X.K (.ref C) "__init__" = some (some (.ref fI)))(Sb:W.isFn X.K (.ref fI)=true)
  (F:aE X.prog X.w X.K X.mg X.base aY k fI fd ps (cJ C word)) (hr:gz (k+1) X.A) (hb:Binds X.K fd ps []) (hc:X.calm=true) (ft:iJ X E) (ha:PA X (e::es) t)
  (AX:(x == ("__debug__" : Str))=false:=by decide) (he:starEach (e::es) X.env=(false,eval e X.env)::starEach es X.env:=by rfl) (vm:(backTo j' (starEach es X.env)).any (·.1)=false:=by rfl) :
  PS X (.Raise (some (.Call (.Name x np) (e::es) [] j')) none pos) (Bc C word E t):=by
 intro pins s σ H D I h
 obtain⟨nm,qq,N,bs,bm,hdct,sn,sub,ab,col,dd,k0,k1,k2,k3,k5,V6,T,hB⟩:=xo.ex
 rw[arm_exec_Raise]
 simp only[evalOpt,Option.map]
 refine wpAny_bind (wpAny_standAt (Hh (C:=C) (nm:=nm) (q:=qq) (N:=N) (bs:=bs) (bm:=bm) (hdct:=hdct) (sn:=sn) (sub:=sub) (ab:=ab) (col:=col) (dd:=dd) (k0:=k0) (k1:=k1) (k2:=k2) (k3:=k3) (k5:=k5) (newId := "ValueError.__new__") hB (I.ok.hd hc) (wpAny_bind ?_)))
 refine wpAny_Call_Name_kw (j6 I hg hm ?_ AX)
 refine W.callWith_K (h₀:=X.base) I.ok.mod.MJ c.kp (bg (ha j' pins s σ H _ I h) fun us s1 ⟨vs,H1,I1,r,q⟩=>⟨I1.jI,?_⟩) he vm
 obtain⟨z,rfl,hz,q⟩:=q
 obtain⟨u,rfl,ru⟩:=vals1 r
 obtain⟨fo,hfo,K1⟩:∃ fo,X.K.lookup fI=some fo/\fo.cls=.type "function" := by
  have V7:((List.lookup fI X.K).map (fun x=>x.cls) == some (Value.type "function"))=true:=Sb
  cases hq:X.K.lookup fI with
  | none=>rw[hq] at V7;cases V7
  | some fo=>rw[hq] at V7;exact⟨fo,rfl,by simpa using V7⟩
 have KX:=I1.jI
 have tW:s1=⟨s1.heap,s1.gens,s1.drawn,s1.toks,s1.os⟩:=rfl
 rw[tW]
 refine K2 PySem.F.excBase_ValueError T (KX _ _ V6) (W.looks_findIn KX hi) (KX _ _ hfo) K1 (fun h' e me XE=>?_) (by show 1<=sizeLine;decide)
 obtain⟨tt,RP,_,_⟩:=me.there
 have e0:H1 e=none:=I1.a8.fresh XE
 have I2:Inv X pins σ (upd H1 e (XO e C)) ⟨h',s1.gens,s1.drawn,s1.toks,s1.os⟩:=I1.laid (a:=e) (o:=XO e C) (t':=s1.toks) me.keeps XE (Nc RP (by rfl) (by rfl))
 have r2:Vals [V.ref e,V.str z] [Value.ref e,u]:=.cons rfl (.cons ru .nil)
 have yP:cJ C word [V.ref e,V.str z] (upd H1 e (XO e C)) (fun v H2=>v=.bY/\∃ dx,H1 dx=none/\dx≠e/\H2=upd (upd (upd H1 e (XO e C)) dx (.xd [("word",.str word)])) e (XD e C dx)) E0 :=
  ⟨e,z,rfl,hz,af,fun dx xq=>by
   have ne:dx≠e:=fun q=>by rw[q,af] at xq;cases xq
   exact⟨rfl,dx,by rw[aj ne] at xq;exact xq,ne,rfl⟩⟩
 have hl:=F.len _ _ _ _ yP
 refine wpAny_call (codeAny_mono (F.run _ X.stack _ _ ⟨[Value.ref e,u],[]⟩ [Value.ref e,u] _ _ E0 (hr.make C [u] []) (I2.N7.make C [u] []) (by
  have:=hb ⟨h',s1.gens,s1.drawn,s1.toks,s1.os⟩ [Value.ref e,u] I2.jI (by rw[List.append_nil];exact hl)
  rw[List.append_nil] at this
  exact this) r2 yP) fun rr s' tS=>?_)
 cases rr with
 | error x=>exact(show False from tS).elim
 | ok fl =>
  cases fl with
  | next=>exact False.elim tS
  | brk=>exact False.elim tS
  | cont=>exact False.elim tS
  | ret uu =>
   obtain⟨v,H',I3,rv,ev,dx,xq,Dh,eH⟩:=I2.after tS
   subst ev
   refine⟨rv,wpAny_bind (wpAny_standAt (wpAny_pure ?_))⟩
   have eD:H' e=some (XD e C dx):=by rw[eH];exact af
   obtain⟨⟨vs,v1,v2,v3⟩,_,_⟩:=(show bI X.prog X.w H' s'.heap e (XD e C dx) from I3.a8 e _ eD)
   have I4:=I3.del eD
   rw[eH,K9 e0 Dh] at I4
   refine⟨e,dx,vs,rfl,I3.jI _ _ V6,v1,v3,ft pins σ _ s' s1.heap.objs.size e C dx I4 ⟨⟨vs,v1,by omega,.inl v3,fun T hT=>?_⟩,XE,by rw[aj Dh.symm];exact e0,_,af⟩ I1.sz (fun p hp=>Heap.lt_size (I1.pin p hp).1) (q dx xq)⟩
   unfold jk at hT
   rw[v3] at hT
   cases hT
end
theorem Inv.S'{X:Cx}{pins:List (Addr×Obj)}{σ:St}{H:Hp}{s:Shared}{lo:Nat}{a C dx:Addr}{M:Model}{Q:Unit->Shared->Prop}{E:Value->Shared->Prop}(I:Inv X pins σ H s)(tG:X.stack=X.env::X.outer)(vd:X.env.frame=some X.env.locals)
  (fl:Kd s.heap lo H a C dx) (wg:X.g0.heap.objs.size<=lo) (hp:∀ p∈X.pn++pins,p.1<lo)
  (h:∀ h',Inv X pins σ H { s with heap:=h' }->Kd h' lo H a C dx->Q () { s with heap:=h' }) :
  wpAny M X.A (noteFrame (.ref a) X.env) (fun _ s'=>wpAny M X.A (setFlight (.ref a) none) Q E s') E s:=by
 obtain⟨⟨vs,h1,h2,h3,h4⟩,h5,h6,fs,h7⟩:=fl
 have hsk:s.heap.FunFrames X.base (X.env::X.outer):=tG▸I.stack
 have hfm:X.A.frames=some (X.env::X.outer):=tG▸I.ok.frames
 have su:ni (X.env::X.outer)=X.env.locals::X.fs:=by
  unfold ni
  rw[List.filterMap_cons,vd]
  rfl
 refine za (lo:=lo) (base:=X.base) hfm hsk vd h1 rfl h2 h3 h5 (Nat.le_of_lt (Nat.lt_of_le_of_lt h5 (Heap.lt_size h1))) fun h' T oT ts t1 t2 G g1 g2 g3 g4=>?_
 rw[su] at G
 have young:∀ b∈a::jk vs,lo<=b:=fun b hb=>by
  rcases List.mem_cons.mp hb with z | z
  ·rw[z];exact h5
  ·rcases h3 with t | ⟨T',AE,AF,q1,q2,_⟩
   ·unfold jk at z;rw[t] at z;cases z
   ·unfold jk at z;rw[q1] at z
    rw[List.mem_singleton.mp z];exact q2
 have OF:∀ b∈a::jk vs,H b=none:=fun b hb=>by
  rcases List.mem_cons.mp hb with z | z
  ·rw[z];exact h6
  ·exact h4 b z
 have Ta:∀ b∈a::jk vs,∃ o ws,s.heap.get? b=some o/\o.data=.fields ws:=fun b hb=>by
  rcases List.mem_cons.mp hb with z | z
  ·rw[z];exact⟨_,vs,h1,rfl⟩
  ·rcases h3 with t | ⟨T',AE,AF,q1,q2,q3,q4,q5,_⟩
   ·unfold jk at z;rw[t] at z;cases z
   ·unfold jk at z;rw[q1] at z
    rw[List.mem_singleton.mp z];exact⟨AE,AF,q4,q5⟩
 obtain⟨m0,hn0,hl0⟩:=id I.loc
 have A3:lS X.prog X.w H h':=fun b u q=>by
  refine(I.a8 b u q).oi (fun c ob hc e=>?_) (fun _ z=>z) fun _ _ z=>z
  have Es:H c≠none:=by
   rcases hc with z | z
   ·rw[z,q];simp
   ·rw[z];simp
  refine G.keep c ob (fun z=>?_) (fun z=>Es (OF c z)) e
  have:c∈ni X.stack:=by rw[tG,su];exact z
  exact Es (I.rY c this)
 have I2:Inv X pins σ H { s with heap:=h' }:=by
  refine I.step (g':=s.gens) (t':=s.toks) (d':=s.drawn) (ch:=a::jk vs) (fun b hb=>⟨.inr (Nat.le_trans wg (young b hb)),fun z=>?_,fun x c e z=>?_,fun p Tb z=>?_⟩) (fun b o n1 n2 n3 e _=>G.keep b o (fun z=>(List.mem_cons.mp z).elim n1 n2) n3 e) (fun b o _ hb _ e _=>G.slot b o (List.mem_cons_of_mem _ hb) e) (fun _ _ _ _ n=>n)
   (fun b o _ e=>G.there b o e) (fun _ _ e=>e) (fun _ _ _ e=>e) (fun b ps e=>⟨#[],by rw[e];simp⟩) (fun m hm=>?_) A3 I.bare
  ·obtain⟨o,ws,e1,e2⟩:=Ta b hb
   obtain⟨o',es,ep,e3,e4,_⟩:=hn0
   rw[z,e3] at e1;cases e1;rw[e4] at e2;cases e2
  ·obtain⟨o,ws,e1,e2⟩:=Ta b hb
   obtain⟨v,o',e3,e4⟩:=I.cell x c e
   rw[<- z,e3] at e1;cases e1;rw[e4] at e2;cases e2
  ·exact absurd (hp p Tb) (Nat.not_lt.mpr (z▸young b hb))
  ·obtain⟨o,es,ep,e1,r⟩:=hm
   obtain⟨sl,e2⟩:=G.slot _ o List.mem_cons_self e1
   exact⟨_,es,ep,e2,r⟩
 refine h h' I2 ⟨⟨_,g1,by simp [h2],.inr ⟨T,oT,ts,by simp [h2],?_,t2,g2,g3,g4⟩,fun T' xn=>?_⟩,h5,h6,fs,h7⟩
 ·exact Nat.le_trans h5 (Nat.le_trans (Nat.le_of_lt (Heap.lt_size h1)) t1)
 ·have:T'=T:=by
   unfold jk at xn
   simp [h2] at xn
   exact xn
  rw[this]
  exact I.a8.fresh t1
theorem Inv.OI{X:Cx}{pins:List (Addr×Obj)}{σ:St}{H:Hp}{s:Shared}{lo:Nat}{a C dx:Addr}{M:Model}{A:Around}{Q:Unit->Shared->Prop}{E:Value->Shared->Prop}(I:Inv X pins σ H s)
  (fl:Kd s.heap lo H a C dx) (wg:X.g0.heap.objs.size<=lo) (hp:∀ p∈X.pn++pins,p.1<lo)
  (h:∀ h',Inv X pins σ H { s with heap:=h' }->Kd h' lo H a C dx->Q () { s with heap:=h' }):wpAny M A (setFlight (.ref a) none) Q E s:=by
 obtain⟨⟨vs,h1,h2,h3,h4⟩,h5,h6,fs,h7⟩:=id fl
 unfold setFlight
 rcases h3 with t | ⟨T,oT,ts,q1,q2,q3,q4,q5,q6⟩
 ·refine wpAny_bind (wpAny_field h1 rfl t ?_)
  rw[if_neg (by decide)]
  exact wpAny_pure (h s.heap I fl)
 ·refine wpAny_bind (wpAny_field h1 rfl q1 ?_)
  rw[if_pos (show(Value.ref T != Value.none)=true from by simp)]
  refine wpAny_setField q4 q5 (Array.getElem?_eq_some_iff.mp q6).1 ?_
  have hT:H T=none:=h4 T (by unfold jk;rw[q1];exact List.mem_singleton.mpr rfl)
  have other:∀ b,b≠T->(s.heap.update T (Obj.mapFields (·.setIfInBounds 3 ((none:Option Addr).elim Value.none fun f=>rawInt f)))).get? b=s.heap.get? b:=fun b hb=>Heap.get?_update_other _ _ (Ne.symm hb)
  obtain⟨m0,⟨o0,es0,ep0,e0,d0,_⟩,_⟩:=id I.loc
  refine h _ (I.turned (t':=s.toks) (it:=T) (fun b o hb e=>(other b hb).trans e) hT (fun z=>?_) (.inr (Nat.le_trans wg q2)) (fun x c e z=>?_) (fun p Tb z=>absurd (hp p Tb) (Nat.not_lt.mpr (z▸q2)))) ⟨⟨vs,(other a (Ne.symm q3)).trans h1,h2,.inr ⟨T,_,_,q1,q2,q3,Heap.get?_update_self _ q4 (Obj.isFreed_of_fields (Obj.data_mapFields q5 _)),Obj.data_mapFields q5 _,?_⟩,h4⟩,h5,h6,fs,h7⟩
  ·rw[z,e0] at q4;cases q4;rw[d0] at q5;cases q5
  ·obtain⟨v,o',e3,e4⟩:=I.cell x c e
   rw[z,q4] at e3;cases e3;rw[q5] at e4;cases e4
  ·have:=(Array.getElem?_eq_some_iff.mp q6).1
   simp [this]
def zc(X:Cx)(pins:List (Addr×Obj))(Ew:Value->Shared->Prop):Cx:={ X with xe:=Ew,pn:=X.pn++pins }
theorem Inv.Tc{X:Cx}{pins:List (Addr×Obj)}{σ:St}{H:Hp}{s:Shared}(I:Inv X pins σ H s)(Ew:Value->Shared->Prop):Inv (zc X pins Ew) [] σ H s :=
 ⟨⟨I.ok.mod,I.ok.kind,I.ok.glob,I.ok.blt,I.ok.above,I.ok.inj,I.ok.has,I.ok.Ks,I.ok.hd,I.ok.frames,I.ok.ML,I.ok.RH,I.ok.bs,I.ok.AA,I.ok.vh,I.ok.wV,I.ok.jH,I.ok.CQ⟩,I.os,I.bare,I.base,I.loc,I.cell,I.free,I.ir,
  fun p hp=>I.pin p (by have AD:p∈(X.pn++pins)++[]:=hp;rwa [List.append_nil] at AD),I.a8,I.len⟩
theorem Inv.ub{X:Cx}{pins oq:List (Addr×Obj)}{σ:St}{H:Hp}{s:Shared}{Ew:Value->Shared->Prop}(I:Inv (zc X pins Ew) oq σ H s):Inv X pins σ H s :=
 ⟨⟨I.ok.mod,I.ok.kind,I.ok.glob,I.ok.blt,I.ok.above,I.ok.inj,I.ok.has,I.ok.Ks,I.ok.hd,I.ok.frames,I.ok.ML,I.ok.RH,I.ok.bs,I.ok.AA,I.ok.vh,I.ok.wV,I.ok.jH,I.ok.CQ⟩,I.os,I.bare,I.base,I.loc,I.cell,I.free,I.ir,
  fun p hp=>I.pin p (List.mem_append_left _ hp),I.a8,I.len⟩
def nF(X:Cx)(pins:List (Addr×Obj))(a:Addr)(ob:Obj):Cx:={ X with A:=X.A.mark (some (.ref a)),calm:=false,pn:=(X.pn++pins)++[(a,ob)],xe:=fun _ _=>False }
theorem Inv.Td{X:Cx}{pins:List (Addr×Obj)}{σ:St}{H:Hp}{s:Shared}{a:Addr}{ob:Obj}(I:Inv X pins σ H s)(e:s.heap.get? a=some ob)(n:H a=none)(hL:a≠X.env.locals)(hf:a∉X.fs)(hd:∀ v,ob.data≠.cell v):Inv (nF X pins a ob) [] σ H s :=
 ⟨⟨I.ok.mod,I.ok.kind,I.ok.glob,I.ok.blt,I.ok.above,I.ok.inj,I.ok.has,I.ok.Ks,(fun z=>Bool.noConfusion z),I.ok.frames,I.ok.ML,I.ok.RH,I.ok.bs,I.ok.AA,I.ok.vh,I.ok.wV,I.ok.jH,I.ok.CQ⟩,I.os,I.bare,I.base,I.loc,I.cell,I.free,I.ir,
  fun p hp=>by
   have AD:p∈((X.pn++pins)++[(a,ob)])++[]:=hp
   rw[List.append_nil] at AD
   rcases List.mem_append.mp AD with z | z
   ·exact I.pin p z
   ·rw[List.mem_singleton.mp z];exact⟨e,n,hL,hf,hd⟩,I.a8,I.len⟩
theorem Inv.Te{X:Cx}{pins oq:List (Addr×Obj)}{σ:St}{H:Hp}{s:Shared}{a:Addr}{ob:Obj}(I:Inv (nF X pins a ob) oq σ H s)(hd:X.calm=true->X.A.handled=none):Inv X pins σ H s :=
 ⟨⟨I.ok.mod,I.ok.kind,I.ok.glob,I.ok.blt,I.ok.above,I.ok.inj,I.ok.has,I.ok.Ks,hd,I.ok.frames,I.ok.ML,I.ok.RH,I.ok.bs,I.ok.AA,I.ok.vh,I.ok.wV,I.ok.jH,I.ok.CQ⟩,I.os,I.bare,I.base,I.loc,I.cell,I.free,I.ir,
  fun p hp=>I.pin p (List.mem_append_left _ (List.mem_append_left _ hp)),I.a8,I.len⟩
section
variable{X:Cx}{pins:List (Addr×Obj)}{σ:St}{H:Hp}{s:Shared}{a C dx:Addr}{vs:Array Value}{e:Expr}{te:TE}{f:Str}{pos:Pos}
theorem Eu(OJ:(a,({ cls:=.ref C,dict:=some dx,data:=.fields vs }:Obj))∈X.pn)(he:PE X e te)(hb:attributeBase e f X.env (eval e X.env)=eval e X.env:=by rfl) :
  PE X (.Attribute e f pos) (fun σ H Q=>te σ H fun x H1=>∃ fs v,x=.ref a/\kh X.K C/\bB X.K C f/\H1 dx=some (.xd fs)/\fs.lookup f=some v/\Q v H1):=by
 intro pins s σ H Q I h
 refine C7 hb (bg (he pins s σ H _ I h) fun ov s1 ⟨x,H1,I1,rx,fs,v,ex,c,n,ed,l,q⟩=>?_)
 subst ex
 obtain rfl:ov=Value.ref a:=rx
 obtain⟨mA,hn,hr⟩:=(show bI X.prog X.w H1 s1.heap dx (.xd fs) from I1.a8 dx _ ed)
 have hrv:=hr f
 rw[l] at hrv
 obtain⟨u,e1,ru⟩:=j5.some_of hrv
 exact Er I1.jI c (I1.pin _ (List.mem_append_left _ OJ)).1 hn n e1 (v_ ru) ⟨v,H1,I1.tok _,ru,q⟩
theorem Ex(OJ:(a,({ cls:=.ref C,dict:=some dx,data:=.fields vs }:Obj))∈X.pn):g9 X (.builtin "isinstance") (fun xs H Q=>∃ D fs b,xs=[.ref a,.ref D]/\kh X.K C/\H dx=some (.xd fs)/\W.kitOne X.K (.ref C) (.ref D)=some b/\Q (.bl b) H):=by
 intro pins s σ H xs us Q I r h
 obtain⟨D,fs,b,rfl,c,ed,hk,q⟩:=h
 obtain⟨u,w',rfl,ru,AB⟩:=vals2 r
 cases ru
 cases AB
 obtain⟨mA,hn,_⟩:=(show bI X.prog X.w H s.heap dx (.xd fs) from I.a8 dx _ ed)
 exact W.kia_one (Hj (dx:=dx) c) I.jI ⟨⟨vs,(I.pin _ (List.mem_append_left _ OJ)).1⟩,mA,hn⟩ hk (fun z=>nomatch z) fun tk=>⟨V.bl b,H,I.tok tk,rfl,q⟩
end
abbrev qe(C dx:Addr)(vs:Array Value):Obj:={ cls:=.ref C,dict:=some dx,data:=.fields vs }
def Tf(K:W.Frag)(R:Addr)(i len:Nat)(Eh:XK)(tb:TS)(ts:Addr->Addr->Addr->Array Value->TS):TS:=fun D σ H=>tb D σ H/\∀ c d H',Eh c d H'->∃ C dx,c=.ref C/\d=some dx/\W.exmOne K (.ref C) (.ref R)=some true /\
 ∀ a vs (bf:St),bf.length=len->ts a C dx vs { nx:=fun _ _=>False,rt:=D.rt } (bf.set i (some (.ref a))) H'
theorem Inv.forget{X:Cx}{pins:List (Addr×Obj)}{σ:St}{H:Hp}{s:Shared}{h':Heap}{m':Str->Option Value}{tk:Nat}(I:Inv X pins σ H s)(hn:h'.Ns X.env.locals m')(sb:Heap.SameBut X.env.locals s.heap h') :
  Inv X pins (List.replicate X.N.length none) H { s with heap:=h',toks:=tk }:=by
 have old:∀ b o,X.g0.heap.get? b=some o->b≠X.env.locals:=fun b o e=>Nat.ne_of_lt (Nat.lt_of_lt_of_le (Heap.lt_size e) I.ok.above)
 refine⟨I.ok,I.os,I.bare,⟨fun b o e n hb hx=>(sb.2 b (old b o e)).trans (I.base.keep b o e n hb hx),fun b o e n hb hx=>?_,I.base.free,fun b o e hx=>?_,I.base.om,I.base.pY,I.base.rz⟩,⟨m',hn,fun i x v e1 e2 e3=>?_⟩,fun x c e=>?_,I.free,I.ir,fun p hp=>?_,fun b u q=>?_,by simp⟩
 ·obtain⟨sl,q⟩:=I.base.slot b o e n hb hx
  exact⟨sl,(sb.2 b (old b o e)).trans q⟩
 ·obtain⟨o',q⟩:=I.base.there b o e hx
  exact⟨o',(sb.2 b (old b o e)).trans q⟩
 ·rw[List.getElem?_replicate] at e2
  split at e2<;>cases e2
 ·obtain⟨v,z⟩:=I.cell x c e
  exact⟨v,z.sameBut sb (I.MM x c e)⟩
 ·obtain⟨e,n,ne,nf,d⟩:=I.pin p hp
  exact⟨(sb.2 p.1 ne).trans e,n,ne,nf,d⟩
 ·refine(I.a8 b u q).oi (fun c v hc r=>(sb.2 c fun z=>?_).trans r) (fun _ r=>r) fun _ _ r=>r
  rcases hc with y | y
  ·rw[<- y,z,I.free] at q;cases q
  ·rw[z,I.free] at y;cases y
section
variable{X:Cx}{x n:Str}{i:Nat}{R:Addr}{body Hl:List Stmt}{OK:Stmt}{np Tg pos:Pos}{tb:TS}{ts:Addr->Addr->Addr->Array Value->TS}
theorem K_(Eh:XK)(tG:X.stack=X.env::X.outer)(vd:X.env.frame=some X.env.locals)(hc:X.calm=true)(hN:X.N.Nodup)(hi:X.N[i]?=some n)(hn:X.env.scope.names.lookup n=some .local)(hg:Gl X x)(hm:X.mg x=some (.ref R))
  (hb:∀ pins Ew,iJ (zc X pins Ew) Eh->vj (zc X pins Ew) body tb) (hs:∀ pins a C dx vs,vj (nF X pins a (qe C dx vs)) (OK::Hl) (ts a C dx vs)) (AX:(x == ("__debug__" : Str))=false:=by decide) :
  PS X (.Try body [.ExceptHandler (some (.Name x np)) (some n) (OK::Hl) Tg] [] [] pos) (Tf X.K R i X.N.length Eh tb ts):=by
 intro pins s σ H D I ⟨h1,hE⟩
 refine wpAny_Try_except ?_
 generalize hEw:(fun e bq=>wpAny (model X.prog X.w) X.A (noteFrame e X.env) (fun _ kJ=>wpAny (model X.prog X.w) X.A (setFlight e none) (fun _ jJ=>wpAny (model X.prog X.w) X.A (handleBy e X.env [.ExceptHandler (some (.Name x np)) (some n) (OK::Hl) Tg]) (SP X pins D) X.xe jJ) X.xe kJ) X.xe bq:Value->Shared->Prop)=Ew
 have ft:iJ (zc X pins Ew) Eh:=fun oq bf H' s' lo a C dx J fl wg Tb hEh=>by
  show Ew (.ref a) s'
  rw[<- hEw]
  obtain⟨C',dx',e1,e2,hx,hts⟩:=hE _ _ _ hEh
  cases e1
  cases e2
  have J':=J.ub
  have Ti:∀ p∈X.pn++pins,p.1<lo:=fun p hp=>Tb p (List.mem_append_left _ hp)
  refine J'.S' tG vd fl wg Ti fun h' I2 fl2=>?_
  obtain⟨⟨vs,v1,v2,v3,v4⟩,f5,f6,f7⟩:=id fl2
  refine wpAny_handleBy_cons (codeAny_handlers_test ?_) (by intro q;cases q)
  have aL:a≠X.env.locals:=fun z=>by
   obtain⟨m0,⟨o0,es0,ep0,e0,d0,_⟩,_⟩:=id I2.loc
   have e0':h'.get? X.env.locals=some o0:=e0
   rw[<- z,v1] at e0'
   cases e0'
   cases d0
  have aF:a∉X.fs:=fun z=>by
   obtain⟨_,o',tu,yz⟩:=I2.jH.mem z
   have AY:h'.get? a=some o':=tu
   rw[v1] at AY
   cases AY
   exact yz vs rfl
  have I3:Inv (nF X pins a (qe C dx vs)) [] bf H' { s' with heap:=h' }:=I2.Td v1 f6 aL aF (fun v z=>by cases z)
  refine j6 (X:=nF X pins a (qe C dx vs)) I3 hg hm ?_ AX
  have LT:W.Looks (model X.prog X.w) h' (typeOf (.ref a)) (.ref C):=by
   intro A' Q' E' s2 k q
   refine wpAny_typeOf_ref (k _ _ v1) q
  refine(W.exm_one (M:=model X.prog X.w) I3.jI LT hx) _ _ _ _ (fun _ _ e=>e) ?_
  refine codeAny_handlers_suite_as ?_
  refine I2.OI fl2 wg Ti fun h2 I4 fl4=>?_
  obtain⟨⟨V8,w1,w2,w3,w4⟩,_,_,_⟩:=id fl4
  have I5:Inv (nF X pins a (qe C dx V8)) [] bf H' { s' with heap:=h2 }:=I4.Td w1 f6 aL aF (fun v z=>by cases z)
  refine ou (X:=nF X pins a (qe C dx V8)) (i:=i) (v:=.ref a) I5 hN hi (.inl hn) rfl (fun s5 I6=>?_) (.inr hn)
  refine wpAny_mono (hs pins a C dx V8 [] s5 _ H' { nx:=fun _ _=>False,rt:=D.rt } I6 (hts a V8 bf I4.len)) (fun f s6 q=>?_) (fun _ _ z=>z.elim)
  cases f with
  | next=>obtain⟨_,_,_,z⟩:=q;exact z.elim
  | brk=>obtain⟨_,_,_,z⟩:=q;exact z.elim
  | cont=>obtain⟨_,_,_,z⟩:=q;exact z.elim
  | ret v =>
   obtain⟨v7,mz,H7,I7,r7,q7⟩:=q
   have I8:=I7.Te I.ok.hd
   obtain⟨m8,hn8,_⟩:=id I8.loc
   refine wpAny_nameGoes hn hn8 (by rw[I8.ok.kind];rfl) fun h9 m9 hn9 sb9=>?_
   exact⟨v7,_,H7,I8.forget hn9 sb9,r7,q7⟩
 refine wpAny_mono (hb pins Ew ft [] s σ H D (I.Tc Ew) h1) (fun f s1 q=>?_) fun e s1 q=>q
 cases f with
 | next =>
  obtain⟨CV,H1,I1,q1⟩:=q
  exact wpAny_execs_nil ⟨CV,H1,I1.ub,q1⟩
 | brk=>obtain⟨CV,H1,I1,q1⟩:=q;exact⟨CV,H1,I1.ub,q1⟩
 | cont=>obtain⟨CV,H1,I1,q1⟩:=q;exact⟨CV,H1,I1.ub,q1⟩
 | ret v=>obtain⟨v1,CV,H1,I1,r1,q1⟩:=q;exact⟨v1,CV,H1,I1.ub,r1,q1⟩
end
theorem Dk{K:W.Frag}{fd:FuncData}{ps:List Str}{T:Addr}{oT:Obj}{items:Array Value}{n:Nat}(hd:fd.defaults=.ref T)(lT:K.lookup T=some oT)(hs:oT.data=.seq items n)
  (h:∀ us:List Value,us.length=ps.length->∃ k,bindArgs fd ⟨us,[]⟩=seqItems? fd.defaults >>= k/\k (some items)=pure (ps.zip us)):Binds K fd ps []:=fun s us KX hl=>by
 rw[List.append_nil] at hl ⊢
 obtain⟨k,h1,h2⟩:=h us hl
 exact BindsTo.of_defaults hd (KX _ _ lT) hs h1 h2
abbrev TJ:=Str->St->Hp->VK->Prop
def PJ(X:Cx)(es:List Expr)(t:TJ):Prop:=∀ (pins:List (Addr×Obj)) (s:Shared) (σ:St) (H:Hp) (out:Str) (Q:VK),Inv X pins σ H s->t out σ H Q->wpAny (model X.prog X.w) X.A (joinParts out (evalEach es X.env)) (EP X pins σ Q) X.xe s
def XJ:TJ:=fun out _ H Q=>out.length<=sizeLine/\Q (.str out) H
def Tj(te:TE)(tj:TJ):TJ:=fun out σ H Q=>te σ H fun v H1=>∃ y,v=.str y/\(out++y).length<=sizeLine/\tj (out++y) σ H1 Q
inductive Tn:V->Str->Prop where
 | str (x:Str) (h:x.length<=sizeLine):Tn (.str x) x
 | int (i:Int) (h:i.natAbs.log2<1920):Tn (.int i) (toString i)
section
variable{X:Cx}{e v1 v2:Expr}{es:List Expr}{te:TE}{tj:TJ}{pos:Pos}
theorem eU:PJ X [] XJ:=fun pins s σ H out Q I h=>joinParts_nil ⟨.str out,H,I.tok _,⟨_,rfl⟩,h.2⟩ h.1
theorem aB(he:PE X e te)(hj:PJ X es tj):PJ X (e::es) (Tj te tj):=fun pins s σ H out Q I h=>by
 refine joinParts_cons (bg (he pins s σ H _ I h) fun u s1 ⟨v,H1,I1,r,y,e,hl,q⟩=>?_)
 subst e
 obtain⟨t,rfl⟩:=r
 exact⟨hl,hj pins s1 σ H1 _ Q I1 q⟩
theorem c7(hj:PJ X (v1::v2::es) tj):PE X (.JoinedStr (v1::v2::es) pos) (fun σ H Q=>tj Str.empty σ H Q):=fun pins s σ H Q I h=>JoinedStr_many (hj pins s σ H Str.empty Q I h)
def XM(te:TE):TE:=fun σ H Q=>te σ H fun v H1=>∃ z,Tn v z/\Q (.str z) H1
theorem bR(he:PE X e te):PE X (.FormattedValue e (-1) none pos) (XM te):=fun pins s σ H Q I h=>by
 refine FormattedValue_plain (bg (he pins s σ H _ I h) fun u s1 ⟨v,H1,I1,r,z,f,q⟩=>?_)
 cases f with
 | str x hx =>
  obtain⟨t,rfl⟩:=r
  exact formatField_str (fun t' tk=>⟨.str z,H1,I1.tok _,⟨_,rfl⟩,q⟩) hx
 | int i hi =>
  obtain⟨t,rfl⟩:=r
  exact formatField_int_small hi ⟨.str _,H1,I1.tok _,⟨_,rfl⟩,q⟩
end
theorem Ey{D:Addr}{n:Nat}{lo:Int}{tt:TT}{te:TE}{σ:St}{H1:Hp}{Q:Hp->Prop}(p:Nat->Bool)(f:Nat->V)(hD:H1 D=none)(hz:n<=sizeLine)
  (ht:∀ i,i<n->∀ (H:Hp) (R:Bool->Hp->Prop),ak H1 H->R (p i) H->tt (some (.int (lo+i))::σ) H R)
  (he:∀ i,i<n->p i=true->∀ (H:Hp) (R:VK),ak H1 H->R (f i) H->te (some (.int (lo+i))::σ) H R)
  (hd:Q (upd H1 D (.lst (((List.range n).filter p).map f)))):kc tt te D (MS lo n) σ H1 Q:=by
 refine⟨fun i m ys H=>m=n - i/\i<=n/\ys=((List.range i).filter p).map f/\H=upd H1 D (.lst ys),⟨n,by simp,Nat.zero_le _,by simp,rfl⟩,?_⟩
 rintro i m ys H ⟨rfl,hi,rfl,rfl⟩
 have sm:∀ o,ak H1 (upd H1 D o):=fun o b u e=>by rw[aj (ah e hD)];exact e
 by_cases c_:i<n
 ·refine .inr ⟨c_,fun x H' y=>?_⟩
  obtain⟨e,rfl⟩:=y
  subst e
  have tk:List.range (i+1)=List.range i++[i]:=List.range_succ
  refine ht i c_ _ _ (sm _) ?_
  cases hp:p i with
  | false =>
   refine cx ⟨n - (i+1),by omega,rfl,c_,?_,rfl⟩
   rw[tk,List.filter_append]
   simp [hp]
  | true =>
   refine cH (he i c_ hp _ _ (sm _) ⟨af,?_,n - (i+1),by omega,rfl,c_,?_,by rw[lR]⟩)
   ·rw[List.length_map]
    have h1:=List.length_filter_le p (List.range i)
    rw[List.length_range] at h1
    omega
   ·rw[tk,List.filter_append]
    simp [hp]
 ·have e:i=n:=by omega
  subst e
  exact .inl ⟨Nat.le_refl _,hd⟩
theorem vq(K:W.Frag):W.kitOne K (.type "list") (.type "bool")=some false:=by rfl
theorem xt(K:W.Frag):W.kitOne K (.type "list") (.type "int")=some false:=by rfl
theorem xu(K:W.Frag):W.kitOne K (.type "list") (.type "str")=some false:=by rfl
theorem lx(K:W.Frag):W.kitOne K (.type "list") (.type "tuple")=some false:=by rfl
theorem ak.put{H1 H3:Hp}{D:Addr}{o:HO}(hD:H1 D=none)(sm:ak H1 H3):ak H1 (upd H3 D o):=fun b u e=>by rw[aj (ah e hD)];exact sm b u e
theorem wt{D:Addr}{n:Nat}{lo:Int}{tt:TT}{te:TE}{σ:St}{H1:Hp}{Q:Hp->Prop}(p:Nat->Bool)(f:Nat->V)(hD:H1 D=none)(hz:n<=sizeLine)
  (ht:∀ i,i<n->∀ (H:Hp) (R:Bool->Hp->Prop),ak H1 H->(∀ H',ak H H'->R (p i) H')->tt (some (.int (lo+i))::σ) H R)
  (he:∀ i,i<n->p i=true->∀ (H:Hp) (R:VK),ak H1 H->(∀ H',ak H H'->R (f i) H')->te (some (.int (lo+i))::σ) H R)
  (hd:∀ H2,ak H1 H2->H2 D=some (.lst (((List.range n).filter p).map f))->Q H2):kc tt te D (MS lo n) σ H1 Q:=by
 refine⟨fun i m ys H=>m=n - i/\i<=n/\ys=((List.range i).filter p).map f/\ak H1 H/\H D=some (.lst ys),⟨n,by simp,Nat.zero_le _,by simp,(ak.refl _).put hD,af⟩,?_⟩
 rintro i m ys H ⟨rfl,hi,rfl,sm,hl⟩
 by_cases c_:i<n
 ·refine .inr ⟨c_,fun x H' y=>?_⟩
  obtain⟨e,rfl⟩:=y
  subst e
  have tk:List.range (i+1)=List.range i++[i]:=List.range_succ
  refine ht i c_ _ _ sm fun H2 s2=>?_
  cases hp:p i with
  | false =>
   refine cx ⟨n - (i+1),by omega,rfl,c_,?_,sm.trans s2,s2 _ _ hl⟩
   rw[tk,List.filter_append]
   simp [hp]
  | true =>
   refine cH (he i c_ hp _ _ (sm.trans s2) fun H3 s3=>⟨s3 _ _ (s2 _ _ hl),?_,n - (i+1),by omega,rfl,c_,?_,(sm.trans (s2.trans s3)).put hD,af⟩)
   ·rw[List.length_map]
    have h1:=List.length_filter_le p (List.range i)
    rw[List.length_range] at h1
    omega
   ·rw[tk,List.filter_append]
    simp [hp]
 ·have e:i=n:=by omega
  subst e
  exact .inl ⟨Nat.le_refl _,hd H sm hl⟩
theorem bV.same{K:W.Frag}{H H':Hp}{a:Addr}{xs:List V}(e:ak H H')(h:bV K H a xs):bV K H' a xs:=by
 rcases h with (h | ⟨o,h⟩) | h
 ·exact .inl (.inl (e _ _ h))
 ·exact .inl (.inr ⟨o,e _ _ h⟩)
 ·exact .inr h
def Eqv(H:Hp):Nat->V->V->Prop
 | 0,x,y=>x=y/\jL x=true
 | n+1,x,y=>(x=y/\jL x=true)\/∃ p q xs ys,x=.ref p/\y=.ref q/\((H p=some (.tup xs)/\H q=some (.tup ys))\/(H p=some (.lst xs)/\H q=some (.lst ys)))/\xs.length<=1000/\xs.length=ys.length /\
  ∀ (i:Nat) (x y:V),xs[i]?=some x->ys[i]?=some y->Eqv H n x y
theorem Eqv.same{H H':Hp}(e:ak H H'):∀ {n:Nat} {x y:V},Eqv H n x y->Eqv H' n x y
 | 0,_,_,h=>(show _/\_ from h)
 | n+1,x,y,h=>by
  rcases(show(_/\_)\/_ from h) with h | ⟨p,q,xs,ys,h1,h2,h3,h4,h5,h6⟩
  ·exact Or.inl h
  ·exact Or.inr ⟨p,q,xs,ys,h1,h2,h3.elim (fun z=>.inl ⟨e _ _ z.1,e _ _ z.2⟩) (fun z=>.inr ⟨e _ _ z.1,e _ _ z.2⟩),h4,h5,fun i x y a b=>Eqv.same e (h6 i x y a b)⟩
theorem Eqv.flat{H:Hp}{x:V}(h:jL x=true):∀ {n:Nat},Eqv H n x x
 | 0=>⟨rfl,h⟩
 | _+1=>Or.inl ⟨rfl,h⟩
theorem Eqv.om{H:Hp}{p q:Addr}{xs:List V}(hp:H p=some (.tup xs))(hq:H q=some (.tup xs))(hl:xs.length<=1000)(hf:∀ x∈xs,jL x=true){n:Nat}:Eqv H (n+1) (.ref p) (.ref q) :=
 Or.inr ⟨p,q,xs,xs,rfl,rfl,.inl ⟨hp,hq⟩,hl,rfl,fun i x y a b=>by rw[a] at b;cases b;exact Eqv.flat (hf x (List.mem_of_getElem? a))⟩
def Hm(n:Nat):Sp:=fun vs H Q _=>∃ x y,vs=[x,y]/\Eqv H n x y/\∀ H',ak H H'->Q (.bl true) H'
theorem all_true(n:Nat):(((List.range n).filter fun _=>true).map fun _=>V.bl true)=(List.replicate n true).map V.bl:=by
 rw[nC,List.map_replicate]
 induction n with
 | zero=>rfl
 | succ n ih=>rw[List.range_succ,List.map_append,ih,List.replicate_succ'];rfl
theorem zd(n:Nat):(List.replicate n true).all id=true:=by simp
def K'(K:W.Frag)(a C dx:Addr)(f:Str)(te:TE):TE:=fun σ H Q=>te σ H fun x H1=>∃ fs v,x=.ref a/\kh K C/\bB K C f/\H1 dx=some (.xd fs)/\fs.lookup f=some v/\Q v H1
def To(K:W.Frag)(a C dx:Addr):List V->Hp->VK->Prop:=fun xs H Q=>∃ D fs b,xs=[.ref a,.ref D]/\kh K C/\H dx=some (.xd fs)/\W.kitOne K (.ref C) (.ref D)=some b/\Q (.bl b) H
section
variable{X:Cx}{a C dx:Addr}{vs:Array Value}{e:Expr}{te:TE}{f:Str}{pos:Pos}{pins:List (Addr×Obj)}
theorem La(K:W.Frag)(hK:X.K=K)(he:PE (nF X pins a (qe C dx vs)) e te)(hb:attributeBase e f (nF X pins a (qe C dx vs)).env (eval e (nF X pins a (qe C dx vs)).env)=eval e (nF X pins a (qe C dx vs)).env:=by rfl):PE (nF X pins a (qe C dx vs)) (.Attribute e f pos) (K' K a C dx f te):=by
 subst hK
 exact Eu (X:=nF X pins a (qe C dx vs)) (List.mem_append_right _ (List.mem_singleton.mpr rfl)) he hb
theorem Ez(K:W.Frag)(hK:X.K=K):g9 (nF X pins a (qe C dx vs)) (.builtin "isinstance") (To K a C dx):=by
 subst hK
 exact Ex (X:=nF X pins a (qe C dx vs)) (List.mem_append_right _ (List.mem_singleton.mpr rfl))
end
def bX(E:XK)(H:Hp)(C:Addr)(wd:Str):Prop:=∀ dx H',ak H H'->H' dx=some (.xd [("word",.str wd)])->E (.ref C) (some dx) H'
def xv(Q:VK)(H:Hp)(v:V):Prop:=∀ H',ak H H'->Q v H'
theorem bX.to{E:XK}{H H1:Hp}{C:Addr}{wd:Str}(h:bX E H C wd)(sm:ak H H1):∀ dx,H1 dx=none->E (.ref C) (some dx) (upd H1 dx (.xd [("word",.str wd)])):=fun dx xq=>h dx _ (sm.trans (ak.new xq)) af
theorem bX.mono{E:XK}{H H1:Hp}{C:Addr}{wd:Str}(h:bX E H C wd)(sm:ak H H1):bX E H1 C wd:=fun dx H' s1 e=>h dx H' (sm.trans s1) e
def EhS(H:Hp)(Ok:Addr->Str->Prop):XK:=fun c d H'=>∃ C dx wd,c=.ref C/\d=some dx/\ak H H'/\H' dx=some (.xd [("word",.str wd)])/\Ok C wd
def bD(S:List Addr)(H H':Hp):Prop:=∀ b o,b∉S->H b=some o->H' b=some o
theorem bD.of{S:List Addr}{H H':Hp}(h:ak H H'):bD S H H':=fun b o _ e=>h b o e
theorem bD.trans{S:List Addr}{H H1 H2:Hp}(a:bD S H H1)(b:bD S H1 H2):bD S H H2:=fun c o n e=>b c o n (a c o n e)
theorem bD.upd{S:List Addr}{H:Hp}{a:Addr}{o:HO}(h:a∈S):bD S H (L2.upd H a o):=fun b u n e=>by
 have hb:b≠a:=fun z=>n (by rw[z];exact h)
 rw[aj hb];exact e
theorem Tp(z a b:Str):Oa (.str z) [.str a,.str b]=decide (z=a\/z=b):=by
 show((a == z)||((b == z)||false))=_
 by_cases h1:z=a
 ·subst h1
  rw[beq_self_eq_true,Bool.true_or,decide_eq_true (.inl rfl)]
 ·by_cases h2:z=b
  ·subst h2
   rw[beq_self_eq_true,Bool.true_or,Bool.or_true,decide_eq_true (.inr rfl)]
  ·have e1:(a == z)=false:=beq_eq_false_iff_ne.mpr fun q=>h1 q.symm
   have e2:(b == z)=false:=beq_eq_false_iff_ne.mpr fun q=>h2 q.symm
   rw[e1,e2,decide_eq_false (fun q=>q.elim h1 h2)]
   rfl
structure F5 where
 x:Addr
 dx:Addr
 k:Addr
 r:Addr
 m:Addr
structure de where
 kinds:List Bool
 ly:List Int
 gg:List (Option Nat)
def kS(b:Bool):Str:=if b then "necklace" else "armring"
def mV:Option Nat->V
 | none=>.bY
 | some n=>.int n
structure vf(C:Addr)(H:Hp)(a:F5)(p:de):Prop where
 x:H a.x=some (.ins C a.dx [("kinds",.ref a.k),("ranks",.ref a.r),("mates",.ref a.m)])
 k:H a.k=some (.lst (p.kinds.map fun b=>V.str (kS b)))
 r:H a.r=some (.lst (p.ly.map V.int))
 m:H a.m=some (.lst (p.gg.map mV))
 kr:a.k≠a.r
 km:a.k≠a.m
 rm:a.r≠a.m
theorem vf.same{C:Addr}{H H':Hp}{a:F5}{p:de}(h:vf C H a p)(s:ak H H'):vf C H' a p:=⟨s _ _ h.x,s _ _ h.k,s _ _ h.r,s _ _ h.m,h.kr,h.km,h.rm⟩
structure de.Len(p:de)(n:Nat):Prop where
 k:p.kinds.length=n
 r:p.ly.length=n
 m:p.gg.length=n
def de.kindAt(p:de)(i:Nat):Bool:=p.kinds.getD i false
def de.qf(p:de)(i:Nat):Int:=p.ly.getD i 0
def de.aR(p:de)(i:Nat):Option Nat:=p.gg.getD i none
def de.fit(p:de)(i j:Nat):Bool:=(p.kindAt (max i j) == !p.kindAt (min i j))&&decide (p.qf (min i j)<=p.qf (max i j))
theorem jt{α:Type}{f:α->V}{l:List α}{i:Nat}{d:α}(h:i<l.length):vc (l.map f) (i:Int)=some (f (l.getD i d)):=aH (by rw[List.getElem?_map,List.getElem?_eq_getElem h,List.getD_eq_getElem?_getD,List.getElem?_eq_getElem h];rfl)
section
variable{prog:Program}{w:World}{A:Around}{R:Result->Shared->Prop}{T:Addr}{fp wr:List Addr}{n:Nat}{P:Nat->Value->Prop}{St:Nat->Heap->Prop}
abbrev Tq(v:Value)(c:Nat):Obj:={ cls:=.type "list",dict:=none,data:=.seq #[v,v] c,slots:=#[] }
abbrev Hn(T B:Addr)(dv:Value):Code:=.builtin "min.loop" ⟨[.ref T,.none,.ref B],[("default",dv)]⟩
theorem sv:(toString "min" ++ toString ".loop" : String) = "min.loop" := by decide
theorem Ho(dv:Value)(Wq:Walks prog w A.in1 T fp wr n P St)(bt:Nat->Nat->Bool)(cmp:CmpOf prog w A.in1 .Lt P bt)(B:Addr)(nB:B∉fp)(left:Nat) :
  ∀ (at_:Nat) (s:Shared) (best:Value) (c:Nat),n=at_+1+left->St (at_+1) s.heap->P (argBest bt at_) best->s.heap.get? B=some (Tq best c) ->
  (∀ v h' tk,P (argBest bt (n - 1)) v->(∀ b o,b∉wr->b≠B->s.heap.get? b=some o->h'.get? b=some o)->R (.ok (.ret v)) { s with heap:=h',toks:=tk }) ->
  codeAny (model prog w) A (Hn T B dv) R s:=by
 have nW:B∉wr:=fun q=>nB (Wq.sub _ q)
 induction left with
 | zero =>
  intro at_ s best c en st pb hB out
  have en':at_+1=n:=by omega
  refine codeAny_builtin F.entry_min_loop ?_
  rw[Around.under_plainId F.plain_min_loop _]
  refine wpAny_bind (m:=seqItems? (.ref B)) (wpAny_seqItems hB rfl ?_)
  refine wpAny_bind (wpAny_tryCatch (Wq.done s _ _ (en'▸st) fun h1 Tr k1=>?_))
  refine wpAny_bind (m:=updateSeq B (fun _=>#[])) (wpAny_updateSeq (k1 B _ nW hB) rfl (wpAny_bind (wpAny_letGo (wpAny_pure (out best _ Tr (en'▸pb) fun b o q1 q2 e=>?_)))))
  exact(Heap.get?_update_other _ _ (Ne.symm q2)).trans (k1 b o q1 e)
 | succ left ih =>
  intro at_ s best c en st pb hB out
  refine codeAny_builtin F.entry_min_loop ?_
  rw[Around.under_plainId F.plain_min_loop _]
  refine wpAny_bind (m:=seqItems? (.ref B)) (wpAny_seqItems hB rfl ?_)
  refine wpAny_bind (wpAny_tryCatch (Wq.item (at_+1) s _ _ (by omega) st fun v h1 Tr V9 Ek k1=>?_))
  have Nd:=k1 B _ nW hB
  refine wpAny_bind (m:=pure v) (wpAny_pure ?_)
  refine wpAny_bind (wpAny_tryCatch (wpAny_holding (wpAny_bind (cmp (at_+1) (argBest bt at_) v best _ _ _ V9 pb ?_))))
  refine wpAny_bind (wpAny_holding (wpAny_truthy_bool (wpAny_bind (wpAny_letGo (wpAny_pure ?_)))))
  have step:argBest bt (at_+1)=if bt (at_+1) (argBest bt at_) then at_+1 else argBest bt at_:=rfl
  cases hb:bt (at_+1) (argBest bt at_) with
  | false =>
   rw[hb,if_neg Bool.false_ne_true] at step
   rw[if_neg Bool.false_ne_true]
   refine wpAny_bind (wpAny_letGo ?_)
   rw[sv]
   exact wpAny_pure ⟨plainId_quiet F.plain_min_loop _,ih (at_+1) _ best c (by omega) Ek (by rw[step];exact pb) Nd fun v' h2 Ts p2 k2=>out v' h2 Ts p2 fun b o q1 q2 e=>k2 b o q1 q2 (k1 b o q1 e)⟩
  | true =>
   rw[hb,if_pos rfl] at step
   rw[if_pos rfl]
   refine wpAny_bind (wpAny_updateSeq Nd rfl (wpAny_bind (wpAny_letGo ?_)))
   rw[sv]
   refine wpAny_pure ⟨plainId_quiet F.plain_min_loop _,ih (at_+1) _ v _ (by omega) (Wq.frame _ _ _ Ek fun b Lb o e=>?_) (by rw[step];exact V9) (Heap.get?_update_self _ Nd rfl) fun v' h2 Ts p2 k2=>out v' h2 Ts p2 fun b o q1 q2 e=>?_⟩
   ·exact(Heap.get?_update_other _ _ (fun z:B=b=>nB (z▸Lb))).trans e
   ·exact k2 b o q1 q2 ((Heap.get?_update_other _ _ (Ne.symm q2)).trans (k1 b o q1 e))
theorem Hq(dv:Value)(Wq:Walks prog w A.in1 T fp wr n P St)(bt:Nat->Nat->Bool)(cmp:CmpOf prog w A.in1 .Lt P bt)(B:Addr)(nB:B∉fp){s:Shared}{c:Nat}(st:St 0 s.heap)
  (hB:s.heap.get? B=some { cls:=.type "list",dict:=none,data:=.seq #[] c,slots:=#[] })
  (XQ:n=0->∀ h' tk,(∀ b o,b∉wr->b≠B->s.heap.get? b=some o->h'.get? b=some o)->R (.ok (.ret dv)) { s with heap:=h',toks:=tk })
  (out:0<n->∀ v h' tk,P (argBest bt (n - 1)) v->(∀ b o,b∉wr->b≠B->s.heap.get? b=some o->h'.get? b=some o)->R (.ok (.ret v)) { s with heap:=h',toks:=tk }) :
  codeAny (model prog w) A (Hn T B dv) R s:=by
 have nW:B∉wr:=fun q=>nB (Wq.sub _ q)
 refine codeAny_builtin F.entry_min_loop ?_
 rw[Around.under_plainId F.plain_min_loop _]
 refine wpAny_bind (m:=seqItems? (.ref B)) (wpAny_seqItems hB rfl ?_)
 by_cases h0:n=0
 ·subst h0
  refine wpAny_bind (wpAny_tryCatch (Wq.done s _ _ st fun h1 Tr k1=>?_))
  exact wpAny_bind (wpAny_rule (wpAny_pure (XQ rfl h1 Tr fun b o q1 _ e=>k1 b o q1 e)))
 ·have hn:0<n:=by omega
  refine wpAny_bind (wpAny_tryCatch (Wq.item 0 s _ _ hn st fun v h1 Tr V9 Ek k1=>?_))
  have Nd:=k1 B _ nW hB
  refine wpAny_bind (m:=pure v) (wpAny_pure ?_)
  refine wpAny_bind (wpAny_updateSeq Nd rfl ?_)
  rw[sv]
  refine wpAny_pure ⟨plainId_quiet F.plain_min_loop _,Ho dv Wq bt cmp B nB (n - 1) 0 _ v _ (by omega) (Wq.frame _ _ _ Ek fun b Lb o e=>?_) V9 (Heap.get?_update_self _ Nd rfl) fun v' h2 Ts p2 k2=>out hn v' h2 Ts p2 fun b o q1 q2 e=>?_⟩
  ·exact(Heap.get?_update_other _ _ (fun z:B=b=>nB (z▸Lb))).trans e
  ·exact k2 b o q1 q2 ((Heap.get?_update_other _ _ (Ne.symm q2)).trans (k1 b o q1 e))
end
theorem EA(a v:Value):argsOk "min" ⟨[a],[(Str.ofString "default",v)]⟩:=by unfold argsOk;kernel_rfl
def Hr(K:W.Frag)(dv:V)(vs:List V)(H:Hp)(Q:VK):Prop:=∃ l ns,vs=[.ref l]/\bx K H l (ns.map V.int)/\(ns=[]->Q dv H)/\∀ m∈ns,(∀ k∈ns,m<=k)->Q (.int m) H
section
variable{X:Cx}
theorem ze{pins:List (Addr×Obj)}{s:Shared}{σ:St}{H:Hp}{vs:List V}{us:List Value}{d:V}{dv:Value}{Q:VK}(hc:X.calm=true)(I:Inv X pins σ H s)(r:Vals vs us)(rd:RelV d dv)(h:Hr X.K d vs H Q) :
  wpAny (model X.prog X.w) X.A (call (.builtin "min") us [(Str.ofString "default",dv)]) (EP X pins σ Q) X.xe s:=by
 obtain⟨l,ns,rfl,hq,h0,h1⟩:=h
 obtain⟨u,rfl,ru⟩:=vals1 r
 cases ru
 obtain⟨its,rv,pl,hl⟩:=I.list hq
 have hlen:its.length=ns.length:=by have:=rv.length;rw[List.length_map] at this;exact this.symm
 have c_:l<s.heap.objs.size:=by obtain⟨o,ho,_⟩:=pl.isList;exact Heap.lt_size ho
 have val:∀ (i:Nat) (v:Value),its.toArray[i]?=some v->∃ t,v=Value.int (ns.getD i 0) t:=fun i v e=>by
  have e':its[i]?=some v:=by simpa using e
  have hi:i<its.length:=(List.getElem?_eq_some_iff.mp e').1
  have hb:(ns.map V.int)[i]?=some (V.int (ns.getD i 0)):=by
   rw[List.getElem?_map,List.getElem?_eq_getElem (by omega)]
   simp [List.getD,List.getElem?_eq_getElem (show i<ns.length by omega)]
  obtain⟨u,hu,ru⟩:=rv.get hb
  rw[e'] at hu
  cases hu
  exact ru
 refine kmb_tree F.kind_min F.plain_min F.entry_min (EA _ _) ?_
 refine wpAny_bind (wpAny_of_eq (show Builtin.Builtins.bindParams "min" ["key", "default"] 0 ⟨[],[(Str.ofString "default",dv)]⟩=pure [none,some dv] from rfl) ?_)
 refine wpAny_bind (wpAny_pure (wpAny_bind (wpAny_pyIter_list pl.isList ?_)))
 refine wpAny_bind (wpAny_newObj_type ?_)
 rw[sv]
 have Wq:=Walks.list (prog:=X.prog) (w:=X.w) (A:=X.A.in1) (I.ok.hd hc) s.heap.objs.size l (Nat.ne_of_lt c_) its.toArray
 have Nf:∀ h' tk,(∀ b o,b∉[s.heap.objs.size]->b≠(s.heap.push { cls:=.type "list_iterator",data:=.fields #[.ref l,.int 0 0] }).objs.size->((s.heap.push { cls:=.type "list_iterator",data:=.fields #[.ref l,.int 0 0] }).push { cls:=.type "list",data:=.seq #[] }).get? b=some o->h'.get? b=some o)->Inv X pins σ H { s with heap:=h',toks:=tk }:=fun h' tk k=>by
  refine I.kept fun b o e=>k b o ?_ ?_ (Heap.get?_push_of_some _ (Heap.get?_push_of_some _ e))
  ·intro z
   exact absurd (Heap.lt_size e) (by rw[List.mem_singleton.mp z];exact Nat.lt_irrefl _)
  ·have:=Heap.lt_size e
   rw[Heap.size_push]
   exact Nat.ne_of_lt (Nat.lt_succ_of_lt this)
 refine wpAny_pure ⟨plainId_quiet F.plain_min_loop _,Hq dv Wq _ (CmpOf.ints_lt (fun i=>ns.getD i 0) val) _ ?_ ⟨⟨_,Heap.get?_push_of_some _ (Heap.get?_push_size _ rfl),rfl,rfl⟩,pl.isList.at fun o e=>Heap.get?_push_of_some _ (Heap.get?_push_of_some _ e)⟩ (Heap.get?_push_size _ rfl) (fun z h' tk k=>?_) (fun z v h' tk pv k=>?_)⟩
 ·intro z
  rw[Heap.size_push] at z
  rcases List.mem_cons.mp z with q | q
  ·exact absurd q (Nat.succ_ne_self _)
  ·have q':=List.mem_singleton.mp q
   rw[<- q'] at c_
   exact absurd c_ (Nat.not_lt.mpr (Nat.le_succ _))
 ·have e:ns=[]:=List.length_eq_zero_iff.mp (by rw[<- hlen];simpa using z)
  exact⟨d,H,Nf h' tk k,rd,h0 e⟩
 ·obtain⟨b1,b2⟩:=argBest_lt (fun i=>ns.getD i 0) (its.toArray.size - 1)
  obtain⟨t,rfl⟩:=val _ _ pv
  have sz:its.toArray.size=ns.length:=by rw[List.size_toArray];exact hlen
  rw[sz] at b1 b2 z pv
  have memD:∀ i,i<ns.length->ns.getD i 0∈ns:=fun i hi=>by
   rw[List.getD_eq_getElem?_getD,List.getElem?_eq_getElem hi]
   exact List.getElem_mem hi
  rw[sz]
  refine⟨.int _,H,Nf h' tk k,⟨t,rfl⟩,h1 _ (memD _ (by omega)) fun m hm=>?_⟩
  obtain⟨j,hj,e⟩:=List.mem_iff_getElem.mp hm
  have:=b2 j (by omega)
  have ej:ns.getD j 0=m:=by rw[List.getD_eq_getElem?_getD,List.getElem?_eq_getElem hj];exact e
  rw[ej] at this
  exact this
variable{e d:Expr}{ta:TA}{td:TE}{p pos kp:Pos}
theorem Lc(hc:X.calm=true)(hg:Gl X "min")(hm:X.mg "min" = none)(hv:bootBuiltins "min" = some (.builtin "min"))(ha:PA X [e] ta)(hd:PE X d td)
  (he:backTo pos (starEach [e] X.env)=[(false,eval e X.env)]:=by rfl) (A2:(backToKw pos (keywordEach [⟨some "default",d,kp⟩] X.env)).all (·.1.isSome)=true:=by rfl) :
  PE X (.Call (.Name "min" p) [e] [⟨some "default",d,kp⟩] pos) (fun σ H Q=>ta σ H fun vs H1=>td σ H1 fun dv H2=>Hr X.K dv vs H2 Q):=by
 intro pins s σ H Q I h
 refine wpAny_Call_Name_kw (kW I hg hm hv ?_)
 refine callWith_kw (bg (ha pos pins s σ H _ I h) fun us s1 ⟨vs,H1,I1,r1,q1⟩=>?_) (by rw[he];rfl) (by rw[he];rfl) A2
 refine kws_cons (bg (hd pins s1 σ H1 _ I1 q1) fun dv s2 ⟨y,H2,I2,ry,q2⟩=>kws_nil ?_)
 exact ze hc I2 r1 ry q2
end
def V_(d:Addr)(o:Obj)(aJ:List (Key×V)):It:=⟨fun i H=>H d=some (.pX o (.dK aJ))/\i<aJ.length,fun i H x H'=>H'=H/\∃ k v,aJ[i]?=some (k,v)/\x=kV k,fun i H=>H d=some (.pX o (.dK aJ))/\aJ.length<=i⟩
theorem XY{P:Program}{w:World}{k:Key}{u:Value}(h:(bW P w).is k u=true):RelV (kV k) u:=by
 rcases cm (show tq k u=true from h) with ⟨i,t,rfl,rfl⟩ | ⟨x,t,rfl,rfl⟩
 ·exact⟨t,rfl⟩
 ·exact⟨t,rfl⟩
section
variable{X:Cx}{pins:List (Addr×Obj)}{σ:St}{H:Hp}{s:Shared}{d:Addr}{aJ:List (Key×V)}
theorem Inv.freeze(I:Inv X pins σ H s)(e:H d=some (.dK aJ)):∃ o,s.heap.get? d=some o/\Inv X pins σ (upd H d (.pX o (.dK aJ))) s:=by
 have ok:=(show bI X.prog X.w H s.heap d (.dK aJ) from I.a8 d _ e)
 obtain⟨z,y,vs,r,o,es,ep,ho,c⟩:=id ok
 exact⟨o,ho,I.write (x:=d) (e:=d) (o:=.pX o (.dK aJ)) (h':=s.heap) (t':=s.toks) (by rw[e];trivial) (.inl rfl) (fun b u _ q=>q) ⟨_,ho⟩ ⟨ho,z,y,vs,r,o,es,ep,ho,c⟩⟩
theorem Bd{o:Obj}(I:Inv X pins σ H s)(e:H d=some (.pX o (.dK aJ))):s.heap.get? d=some o/\∃ vs es ep,KV aJ vs/\o.data=.dict es ep/\s.heap.DictAt (bW X.prog X.w) d vs ep/\(d == sysModules)=false:=by
 obtain⟨ho,z,y,vs,r,o',es,ep,tu,c1,c2,c3⟩:=(show bI X.prog X.w H s.heap d (.pX o (.dK aJ)) from I.a8 d _ e)
 rw[ho] at tu
 cases tu
 exact⟨ho,vs,es,ep,r,c2,⟨o,es,ho,c1,c2,c3⟩,y⟩
end
theorem EB{P:Program}{w:World}{K:W.Frag}{tg:Expr}(d it:Addr)(o:Obj)(aJ:List (Key×V))(es:Array DictEntry)(ep:Nat)(V':o.data=.dict es ep) :
  Turn P w K tg (V_ d o aJ) [it] it (fun i h=>h.IsKeyIter it d i aJ.length ep) where
 mem:=by simp
 obj:=fun i h st b hb=>by
  have e:b=it:=by simpa using hb
  subst e
  obtain⟨o,e,c,d⟩:=st
  exact⟨o,e,fun v z=>by rw[d] at z;cases z⟩
 keep:=fun i h h' st k=>st.at fun o e=>k it (by simp) o e
 item:=by
  intro X hP hw hK hc i pins s σ H E I hf st hg
  subst hP hw hK
  obtain⟨e,hi⟩:=hg
  obtain⟨ho,vs,R9,R_,r,Kt,da,_⟩:=Bd I e
  rw[V'] at Kt
  cases Kt
  have hl:aJ.length=vs.length:=r.length
  obtain⟨⟨k,v⟩,hk⟩:∃ q,vs[i]?=some q:=⟨vs[i]'(by omega),by simp⟩
  obtain⟨⟨k',v'⟩,hk'⟩:∃ q,aJ[i]?=some q:=⟨aJ[i],by simp⟩
  have ek:k'=k:=by
   have h1:=congrArg (fun l=>l[i]?) r.keys
   simp only[List.getElem?_map,hk,hk',Option.map_some] at h1
   exact Option.some.inj h1
  obtain⟨f0,f1,f2,f3,f4,f5⟩:=hf it (by simp)
  rw[hl] at st
  refine wpAny_pyNext_dict_item st da hk fun key h' kk yJ sb=>?_
  have I1:Inv X pins σ H { s with heap:=h' }:=I.turned (t':=s.toks) (fun b o hb e=>(sb.2 b hb).trans e) f0 f1 f3 f4 f5
  obtain⟨o2,e2,c2,d2⟩:=id yJ
  exact⟨key,rfl,v9 (s:={ s with heap:=h' }) e2 c2 d2 (by decide) ⟨kV k',H,I1,ek▸XY kk,⟨rfl,k',v',hk',rfl⟩,by rw[hl];exact yJ,fun b hb=>(hf b hb).1⟩⟩
 done:=by
  intro X hP hw hK hc i pins s σ H E I hf st hg
  subst hP hw hK
  obtain⟨e,hi⟩:=hg
  obtain⟨ho,vs,R9,R_,r,Kt,da,_⟩:=Bd I e
  rw[V'] at Kt
  cases Kt
  have hl:aJ.length=vs.length:=r.length
  obtain⟨f0,f1,f2,f3,f4,f5⟩:=hf it (by simp)
  rw[hl] at st
  exact wpAny_pyNext_dict_end (I.ok.hd hc) st da (List.getElem?_eq_none (by omega)) fun h' eb=>⟨rfl,I.turned (t':=s.toks) (fun b o hb e=>eb b o hb e) f0 f1 f3 f4 f5⟩
 self:=fun _ _ _ _ _ st h=>wpAny_pyIter_keyiter st h
section
variable{X:Cx}{tg:Expr}
def Tt(tl:TE):TI:=fun σ H R=>tl σ H fun x H1=>∃ d aJ,x=.ref d/\H1 d=some (.dK aJ)/\∀ o,R (V_ d o aJ) (upd H1 d (.pX o (.dK aJ)))
theorem Ld{l:Expr}{tl:TE}(hl:PE X l tl):PI X tg l (Tt tl):=by
 intro pins s σ H R I h
 refine bg (hl pins s σ H _ I h) fun v s1 ⟨x,H1,I1,r1,q1⟩=>?_
 obtain⟨d,aJ,e,hd,q⟩:=q1
 subst e
 cases r1
 obtain⟨o,ho,I2⟩:=I1.freeze hd
 obtain⟨_,vs,es,ep,r,V',da,OL⟩:=Bd I2 af
 refine wpAny_pyIter_dict OL da ?_
 refine⟨s1.heap.objs.size,[s1.heap.objs.size],_,V_ d o aJ,_,rfl,I2.kept (t':=s1.toks) fun b o e=>Heap.get?_push_of_some _ e,EB d _ o aJ es ep V',⟨_,Heap.get?_push_size _ rfl,rfl,by rw[r.length];rfl⟩,fun b hb=>?_,q o⟩
 have e:b=s1.heap.objs.size:=by simpa using hb
 subst e
 exact I2.qa (Nat.le_refl _) (I2.a8.fresh (Nat.le_refl _))
end
theorem Be{d D:Addr}{o:Obj}{aJ:List (Key×V)}{tt:TT}{te:TE}{σ:St}{H1:Hp}{Q:Hp->Prop}(p:V->Bool)(f:V->V)(hd:H1 d=some (.pX o (.dK aJ)))(hD:H1 D=none)(hz:aJ.length<=sizeLine)
  (ht:∀ x∈aJ.map (fun kv=>kV kv.1),∀ (H:Hp) (R:Bool->Hp->Prop),ak H1 H->R (p x) H->tt (some x::σ) H R)
  (he:∀ x∈aJ.map (fun kv=>kV kv.1),p x=true->∀ (H:Hp) (R:VK),ak H1 H->R (f x) H->te (some x::σ) H R)
  (hq:Q (upd H1 D (.lst (((aJ.map fun kv=>kV kv.1).filter p).map f)))):kc tt te D (V_ d o aJ) σ H1 Q:=by
 have hlen:(aJ.map fun kv=>kV kv.1).length=aJ.length:=List.length_map _
 generalize V5:(aJ.map fun kv=>kV kv.1)=xs at ht he hq hlen
 refine⟨fun i m ys H=>m=xs.length - i/\i<=xs.length/\ys=((xs.take i).filter p).map f/\H=upd H1 D (.lst ys),⟨xs.length,by simp,Nat.zero_le _,by simp,rfl⟩,?_⟩
 rintro i m ys H ⟨rfl,hi,rfl,rfl⟩
 have sm:∀ o,ak H1 (upd H1 D o):=fun o=>ak.new hD
 by_cases c_:i<xs.length
 ·refine .inr ⟨⟨sm _ _ _ hd,by omega⟩,fun x H' y=>?_⟩
  obtain⟨e,k,v,hk,rfl⟩:=y
  subst e
  have hx:xs[i]?=some (kV k):=by rw[<- V5,List.getElem?_map,hk];rfl
  have hm:=List.mem_of_getElem? hx
  have tk:xs.take (i+1)=xs.take i++[kV k]:=by rw[List.take_add_one,hx];rfl
  refine ht _ hm _ _ (sm _) ?_
  cases hp:p (kV k) with
  | false =>
   refine cx ⟨xs.length - (i+1),by omega,rfl,c_,?_,rfl⟩
   rw[tk,List.filter_append]
   simp [hp]
  | true =>
   refine cH (he _ hm hp _ _ (sm _) ⟨af,?_,xs.length - (i+1),by omega,rfl,c_,?_,by rw[lR]⟩)
   ·rw[List.length_map]
    have h1:=List.length_filter_le p (xs.take i)
    rw[List.length_take] at h1
    omega
   ·rw[tk,List.filter_append]
    simp [hp]
 ·have e:i=xs.length:=by omega
  subst e
  refine .inl ⟨⟨sm _ _ _ hd,by omega⟩,?_⟩
  rw[List.take_length]
  exact hq
theorem zf:∀ (n:Nat) (l:List Nat),l.Nodup->(∀ x∈l,x<n)->l.length<=n
 | 0,l,_,h=>by
  cases l with
  | nil=>exact Nat.le_refl _
  | cons a r=>exact absurd (h a List.mem_cons_self) (Nat.not_lt_zero _)
 | n+1,l,nd,h=>by
  have h1:(l.erase n).length<=n:=zf n (l.erase n) (nd.erase n) fun x hx=>by
   have hx':=(nd.mem_erase_iff).mp hx
   have:=h x hx'.2
   have:=hx'.1
   omega
  have h2:=List.length_erase (a:=n) (l:=l)
  split at h2<;>omega
structure Reach(p:de)(n:Nat)(starts:List Nat)(aC:List (Nat×Nat)):Prop where
 nd:(aC.map (·.1)).Nodup
 lt:∀ q∈aC,q.1<n
 ord:∀ (t o w:Nat),aC[t]?=some (o,w)->p.fit w o=true/\w∈starts++(aC.take t).filterMap fun q=>p.aR q.1
def Bf(p:de)(n:Nat)(starts:List Nat)(aC:List (Nat×Nat)):Prop:=∀ w∈starts++aC.filterMap (fun q=>p.aR q.1),∀ o,o<n->p.fit w o=true->o∈aC.map (·.1)
theorem Reach.nil{p:de}{n:Nat}{starts:List Nat}:Reach p n starts []:=⟨List.nodup_nil,(fun q h=>nomatch h),fun t o w h=>by simp at h⟩
theorem Reach.len{p:de}{n:Nat}{starts:List Nat}{aC:List (Nat×Nat)}(r:Reach p n starts aC):aC.length<=n:=by
 have:=zf n _ r.nd fun x hx=>by
  obtain⟨q,hq,rfl⟩:=List.mem_map.mp hx
  exact r.lt q hq
 rwa [List.length_map] at this
theorem Reach.add{p:de}{n:Nat}{starts:List Nat}{aC:List (Nat×Nat)}{o w:Nat}(r:Reach p n starts aC)(ho:o<n)(hn:o∉aC.map (·.1))(hw:w∈starts++aC.filterMap fun q=>p.aR q.1)(hf:p.fit w o=true):Reach p n starts (aC++[(o,w)]) where
 nd:=by
  rw[List.map_append]
  exact Df r.nd hn
 lt:=fun q hq=>by
  rcases List.mem_append.mp hq with z | z
  ·exact r.lt q z
  ·rw[List.mem_singleton.mp z];exact ho
 ord:=fun t o' w' h=>by
  by_cases ht:t<aC.length
  ·rw[List.getElem?_append_left ht] at h
   rw[List.take_append_of_le_length (Nat.le_of_lt ht)]
   exact r.ord t o' w' h
  ·rw[List.getElem?_append_right (by omega)] at h
   have e:t=aC.length:=by
    by_cases z:t - aC.length=0
    ·omega
    ·rw[List.getElem?_eq_none (by simp;omega)] at h
     cases h
   subst e
   rw[Nat.sub_self] at h
   cases h
   rw[List.take_append_of_le_length (Nat.le_refl _),List.take_length]
   exact⟨hf,hw⟩
structure lA(p:de)(n:Nat)(starts:List Nat)(aC:List (Nat×Nat))(wait:List Nat)(a i:Nat):Prop where
 r:Reach p n starts aC
 w:wait=starts++aC.filterMap fun q=>p.aR q.1
 done:∀ (b v:Nat),b<a->wait[b]?=some v->∀ o,o<n->p.fit v o=true->o∈aC.map (·.1)
 here:∀ (v:Nat),wait[a]?=some v->∀ o,o<i->o<n->p.fit v o=true->o∈aC.map (·.1)
def oM(aC:List (Nat×Nat)):List (Key×V):=aC.map fun q=>(Sum.inl ((q.1:Nat):Int),V.int (q.2:Nat))
def nV(i:Nat):V:=.int (i:Nat)
theorem zg(aC:List (Nat×Nat))(o:Nat):(iH (oM aC) (Sum.inl ((o:Nat):Int))).isSome=decide (o∈aC.map (·.1)):=by
 rw[<- oE]
 unfold oM
 rw[List.any_map,Bool.eq_iff_iff]
 simp only[List.any_eq_true,Function.comp,decide_eq_true_eq,List.mem_map]
 constructor
 ·rintro⟨q,hq,e⟩
  exact⟨q,hq,by have:=Sum.inl.inj e;omega⟩
 ·rintro⟨q,hq,rfl⟩
  exact⟨q,hq,rfl⟩
theorem Le{aC:List (Nat×Nat)}{o w:Nat}(h:o∉aC.map (·.1)):putK (oM aC) (Sum.inl ((o:Nat):Int)) (V.int (w:Nat))=oM (aC++[(o,w)]):=by
 have hv:iH (oM aC) (Sum.inl ((o:Nat):Int))=none:=by
  have:=zg aC o
  rw[decide_eq_false h] at this
  exact Option.isNone_iff_eq_none.mp (by rw[<- Option.not_isSome];rw[this];rfl)
 rw[G4 _ hv]
 unfold oM
 rw[List.map_append]
 rfl
theorem lA.skip{p:de}{n:Nat}{starts:List Nat}{aC:List (Nat×Nat)}{wait:List Nat}{a i v:Nat}(s:lA p n starts aC wait a i)(hv:wait[a]?=some v)(h:i∈aC.map (·.1)\/p.fit v i=false):lA p n starts aC wait a (i+1) :=
 ⟨s.r,s.w,s.done,fun v' e o ho hn hf=>by
  rw[hv] at e;cases e
  by_cases z:o=i
  ·subst z
   rcases h with h | h
   ·exact h
   ·rw[hf] at h;cases h
  ·exact s.here v hv o (by omega) hn hf⟩
theorem lA.put{p:de}{n:Nat}{starts:List Nat}{aC:List (Nat×Nat)}{wait:List Nat}{a i v:Nat}(s:lA p n starts aC wait a i)(hv:wait[a]?=some v)(hi:i<n)(h:i∉aC.map (·.1))(hf:p.fit v i=true) :
  lA p n starts (aC++[(i,v)]) (wait++(p.aR i).toList) a (i+1):=by
 have la:a<wait.length:=(List.getElem?_eq_some_iff.mp hv).1
 have up:∀ o,o∈aC.map (·.1)->o∈(aC++[(i,v)]).map (·.1):=fun o ho=>by rw[List.map_append];exact List.mem_append_left _ ho
 refine⟨s.r.add hi h (by rw[<- s.w];exact List.mem_of_getElem? hv) hf,?_,fun b v' hb e o ho q=>?_,fun v' e o ho hn q=>?_⟩
 ·rw[s.w,List.filterMap_append,List.append_assoc]
  congr 2
 ·rw[List.getElem?_append_left (by omega)] at e
  exact up o (s.done b v' hb e o ho q)
 ·rw[List.getElem?_append_left la,hv] at e
  cases e
  by_cases z:o=i
  ·subst z
   rw[List.map_append]
   exact List.mem_append_right _ (List.mem_singleton.mpr rfl)
  ·exact up o (s.here v hv o (by omega) hn q)
theorem lA.next{p:de}{n:Nat}{starts:List Nat}{aC:List (Nat×Nat)}{wait:List Nat}{a:Nat}(s:lA p n starts aC wait a n):lA p n starts aC wait (a+1) 0 :=
 ⟨s.r,s.w,fun b v hb e o ho q=>by
  by_cases z:b=a
  ·subst z;exact s.here v e o ho ho q
  ·exact s.done b v (by omega) e o ho q,fun v e o ho=>absurd ho (Nat.not_lt_zero _)⟩
theorem lA.start{p:de}{n:Nat}{starts:List Nat}:lA p n starts [] starts 0 0:=⟨.nil,by simp,fun b v hb=>absurd hb (Nat.not_lt_zero _),fun v e o ho=>absurd ho (Nat.not_lt_zero _)⟩
theorem lA.closed{p:de}{n:Nat}{starts:List Nat}{aC:List (Nat×Nat)}{wait:List Nat}{a i:Nat}(s:lA p n starts aC wait a i)(h:wait.length<=a):Bf p n starts aC:=fun w hw o ho hf=>by
 rw[<- s.w] at hw
 obtain⟨b,hb,e⟩:=List.mem_iff_getElem.mp hw
 exact s.done b w (by omega) (by rw[List.getElem?_eq_getElem hb,e]) o ho hf
theorem lA.len{p:de}{n:Nat}{starts:List Nat}{aC:List (Nat×Nat)}{wait:List Nat}{a i:Nat}(s:lA p n starts aC wait a i):wait.length<=starts.length+n:=by
 rw[s.w,List.length_append]
 have h1:=List.length_filterMap_le (fun q:Nat×Nat=>p.aR q.1) aC
 have h2:=s.r.len
 omega
theorem oN{p:de}{i j:Nat}(h:p.fit i j=true):p.kindAt i=!p.kindAt j:=by
 unfold de.fit at h
 have h1:=(Bool.and_eq_true _ _▸h).1
 have h2:p.kindAt (max i j)=!p.kindAt (min i j):=by simpa using h1
 by_cases hij:i<=j
 ·rw[Nat.max_eq_right hij,Nat.min_eq_left hij] at h2
  rw[h2,Bool.not_not]
 ·rw[Nat.max_eq_left (by omega),Nat.min_eq_right (by omega)] at h2
  exact h2
theorem zh(p:de)(i j:Nat):p.fit i j=p.fit j i:=by
 unfold de.fit
 rw[Nat.max_comm,Nat.min_comm]
theorem Ht{p:de}{i j:Nat}(h:p.fit i j=true):i≠j:=fun e=>by
 subst e
 have:=oN h
 cases hk:p.kindAt i<;>rw[hk] at this<;>cases this
structure Val(p:de)(n:Nat):Prop where
 len:p.Len n
 inv:∀ i j,p.aR i=some j->j<n/\p.aR j=some i/\p.fit i j=true
theorem Reach.kinds{p:de}{n new:Nat}{aC:List (Nat×Nat)}(V:Val p n)(r:Reach p n [new] aC):∀ (t o w:Nat),aC[t]?=some (o,w)->p.kindAt w=p.kindAt new/\p.kindAt o=!p.kindAt new:=by
 intro t
 induction t using Nat.strongRecOn with
 | _ t ih =>
  intro o w h
  obtain⟨hf,hw⟩:=r.ord t o w h
  have kw:p.kindAt w=p.kindAt new:=by
   rcases List.mem_append.mp hw with z | z
   ·rw[List.mem_singleton.mp z]
   ·obtain⟨q,hq,e⟩:=List.mem_filterMap.mp z
    obtain⟨t',XZ,eq⟩:=List.mem_iff_getElem.mp hq
    rw[List.length_take] at XZ
    have h2:aC[t']?=some (q.1,q.2):=by
     rw[List.getElem_take] at eq
     rw[List.getElem?_eq_getElem (by omega),eq]
    have k1:=(ih t' (by omega) q.1 q.2 h2).2
    have k2:=oN (V.inv q.1 w e).2.2
    rw[k1] at k2
    cases hk:p.kindAt w<;>rw[hk] at k2<;>cases hk2:p.kindAt new<;>rw[hk2] at k2<;>first | rfl | cases k2
  refine⟨kw,?_⟩
  have:=oN hf
  rw[kw] at this
  rw[this,Bool.not_not]
theorem zi(m:List (Option Nat))(i j:Nat)(v:Option Nat)(h:i<m.length):(m.set i v).getD j none=if i=j then v else m.getD j none:=by
 rw[List.getD_eq_getElem?_getD,List.getD_eq_getElem?_getD,List.getElem?_set]
 by_cases e:i=j
 ·subst e;rw[if_pos rfl,if_pos h,if_pos rfl];rfl
 ·rw[if_neg e,if_neg e]
def rC(m:List (Option Nat))(u w:Nat):List (Option Nat):=(m.set u (some w)).set w (some u)
theorem xw{m:List (Option Nat)}{u w:Nat}(hu:u<m.length)(hw:w<m.length)(i:Nat):(rC m u w).getD i none=if w=i then some u else if u=i then some w else m.getD i none:=by
 unfold rC
 rw[zi _ _ _ _ (by rw[List.length_set];exact hw),zi _ _ _ _ hu]
structure OM(p:de)(n new u0:Nat)(aC:List (Nat×Nat))(m:List (Option Nat))(t u:Nat):Prop where
 len:m.length=n
 at_:∃ w,aC[t]?=some (u,w)
 hole:∀ i j,i≠u->m.getD i none=some j->j<n/\j≠u/\m.getD j none=some i/\p.fit i j=true
 early:∀ (t' o w':Nat),t'<t->aC[t']?=some (o,w')->m.getD o none=p.aR o/\∀ x,p.aR o=some x->m.getD x none=some o
 new_:m.getD new none=none
 Hu:∀ i,i≠u->(m.getD i none).isSome=((p.aR i).isSome||decide (i=u0))
 hu:u=u0\/(p.aR u).isSome=true
theorem uc{aC:List (Nat×Nat)}(nd:(aC.map (·.1)).Nodup){t t' o o' w w':Nat}(h:aC[t]?=some (o,w))(h':aC[t']?=some (o',w'))(ht:t≠t'):o≠o':=fun e=>by
 subst e
 have a:(aC.map (·.1))[t]?=some o:=by rw[List.getElem?_map,h];rfl
 have b:(aC.map (·.1))[t']?=some o:=by rw[List.getElem?_map,h'];rfl
 exact ht ((List.getElem?_inj (List.getElem?_eq_some_iff.mp a).1 nd).mp (a.trans b.symm))
theorem OM.start{p:de}{n new u0 t w:Nat}{aC:List (Nat×Nat)}(V:Val p n)(h:aC[t]?=some (u0,w))(hn:p.aR new=none)(h0:p.aR u0=none):OM p n new u0 aC p.gg t u0 where
 len:=V.len.m
 at_:=⟨w,h⟩
 hole:=fun i j hi e=>by
  obtain⟨a,b,c⟩:=V.inv i j e
  exact⟨a,(fun z=>by subst z;rw[h0] at b;cases b),b,c⟩
 early:=fun t' o w' _ _=>⟨rfl,fun x e=>(V.inv o x e).2.1⟩
 new_:=hn
 Hu:=fun i hi=>by
  rw[decide_eq_false hi,Bool.or_false]
  rfl
 hu:=.inl rfl
theorem OM.step{p:de}{n new u0 t u w:Nat}{aC:List (Nat×Nat)}{m:List (Option Nat)}(V:Val p n)(r:Reach p n [new] aC)(Bg:new<n)(hn:p.aR new=none)(A:OM p n new u0 aC m t u)(h:aC[t]?=some (u,w)) :
  (w<n/\u<n/\u≠w)/\((m.getD w none=none/\Val { p with gg:=rC m u w } n/\∀ i,((rC m u w).getD i none).isSome=((p.aR i).isSome||decide (i=u0)||decide (i=new))) \/
  (∃ o t',t'<t/\m.getD w none=some o/\OM p n new u0 aC (rC m u w) t' o)):=by
 obtain⟨hf,hw⟩:=r.ord t u w h
 obtain⟨kw,ku⟩:=r.kinds V t u w h
 have un:u<n:=r.lt (u,w) (List.mem_of_getElem? h)
 have uw:u≠w:=(Ht hf).symm
 have X0:u≠new:=fun z=>by rw[z] at ku;cases hk:p.kindAt new<;>rw[hk] at ku<;>cases ku
 rcases List.mem_append.mp hw with z | z
 ·have z':=List.mem_singleton.mp z
  subst z'
  refine⟨⟨Bg,un,uw⟩,.inl ⟨A.new_,⟨⟨V.len.k,V.len.r,?_⟩,fun i j e=>?_⟩,fun i=>?_⟩⟩
  ·show(rC m u w).length=n
   unfold rC
   rw[List.length_set,List.length_set]
   exact A.len
  ·have e':(rC m u w).getD i none=some j:=e
   have at_:=fun i=>xw (m:=m) (u:=u) (w:=w) (by rw[A.len];exact un) (by rw[A.len];exact Bg) i
   show j<n/\(rC m u w).getD j none=some i/\p.fit i j=true
   rw[at_] at e' ⊢
   by_cases i1:w=i
   ·subst i1
    rw[if_pos rfl] at e'
    cases e'
    exact⟨un,by rw[if_neg (Ne.symm uw),if_pos rfl],hf⟩
   ·rw[if_neg i1] at e'
    by_cases i2:u=i
    ·subst i2
     rw[if_pos rfl] at e'
     cases e'
     exact⟨Bg,if_pos rfl,by rw[zh];exact hf⟩
    ·rw[if_neg i2] at e'
     obtain⟨a,b,c,d⟩:=A.hole i j (Ne.symm i2) e'
     have jw:w≠j:=fun q=>by subst q;rw[A.new_] at c;cases c
     exact⟨a,by rw[if_neg jw,if_neg (Ne.symm b)];exact c,d⟩
  ·have at_:=xw (m:=m) (u:=u) (w:=w) (by rw[A.len];exact un) (by rw[A.len];exact Bg) i
   rw[at_]
   by_cases i1:w=i
   ·subst i1
    rw[if_pos rfl,decide_eq_true rfl,Bool.or_true]
    rfl
   ·rw[if_neg i1,decide_eq_false (Ne.symm i1),Bool.or_false]
    by_cases i2:u=i
    ·subst i2
     rw[if_pos rfl]
     rcases A.hu with q | q
     ·rw[decide_eq_true q,Bool.or_true];rfl
     ·rw[q,Bool.true_or];rfl
    ·rw[if_neg i2]
     exact A.Hu i (Ne.symm i2)
 ·obtain⟨q,hq,e⟩:=List.mem_filterMap.mp z
  obtain⟨t',XZ,eq⟩:=List.mem_iff_getElem.mp hq
  rw[List.length_take] at XZ
  have tt:t'<t:=by omega
  have h2:aC[t']?=some (q.1,q.2):=by
   rw[List.getElem_take] at eq
   rw[List.getElem?_eq_getElem (by omega),eq]
  generalize hqo:q.1=o at e h2
  generalize q.2=w2 at h2
  obtain⟨wn,mw,fow⟩:=V.inv o w e
  obtain⟨e1,e2⟩:=A.early t' o w2 tt h2
  have e3:=e2 w e
  have ON:m.getD o none=some w:=e1.trans e
  have uo:u≠o:=uc r.nd h h2 (by omega)
  have ow:o≠w:=Ht fow
  have X_:w≠new:=fun z=>by subst z;rw[hn] at mw;cases mw
  have lu:u<m.length:=by rw[A.len];exact un
  have lw:w<m.length:=by rw[A.len];exact wn
  have at_:=fun i=>xw (m:=m) (u:=u) (w:=w) lu lw i
  refine⟨⟨wn,un,uw⟩,.inr ⟨o,t',tt,e3,?_⟩⟩
  refine⟨by unfold rC;rw[List.length_set,List.length_set];exact A.len,⟨w2,h2⟩,fun i j hi ej=>?_,fun t'' Tu w'' af8 RQ=>?_,?_,fun i hi=>?_,.inr (by rw[e];rfl)⟩
  ·rw[at_] at ej ⊢
   by_cases i1:w=i
   ·subst i1
    rw[if_pos rfl] at ej
    cases ej
    exact⟨un,uo,by rw[if_neg (Ne.symm uw),if_pos rfl],hf⟩
   ·rw[if_neg i1] at ej
    by_cases i2:u=i
    ·subst i2
     rw[if_pos rfl] at ej
     cases ej
     exact⟨wn,Ne.symm ow,if_pos rfl,by rw[zh];exact hf⟩
    ·rw[if_neg i2] at ej
     obtain⟨a,b,c,d⟩:=A.hole i j (Ne.symm i2) ej
     have jo:j≠o:=fun z=>by subst z;rw[ON] at c;cases c;exact i1 rfl
     have jw:w≠j:=fun z=>by subst z;rw[e3] at c;cases c;exact hi rfl
     exact⟨a,jo,by rw[if_neg jw,if_neg (Ne.symm b)];exact c,d⟩
  ·obtain⟨f1,f2⟩:=A.early t'' Tu w'' (by omega) RQ
   have ko:=(r.kinds V t'' Tu w'' RQ).2
   have o1:w≠Tu:=fun z=>by subst z;rw[kw] at ko;cases hk:p.kindAt new<;>rw[hk] at ko<;>cases ko
   have o2:u≠Tu:=uc r.nd h RQ (by omega)
   refine⟨by rw[at_,if_neg o1,if_neg o2];exact f1,fun x ex=>?_⟩
   have x1:w≠x:=fun z=>by
    subst z
    have:=f2 w ex
    rw[e3] at this
    cases this
    exact uc r.nd h2 RQ (by omega) rfl
   have x2:u≠x:=fun z=>by
    subst z
    have k1:=oN (V.inv Tu u ex).2.2
    rw[ko,ku] at k1
    cases hk:p.kindAt new<;>rw[hk] at k1<;>cases k1
   rw[at_,if_neg x1,if_neg x2]
   exact f2 x ex
  ·rw[at_,if_neg X_,if_neg X0]
   exact A.new_
  ·rw[at_]
   by_cases i1:w=i
   ·subst i1
    rw[if_pos rfl,mw]
    rfl
   ·rw[if_neg i1]
    by_cases i2:u=i
    ·subst i2
     rw[if_pos rfl]
     rcases A.hu with q | q
     ·rw[decide_eq_true q,Bool.or_true];rfl
     ·rw[q,Bool.true_or];rfl
    ·rw[if_neg i2]
     exact A.Hu i (Ne.symm i2)
def ju(p:de)(n new:Nat)(p':de):Prop:=∃ aC,Reach p n [new] aC/\Bf p n [new] aC/\p'.kinds=p.kinds/\p'.ly=p.ly/\Val p' n /\
 (((∀ o∈aC.map (·.1),p.aR o≠none)/\p'=p)\/∃ u0∈aC.map (·.1),p.aR u0=none/\(∀ o∈aC.map (·.1),p.aR o=none->u0<=o)/\∀ i,(p'.aR i).isSome=((p.aR i).isSome||decide (i=u0)||decide (i=new)))
theorem Bh:∀ {l:List Nat} {t x:Nat},l.Nodup->l[t]?=some x->l.idxOf x=t
 | [],t,x,_,h=>by simp at h
 | a::r,0,x,_,h=>by
  simp at h
  subst h
  exact List.idxOf_cons_self
 | a::r,t+1,x,nd,h=>by
  obtain⟨n1,n2⟩:=List.nodup_cons.mp nd
  have h':r[t]?=some x:=by simpa using h
  have hx:a≠x:=fun e=>n1 (by rw[e];exact List.mem_of_getElem? h')
  rw[List.idxOf_cons,show(a == x)=false from beq_eq_false_iff_ne.mpr hx,Bh n2 h']
  rfl
def Dl(p:de):V->Bool
 | .int i=>(p.aR i.toNat).isNone
 | _=>false
def openK(p:de)(aC:List (Nat×Nat)):List Nat:=(aC.map (·.1)).filter fun o=>(p.aR o).isNone
theorem EC(p:de)(aC:List (Nat×Nat)):(((oM aC).map fun kv=>kV kv.1).filter (Dl p)).map id=((openK p aC).map fun o=>((o:Nat):Int)).map V.int:=by
 unfold openK oM
 rw[List.map_id,List.map_map,List.map_map]
 induction aC with
 | nil=>rfl
 | cons q r ih =>
  rw[List.map_cons,List.map_cons,List.filter_cons,List.filter_cons]
  have e:Dl p (((fun kv:Key×V=>kV kv.1)∘fun q:Nat×Nat=>(Sum.inl ((q.1:Nat):Int),V.int (q.2:Nat))) q)=(p.aR q.1).isNone:=by
   show(p.aR ((q.1:Nat):Int).toNat).isNone=_
   rw[Int.toNat_natCast]
  rw[e]
  cases(p.aR q.1).isNone with
  | false=>simpa using ih
  | true =>
   simp only[if_true,List.map_cons]
   rw[ih]
   rfl
theorem Lf{K:W.Frag}{Q:VK}{H:Hp}{D:Addr}{ks:List Nat}(hD:H D=some (.lst ((ks.map fun o=>((o:Nat):Int)).map V.int)))(h:∀ al:Option Nat,(al=none->ks=[])->(∀ u,al=some u->u∈ks/\∀ k∈ks,u<=k)->Q (mV al) H):Hr K .bY [.ref D] H Q:=by
 refine⟨D,_,rfl,bx.of hD,fun e=>h none (fun _=>List.map_eq_nil_iff.mp e) (fun u z=>by cases z),fun m hm X'=>?_⟩
 obtain⟨u,hu,rfl⟩:=List.mem_map.mp hm
 refine h (some u) (fun z=>by cases z) (fun u' e=>?_)
 cases e
 refine⟨hu,fun k hk=>?_⟩
 have:=X' _ (List.mem_map.mpr ⟨k,hk,rfl⟩)
 omega
theorem zj:∀ {aC:List (Nat×Nat)} {t u w:Nat},(aC.map (·.1)).Nodup->aC[t]?=some (u,w)->iH (oM aC) (Sum.inl ((u:Nat):Int))=some (V.int (w:Nat))
 | [],t,u,w,_,h=>by simp at h
 | q::r,0,u,w,_,h=>by
  simp at h
  subst h
  exact jM rfl
 | q::r,t+1,u,w,nd,h=>by
  have nd':(q.1::r.map (·.1)).Nodup:=nd
  obtain⟨n1,n2⟩:=List.nodup_cons.mp nd'
  have h':r[t]?=some (u,w):=by simpa using h
  have hx:q.1≠u:=fun e=>n1 (by rw[e];exact List.mem_map.mpr ⟨(u,w),List.mem_of_getElem? h',rfl⟩)
  have hk:¬ (Sum.inl ((q.1:Nat):Int):Key)=Sum.inl ((u:Nat):Int):=fun e=>hx (by have:=Sum.inl.inj e;omega)
  exact(i5 (r:=oM r) hk).trans (zj n2 h')
theorem Hv{m:List (Option Nat)}{u w:Nat}:(m.map mV).set u (nV w)=(m.set u (some w)).map mV:=by
 rw[List.map_set]
 rfl
theorem Dm{n i:Nat}(h:i<n):GH n ((i:Nat):Int)=some i:=by
 unfold GH
 simp
 omega
def de.plus(p:de)(b:Bool)(r:Int):de:=⟨p.kinds++[b],p.ly++[r],p.gg++[none]⟩
theorem getD_snoc{α:Type}{l:List α}{x d:α}{i:Nat}(h:i<l.length):(l++[x]).getD i d=l.getD i d:=by
 rw[List.getD_eq_getElem?_getD,List.getD_eq_getElem?_getD,List.getElem?_append_left h]
theorem getD_last{α:Type}{l:List α}{x d:α}:(l++[x]).getD l.length d=x:=by
 rw[List.getD_eq_getElem?_getD,List.getElem?_append_right (Nat.le_refl _),Nat.sub_self]
 rfl
theorem oO{α:Type}{l:List α}{d:α}{i:Nat}(h:l.length<=i):l.getD i d=d:=by
 rw[List.getD_eq_getElem?_getD,List.getElem?_eq_none h]
 rfl
theorem qh(p:de)(b:Bool)(r:Int)(i:Nat):(p.plus b r).aR i=p.aR i:=by
 show(p.gg++[none]).getD i none=p.gg.getD i none
 by_cases h:i<p.gg.length
 ·exact getD_snoc h
 ·by_cases h2:i=p.gg.length
  ·subst h2;rw[getD_last,oO (Nat.le_refl _)]
  ·rw[oO (by simp;omega),oO (by omega)]
theorem Hw{p:de}{n:Nat}(hl:p.Len n)(b:Bool)(r:Int){i j:Nat}(hi:i<n)(hj:j<n):(p.plus b r).fit i j=p.fit i j:=by
 have ek:∀ x,x<n->(p.plus b r).kindAt x=p.kindAt x:=fun x hx=>getD_snoc (by rw[hl.k];exact hx)
 have er:∀ x,x<n->(p.plus b r).qf x=p.qf x:=fun x hx=>getD_snoc (by rw[hl.r];exact hx)
 unfold de.fit
 rw[ek _ (by omega),ek _ (by omega),er _ (by omega),er _ (by omega)]
theorem Val.plus{p:de}{n:Nat}(V:Val p n)(b:Bool)(r:Int):Val (p.plus b r) (n+1) where
 len:=⟨by show(p.kinds++[b]).length=_;rw[List.length_append,V.len.k];rfl,by show(p.ly++[r]).length=_;rw[List.length_append,V.len.r];rfl,by show(p.gg++[none]).length=_;rw[List.length_append,V.len.m];rfl⟩
 inv:=fun i j e=>by
  rw[qh] at e
  obtain⟨a,b',c⟩:=V.inv i j e
  obtain⟨a2,_⟩:=V.inv j i b'
  exact⟨by omega,by rw[qh];exact b',by rw[Hw V.len b r a2 a];exact c⟩
theorem Val.out{p:de}{n i:Nat}(V:Val p n)(h:n<=i):p.aR i=none:=oO (by rw[V.len.m];exact h)
theorem OO{a b:Bool}(h:kS a=kS b):a=b:=by
 cases a<;>cases b<;>first | rfl | (exact absurd h (by left))
theorem Tv{z:Str}(h:z = "necklace" \/ z = "armring"):∃ b,z=kS b:=by
 rcases h with rfl | rfl
 ·exact⟨true,rfl⟩
 ·exact⟨false,rfl⟩
theorem ju.len{p:de}{n new:Nat}{p':de}(h:ju p n new p'):Val p' n:=by
 obtain⟨_,_,_,_,_,v,_⟩:=h
 exact v
theorem Bi{K:W.Frag}{a D:Addr}{xs:List V}{tt:TT}{te:TE}{σ:St}{H1:Hp}{Q:Hp->Prop}(p:V->Bool)(Rl:List V->List V->Hp->Prop)(hS:bx K H1 a xs)(hD:H1 D=none)(hz:xs.length<=sizeLine)
  (r0:Rl [] [] (upd H1 D (.lst []))) (mono:∀ pre ys H H',bD [D] H H'->Rl pre ys H->Rl pre ys H')
  (ht:∀ x∈xs,∀ (H:Hp) (R:Bool->Hp->Prop),ak H1 H->(∀ H',ak H H'->R (p x) H')->tt (some x::σ) H R)
  (he:∀ pre x ys,x∈xs->p x=true->∀ (H:Hp) (R:VK),ak H1 H->H D=some (.lst ys)->Rl pre ys H->(∀ v H',ak H H'->Rl (pre++[x]) (ys++[v]) H'->R v H')->te (some x::σ) H R)
  (sk:∀ pre x ys H,x∈xs->p x=false->Rl pre ys H->Rl (pre++[x]) ys H)
  (hd:∀ ys H2,ak H1 H2->H2 D=some (.lst ys)->Rl xs ys H2->Q H2):kc tt te D (Gn K a) σ H1 Q:=by
 refine⟨fun i m ys H=>m=xs.length - i/\i<=xs.length/\ys.length<=i/\Rl (xs.take i) ys H/\ak H1 H/\H D=some (.lst ys),⟨xs.length,by simp,Nat.zero_le _,Nat.le_refl _,r0,(ak.refl _).put hD,af⟩,?_⟩
 rintro i m ys H ⟨rfl,hi,hy,hr,sm,hl⟩
 by_cases c_:i<xs.length
 ·refine .inr ⟨⟨xs,xs[i],sm.seq hS,by simp [c_]⟩,fun x H' y=>?_⟩
  obtain⟨e,y⟩:=y
  subst e
  have hx:=y xs (sm.seq hS)
  have hm:x∈xs:=List.mem_of_getElem? hx
  have tk:xs.take (i+1)=xs.take i++[x]:=by rw[List.take_add_one,hx];rfl
  refine ht x hm _ _ sm fun H2 s2=>?_
  have hr2:=mono _ _ _ _ (bD.of s2) hr
  cases hp:p x with
  | false=>exact cx ⟨xs.length - (i+1),by omega,rfl,c_,by omega,by rw[tk];exact sk _ _ _ _ hm hp hr2,sm.trans s2,s2 _ _ hl⟩
  | true =>
   refine cH (he (xs.take i) x ys hm hp _ _ (sm.trans s2) (s2 _ _ hl) hr2 fun v H3 s3 r3=>⟨s3 _ _ (s2 _ _ hl),by omega,xs.length - (i+1),by omega,rfl,c_,by rw[List.length_append];show ys.length+1<=i+1;omega,?_,(sm.trans (s2.trans s3)).put hD,af⟩)
   rw[tk]
   exact mono _ _ _ _ (bD.upd (List.mem_singleton.mpr rfl)) r3
 ·have e:i=xs.length:=by omega
  subst e
  rw[List.take_length] at hr
  exact .inl ⟨⟨xs,sm.seq hS,Nat.le_refl _⟩,hd ys H sm hl hr⟩
def de.oP(p:de)(n:Nat):List Nat:=(List.range n).filter fun i=>(p.aR i).isNone
theorem qX{α β:Type}{F:α->β->Prop}:∀ {Ga:List α} {Gb:List β} {i:Nat} {a:α},Paired F Ga Gb->Ga[i]?=some a->∃ b,Gb[i]?=some b/\F a b
 | _,_,_,_,.nil,e=>by simp at e
 | _,_,0,_,.cons r _,e=>by simp at e;subst e;exact⟨_,rfl,r⟩
 | _,_,i+1,b,.cons _ t,e=>by
  obtain⟨u,h1,h2⟩:=qX (i:=i) (a:=b) t (by simpa using e)
  exact⟨u,by simpa using h1,h2⟩
end L2
namespace L2
open PySem PySem.Spec PyProof.Rows PySem.W
theorem lY(h:Heap):∀ ts:List Addr,(∀ a∈ts,∃ (o:Obj) (xs:Array Value) (n:Nat) (x:Int) (t:Tok),h.get? a=some o/\o.cls=.type "tuple" /\ o.data=.seq xs n/\xs[0]?=some (.int x t)) ->
  ∃ fs:List Value,KatTups h (ts.map Value.ref) fs/\fs.length=ts.length/\∀ v∈fs,∃ (x:Int) (t:Tok),v=.int x t
 | [],_=>⟨[],trivial,rfl,fun v hv=>nomatch hv⟩
 | a::r,hm=>by
  obtain⟨o,xs,n,x,t,e1,e2,e3,e4⟩:=hm a List.mem_cons_self
  obtain⟨fs,k1,k2,k3⟩:=lY h r fun b hb=>hm b (List.mem_cons_of_mem _ hb)
  refine⟨.int x t::fs,KatTups.cons e1 e2 e3 e4 k1,by simp [k2],fun v hv=>?_⟩
  rcases List.mem_cons.mp hv with z | z
  ·exact⟨x,t,z⟩
  ·exact k3 v z
end L2
namespace L2
open PySem PySem.Spec PyProof.Rows
def nb(p:de)(n:Nat)(C:Nat->Bool)(o:Nat):Bool:=(List.range n).any fun c=>C c&&p.fit c o
section
variable{X:Cx}
theorem xx:g9 X (.type "dict") (fun xs H Q=>∃ a aJ,xs=[.ref a]/\Rd H a (.dK aJ)/\∀ p,H p=none->Q (.ref p) (upd H p (.dK aJ))):=by
 intro pins s σ H xs us Q I r h
 obtain⟨a,aJ,rfl,e,q⟩:=h
 obtain⟨u,rfl,ru⟩:=vals1 r
 cases ru
 exact G_ I e fun p s' hp I'=>⟨.ref p,_,I',rfl,q p hp⟩
end
structure Fc(P:Program)(w:World)(K:W.Frag)(mg:Str->Option Value)(base:Heap)(CX:yM)(k:Nat)(x:Str)(f:Addr)(fd:FuncData)(ps:List Str)(sp:Sp):Prop where
 G:aE P w K mg base CX k f fd ps sp
 m:mg x=some (.ref f)
 k:W.keepIn K (.ref f)=true
 b:Binds K fd ps []
structure Mc(P:Program)(w:World)(K:W.Frag)(mg:Str->Option Value)(base:Heap)(CX:yM)(k:Nat)(C:Addr)(x:Str)(f:Addr)(fd:FuncData)(ps:List Str)(sp:Sp):Prop where
 G:aE P w K mg base CX k f fd ps sp
 me:Meth K C x f
 b:Binds K fd ps []
structure Kc(P:Program)(w:World)(K:W.Frag)(mg:Str->Option Value)(base:Heap)(CX:yM)(k:Nat)(x:Str)(C f:Addr)(fd:FuncData)(ps:List Str)(sp:Sp):Prop where
 G:aE P w K mg base CX k f fd ps sp
 M:Mk K C f
 m:mg x=some (.ref C)
 b:Binds K fd ps []
section
variable{X:Cx}
theorem wu(hu:X.A.units<cLine):pV X (compareOp .NotEq) (fun x y H Q=>∃ (l b:Addr) (xs:List V),x=.ref l/\y=.ref b/\bx X.K H l xs/\bx X.K H b []/\Q (.bl (!xs.isEmpty)) H):=by
 intro pins s σ H x y v u Q I rx ry h
 obtain⟨l,b,xs,rfl,rfl,h1,h2,q⟩:=h
 cases rx
 cases ry
 obtain⟨i1,r1,p1,z1⟩:=I.list h1
 obtain⟨i2,r2,p2,z2⟩:=I.list h2
 cases r2
 cases r1 with
 | nil =>
  refine SeqAt.RcNeAt.lists (e:=fun _=>true) p1.isList p2.isList rfl hu (fun j h1 h2=>absurd h1 (Nat.not_lt_zero _)) _ _ _ _ ⟨.bl false,H,I,?_,q⟩
  show Value.bool _=Value.bool _
  simp
 | cons a r =>
  refine SeqAt.RcNeAt.lists_lengths p1.isList p2.isList (by simp) hu _ _ _ _ ⟨.bl true,H,I,rfl,q⟩
end
def F6(x:List Str)(N:List Str):List Str:=x++N.map fun y=>if y∈x\/y = ".0" then Str.empty else y
structure rD(x:List Str)(scope:Scope)(env:Env):Prop where
 kind:scope.kind=.function
 own:∀ z∈x,scope.names.lookup z=some .local
 loc:∀ y∈scope.names,y.2=.local->y.1∈x\/y.1 = ".0"
 nm:∀ y∈scope.names,y.2=.local->scope.names.lookup y.1=some .local
 cell:∀ y∈scope.names,y.2≠.cell
 free:∀ y∈scope.names,y.2=.free->env.kindOf y.1=some .cell\/env.kindOf y.1=some .free
 emp:scope.names.lookup Str.empty=none
 nz:((".0" : Str),NameKind.free)∉scope.names
def aU(X:Cx)(scope:Scope)(x:List Str)(C:Addr)(s:Shared)(H:Hp)(fp:List Addr)(pins:List (Addr×Obj)):Cx where
 prog:=X.prog
 w:=X.w
 K:=X.K
 mg:=X.mg
 base:=X.base
 A:=X.A
 N:=F6 x X.N
 g0:=s
 D5:=H
 env:=compEnvC scope (dY scope X.env) C X.env
 outer:=X.stack
 stack:=X.stack
 ex:=fp
 fn:=fun _=>false
 calm:=X.calm
 pn:=X.pn++pins
 xe:=fun _ _=>False
section
variable{X:Cx}{pins:List (Addr×Obj)}{σ:St}{H:Hp}{s:Shared}{scope:Scope}{x:List Str}{fp:List Addr}
theorem rD.Ky(S:rD x scope X.env){y:Str}(hy:y∉x)(Oq:y ≠ ".0")(h:MK (relabel scope X.env) y):(y,NameKind.free)∈scope.names/\((relabel scope X.env).names.lookup y=some .cell\/(relabel scope X.env).names.lookup y=some .free):=by
 have all:∀ k,(relabel scope X.env).names.lookup y=some k->(k=.local\/k=.cell\/k=.free)->(y,NameKind.free)∈scope.names/\(k=.cell\/k=.free):=fun k e hk=>by
  obtain⟨k',m,q⟩:=bZ (scope:=scope) e
  have hl:k'≠.local:=fun e=>(S.loc _ m e).elim hy Oq
  have hc:k'≠.cell:=S.cell _ m
  rcases q with q | ⟨q,q'⟩
  ·subst q
   rcases hk with z | z | z
   ·exact absurd z hl
   ·exact absurd z hc
   ·subst z;exact⟨m,.inr rfl⟩
  ·subst q q'
   exact⟨m,.inl rfl⟩
 rcases h with h | h | h
 ·obtain⟨_,q⟩:=all _ h (.inl rfl);rcases q with q | q<;>cases q
 ·exact⟨(all _ h (.inr (.inl rfl))).1,.inl h⟩
 ·exact⟨(all _ h (.inr (.inr rfl))).1,.inr h⟩
theorem Hx(S:rD x scope X.env)(hx:Str.empty∉x):¬ MK (relabel scope X.env) Str.empty:=fun h=>by
 obtain⟨m,_⟩:=S.Ky hx (by left) h
 obtain⟨c',e⟩:=il m
 rw[S.emp] at e
 cases e
theorem c6.coM{H':Hp}{C:Addr}(I:Inv X pins σ H s)(hC:C=s.heap.objs.size){b:Addr}(hb:b∈fp)(hf:c6 X pins H b)(c_:b<s.heap.objs.size)(hn:H' b=none):c6 (aU X scope x C s H fp pins) [] H' b:=by
 obtain⟨f0,f1,f2,f3,f4,f5⟩:=hf
 refine⟨hn,?_,fun z=>?_,.inl hb,fun y c e=>f4 y c (cn e),fun p hp=>f5 p ?_⟩
 ·show b≠C
  rw[hC];exact Nat.ne_of_lt c_
 ·rcases List.mem_cons.mp (I.kU b z) with q | q
  ·exact f1 q
  ·exact f2 q
 ·have AD:p∈(X.pn++pins)++[]:=hp
  rwa [List.append_nil] at AD
theorem zk{h':Heap}{t:Nat}{m:Str->Option Value}{o:Obj}(I:Inv X pins σ H s)(S:rD x scope X.env)(hx:Str.empty∉x)(xc:∀ b∈fp,c6 X pins H b)(c_:∀ b∈fp,b<s.heap.objs.size)
  (hn:h'.Ns s.heap.objs.size m) (sb:Heap.SameBut s.heap.objs.size (s.heap.push o) h') :
  Inv (aU X scope x s.heap.objs.size s H fp pins) [] (List.replicate x.length none++σ) H { s with heap:=h',toks:=t }:=by
 have kp:∀ b u,s.heap.get? b=some u->h'.get? b=some u:=fun b u e=>(sb.2 b (Nat.ne_of_lt (Heap.lt_size e))).trans (Heap.get?_push_of_some _ e)
 refine⟨⟨I.ok.mod,S.kind,I.ok.glob,I.ok.blt,Nat.le_refl _,fun y z c h1 h2=>I.ok.inj y z c (cn h1) (cn h2),fun y hy=>?_,fun y c h _=>absurd h (by simp [aU]),I.ok.hd,I.ok.frames,.inl rfl,fun b hb=>?_,I.bs,Nat.le_trans I.ok.AA I.sz,fun b ob e hb=>?_,fun b hb z=>?_,I.stack,I.rY⟩,
  rfl,I.bare,Un.kept kp,⟨m,hn,fun i y v h1 h2 h3=>?_⟩,fun y c e=>?_,I.a8.fresh (Nat.le_refl _),fun y c e=>I.ir y c (cn e),fun p hp=>?_,I.a8.kept kp,?_⟩
 ·
  have Ot:(relabel scope X.env).names.lookup y=some .cell\/(relabel scope X.env).names.lookup y=some .free:=hy
  have Xj:y∉x:=fun e=>by
   have:=PySem.lookup_relabel_local (env:=X.env) (S.own y e)
   rcases Ot with z | z
   ·have z':=this.symm.trans z;cases z'
   ·have z':=this.symm.trans z;cases z'
  have Oq:y ≠ ".0" := fun e=>by
   obtain⟨k',m',q⟩:∃ k',(y,k')∈scope.names/\(k'=.cell\/k'=.free):=by
    rcases Ot with z | z
    ·obtain⟨k',m',q⟩:=bZ (scope:=scope) z
     rcases q with q | ⟨_,q⟩
     ·exact⟨k',m',.inl q.symm⟩
     ·exact⟨k',m',.inr q⟩
    ·obtain⟨k',m',q⟩:=bZ (scope:=scope) z
     rcases q with q | ⟨q',q⟩
     ·exact⟨k',m',.inr q.symm⟩
     ·cases q'
   rcases q with q | q
   ·exact S.cell _ m' q
   ·exact S.nz (e▸q▸m')
  obtain⟨mm,_⟩:=S.Ky Xj Oq (.inr Ot)
  obtain⟨c,e⟩:=I.ok.has y (S.free _ mm rfl)
  exact⟨c,ka mm e⟩
 ·obtain⟨f0,f1,f2,f3,f4,f5⟩:=xc b hb
  exact⟨Nat.ne_of_lt (c_ b hb),fun y c e=>f4 y c (cn e)⟩
 ·obtain⟨f0,f1,f2,f3,f4,f5⟩:=xc b hb
  rcases f3 with z | z
  ·exact I.ok.vh b ob e z
  ·exact absurd (Nat.lt_of_lt_of_le (Heap.lt_size e) (Nat.le_trans I.ok.AA z)) (Nat.lt_irrefl _)
 ·obtain⟨f0,f1,f2,f3,f4,f5⟩:=xc b hb
  rcases List.mem_cons.mp (I.kU b z) with q | q
  ·exact f1 q
  ·exact f2 q
 ·by_cases hi:i<x.length
  ·rw[List.getElem?_append_left (by rw[List.length_replicate];exact hi),List.getElem?_replicate,if_pos hi] at h2
   cases h2
  ·obtain⟨j,rfl⟩:∃ j,i=x.length+j:=⟨i - x.length,by omega⟩
   have Hb:(X.N.map fun y=>if y∈x\/y = ".0" then Str.empty else y)[j]?=some y:=by
    have tU:(x++X.N.map fun y=>if y∈x\/y = ".0" then Str.empty else y)[x.length+j]?=some y:=h1
    rwa [List.getElem?_append_right (by omega),Nat.add_sub_cancel_left] at tU
   have Xk:σ[j]?=some (some v):=by
    rwa [List.getElem?_append_right (by rw[List.length_replicate];omega),List.length_replicate,Nat.add_sub_cancel_left] at h2
   rw[List.getElem?_map] at Hb
   cases e:X.N[j]? with
   | none=>rw[e] at Hb;cases Hb
   | some z =>
    rw[e] at Hb
    have tU:(if z∈x\/z = ".0" then Str.empty else z)=y:=Option.some.inj Hb
    by_cases hz:z∈x\/z = ".0"
    ·rw[if_pos hz] at tU
     subst tU
     exact absurd h3 (Hx S hx)
    ·rw[if_neg hz] at tU
     subst tU
     obtain⟨mm,kk⟩:=S.Ky (fun e=>hz (.inl e)) (fun e=>hz (.inr e)) h3
     have fk:=S.free _ mm rfl
     obtain⟨m',_,hl⟩:=I.loc
     obtain⟨u,r,l⟩:=hl j z v e Xk (by rcases fk with q | q;exact .inr (.inl q);exact .inr (.inr q))
     refine⟨u,r,?_⟩
     rcases l with ⟨k,_⟩ | ⟨k,c,e1,e2⟩
     ·rcases fk with q | q
      ·have z':=k.symm.trans q;cases z'
      ·have z':=k.symm.trans q;cases z'
     ·obtain⟨oc,J9,hd⟩:=e2
      exact .inr ⟨kk,c,ka mm e1,oc,kp _ _ J9,hd⟩
 ·obtain⟨v,oc,J9,hd⟩:=I.cell y c (cn e)
  exact⟨v,oc,kp _ _ J9,hd⟩
 ·have AD:p∈(X.pn++pins)++[]:=hp
  rw[List.append_nil] at AD
  obtain⟨e,n,ne,nf,d⟩:=I.pin p AD
  refine⟨kp _ _ e,n,Nat.ne_of_lt (Heap.lt_size e),fun z=>?_,d⟩
  rcases List.mem_cons.mp (I.kU p.1 z) with q | q
  ·exact ne q
  ·exact nf q
 ·show(List.replicate x.length none++σ).length=(F6 x X.N).length
  unfold F6
  rw[List.length_append,List.length_append,List.length_replicate,List.length_map,I.len]
theorem nG{s':Shared}{H':Hp}{bf:St}{C:Addr}(I:Inv X pins σ H s)(hC:C=s.heap.objs.size)(xc:∀ b∈fp,c6 X pins H b)(J:Inv (aU X scope x C s H fp pins) [] bf H' s'):Inv X pins σ H' s' :=
 I.Gg (ch:=fp) J.os J.base J.a8 J.bare fun b hb=>by
  obtain⟨f0,f1,f2,f3,f4,f5⟩:=xc b hb
  exact⟨f3,f1,f4,f5⟩
theorem ki{s':Shared}{H':Hp}{bf:St}{C:Addr}(I:Inv X pins σ H s)(hC:C=s.heap.objs.size)(J:Inv (aU X scope x C s H fp pins) [] bf H' s'):c6 X pins H' C:=by
 have f:=I.qa (H':=H') (b:=C) (by rw[hC];exact Nat.le_refl _) J.free
 exact f
end
def qY(n:Nat)(g:TG)(tt:TT)(te:TE)(D:Addr)(J:It)(σ:St)(H1:Hp)(Q:Hp->Prop):Prop :=
 ∃ Wq:Nat->Nat->List V->Hp->Prop,(∃ m,Wq 0 m [] (upd H1 D (.lst [])))/\∀ i m ys H,Wq i m ys H ->
  (J.stop i H/\Q H)\/(J.go i H/\∀ (os:St) x H',os.length=n->J.MQ i H x H'->g x (os++σ) H' fun kY H0=>(∃ V1:St,V1.length=n/\kY=V1++σ)/\tt kY H0 fun b H2=>if b=true then te kY H2 fun y H3 =>
   H3 D=some (.lst ys)/\ys.length<sizeLine/\∃ m',m'<m/\Wq (i+1) m' (ys++[y]) (upd H3 D (.lst (ys++[y]))) else ∃ m',m'<m/\Wq (i+1) m' ys H2)
def zm(n:Nat)(wi:TI)(g:TG)(tt:TT)(te:TE):TE:=fun σ H Q=>wi σ H fun J H1=>∀ D,H1 D=none->qY n g tt te D J σ H1 fun H2=>Q (.ref D) H2
section
variable{X:Cx}{pins:List (Addr×Obj)}{σ:St}{H:Hp}{s:Shared}{scope:Scope}{x:List Str}{fp:List Addr}{elt iter:Expr}{ifs:List Expr}{tg:Expr}{g:TG}{pos:Pos}{te:TE}{tt:TT}{wi:TI}
theorem Bj{E:Value->Shared->Prop}{RR:Value->Addr->Result->Shared->Prop}{it:Addr}{tn:Nat->Heap->Prop}{J:It}{Q:Addr->Hp->Prop}(hc:X.calm=true)(S:rD x scope X.env)(hx:Str.empty∉x)(hN:(F6 x X.N).Nodup)
  (hg:∀ C s H fp pins,PG (aU X scope x C s H fp pins) tg g) (gF:∀ C s H fp pins,PE (aU X scope x C s H fp pins) elt te) (gH:∀ C s H fp pins,yX (aU X scope x C s H fp pins) ifs tt)
  (I:Inv X pins σ H s) (T:Turn X.prog X.w X.K (tg) J fp it tn) (st:tn 0 s.heap) (xc:∀ b∈fp,c6 X pins H b) (h:∀ D,H D=none->qY x.length g tt te D J σ H (Q D))
  (hR:∀ D C s' H' m,Inv X pins σ H' s'->c6 X pins H' C->s'.heap.Ns C m->(∀ y c,X.env.cells.lookup y=some c->C≠c)->C≠X.env.locals->Q D H'->RR (.ref D) C (.ok .next) s') :
  wpAny (model X.prog X.w) X.A (newList []) (fun acc jJ=>wpAny (model X.prog X.w) X.A (newFunctionEnv scope X.env.globals (dY scope X.env) [] X.env.qual none .none (some X.env)) (fun ke lj =>
   codeAny (model X.prog X.w) X.A (.compStart (.ListComp elt [⟨tg,iter,ifs,0⟩] scope pos) 0 (.ref it) acc { ke with scope:=relabel scope X.env }) (RR acc ke.locals) lj) E jJ) E s:=by
 refine wpAny_newObj_type ?_
 have I1:Inv X pins σ (upd H s.heap.objs.size (.lst [])) { s with heap:=s.heap.push { cls:=.type "list",data:=.seq ([]:List Value).toArray },toks:=s.toks }:=I.GZ (ys:=[]) (its:=[]) .nil (Nat.zero_le _)
 have c_:∀ b∈fp,b<s.heap.objs.size:=fun b hb=>by
  obtain⟨o,e,_⟩:=T.obj 0 _ st b hb
  exact Heap.lt_size e
 have Dh:∀ b∈fp,b≠s.heap.objs.size:=fun b hb=>Nat.ne_of_lt (c_ b hb)
 have kN:∀ b∈fp,c6 X pins (upd H s.heap.objs.size (.lst [])) b:=fun b hb=>by
  obtain⟨f0,f1⟩:=xc b hb
  exact⟨by rw[aj (Dh b hb)];exact f0,f1⟩
 have hW:=h s.heap.objs.size (I.a8.fresh (Nat.le_refl _))
 have Ek:tn 0 (s.heap.push { cls:=.type "list",data:=.seq ([]:List Value).toArray }):=T.keep 0 _ _ st fun b _ o e=>Heap.get?_push_of_some _ e
 generalize hH1:upd H s.heap.objs.size (.lst [])=H1 at I1 kN
 generalize hD:s.heap.objs.size=D at hW hR hH1 ⊢
 have hsz:(s.heap.push { cls:=.type "list",data:=.seq ([]:List Value).toArray }).objs.size=s.heap.objs.size+1:=Heap.size_push ..
 generalize tW:({ s with heap:=s.heap.push { cls:=.type "list",data:=.seq ([]:List Value).toArray },toks:=s.toks }:Shared)=s1 at I1
 have tX:s1.heap=s.heap.push { cls:=.type "list",data:=.seq ([]:List Value).toArray }:=by rw[<- tW]
 have goal:wpAny (model X.prog X.w) X.A (newFunctionEnv scope X.env.globals (dY scope X.env) [] X.env.qual none .none (some X.env)) (fun ke lj =>
   codeAny (model X.prog X.w) X.A (.compStart (.ListComp elt [⟨tg,iter,ifs,0⟩] scope pos) 0 (.ref it) (.ref D) { ke with scope:=relabel scope X.env }) (RR (.ref D) ke.locals) lj) E s1:=by
  rw[<- tX] at Ek
  have tY:∀ b∈fp,b<s1.heap.objs.size:=fun b hb=>by rw[tX,hsz];exact Nat.lt_succ_of_lt (c_ b hb)
  clear tW tX hsz
  refine wpAny_newFunctionEnv S.cell (by intro y hy;simp at hy) (fun dB tZ lp=>?_) S.kind
  have I2:=zk (t:=s1.toks+([]:List (Str×Value)).length) I1 S hx kN tY tZ lp
  have vb:tn 0 dB:=T.keep 0 _ _ Ek fun b hb o e=>(lp.2 b (Nat.ne_of_lt (tY b hb))).trans (Heap.get?_push_of_some _ e)
  obtain⟨Wq,⟨m0,w0⟩,turn⟩:=hW
  rw[hH1] at w0
  generalize hCC:s1.heap.objs.size=C at I2 ⊢
  have j_:∀ {H':Hp},(∀ b∈fp,H' b=none)->∀ b∈fp,c6 (aU X scope x C s1 H1 fp pins) [] H' b:=fun hn b hb=>c6.coM I1 hCC.symm hb (kN b hb) (tY b hb) (hn b hb)
  have loop:codeAny (model X.prog X.w) X.A (.compLoop (.ListComp elt [⟨tg,iter,ifs,0⟩] scope pos) 0 (.ref it) (.ref D) (compEnvC scope (dY scope X.env) C X.env)) (RR (.ref D) C) { s1 with heap:=dB,toks:=s1.toks+([]:List (Str×Value)).length }:=by
   refine lh (fun n s'=>∃ i ys os H',os.length=x.length/\Inv (aU X scope x C s1 H1 fp pins) [] (os++σ) H' s'/\tn i s'.heap/\(∀ b∈fp,H' b=none)/\Wq i n ys H') ?_ m0 ⟨0,[],List.replicate x.length none,H1,List.length_replicate,I2,vb,fun b hb=>(kN b hb).1,w0⟩
   rintro n s3 ⟨i,ys,os,H3,ol,I3,CW,CY,w3⟩
   rcases turn i n ys H3 w3 with ⟨stop,qn⟩ | ⟨go,step⟩
   ·refine bg (T.done (aU X scope x C s1 H1 fp pins) rfl rfl rfl hc i [] s3 _ H3 _ I3 (j_ CY) CW stop) fun r s4 ⟨hr,I4⟩=>?_
    subst hr
    obtain⟨m4,SW,_⟩:=I4.loc
    exact hR D C s4 H3 m4 (nG I1 hCC.symm kN I4) (ki I1 hCC.symm I4) SW
     (fun y c e z=>(ki I1 hCC.symm I4).2.2.2.2.1 y c e z.symm) (ki I1 hCC.symm I4).2.1 qn
   ·refine bg (T.item (aU X scope x C s1 H1 fp pins) rfl rfl rfl hc i [] s3 _ H3 _ I3 (j_ CY) CW go) fun r s4 ⟨u,hr,h4⟩=>?_
    subst hr
    refine bg h4 fun _ s5 ⟨y5,H5,I5,r5,SX,wY,Kz⟩=>?_
    have KA:=I5.pinned (j_ Kz) (T.obj _ _ wY)
    refine bg (hg C s1 H1 fp pins _ s5 (os++σ) H5 y5 u _ KA r5 (step os y5 H5 ol SX)) fun _ s6 ⟨RI,H6,I6,⟨Tw,Tx,e6⟩,q6⟩=>?_
    subst e6
    have again:∀ {mz:St} {H7:Hp} {s7:Shared},Inv (aU X scope x C s1 H1 fp pins) ([]++kZ fp s5.heap) mz H7 s7->tn (i+1) s7.heap/\∀ b∈fp,H7 b=none:=fun {mz H7 s7} I7=>by
     refine⟨T.keep _ _ _ wY fun b hb o e=>(I7.pin (b,o) (List.mem_append_right _ (List.mem_append_right _ (cZ hb e)))).1,fun b hb=>?_⟩
     obtain⟨o,e,d⟩:=T.obj _ _ wY b hb
     exact(I7.pin (b,o) (List.mem_append_right _ (List.mem_append_right _ (cZ hb e)))).2.1
    refine bg (gH C s1 H1 fp pins _ s6 _ H6 _ I6 q6) fun ok s7 ⟨H7,I7,q7⟩=>?_
    cases ok with
    | false =>
     obtain⟨m',hm,w7⟩:=q7
     rw[if_neg (by decide)]
     exact⟨m',hm,i+1,ys,Tw,H7,Tx,I7.c9,(again I7).1,(again I7).2,w7⟩
    | true =>
     rw[if_pos rfl]
     rw[if_pos rfl] at q7
     refine bg (gF C s1 H1 fp pins _ s7 _ H7 _ I7 q7) fun v8 s8 ⟨y8,H8,I8,r8,SY,S1,m',hm,w8⟩=>?_
     refine bg (eS (X:=aU X scope x C s1 H1 fp pins) _ s8 _ H8 (.ref D) [y8] (.ref D) [v8] (fun _ H'=>H'=upd H8 D (.lst (ys++[y8]))) I8 rfl (.cons r8 .nil) ⟨D,ys,y8,rfl,rfl,SY,S1,rfl⟩) fun _ s9 ⟨_,H9,I9,_,e9⟩=>?_
     subst e9
     exact⟨m',hm,i+1,ys++[y8],Tw,_,Tx,I9.c9,(again I9).1,(again I9).2,w8⟩
  exact codeAny_compStart_list loop (T.self _ 0 _ _ _ vb loop)
 exact goal
theorem OP(hc:X.calm=true)(S:rD x scope X.env)(hx:Str.empty∉x)(hN:(F6 x X.N).Nodup)(hi:PI X (tg) iter wi)
  (hg:∀ C s H fp pins,PG (aU X scope x C s H fp pins) tg g) (gF:∀ C s H fp pins,PE (aU X scope x C s H fp pins) elt te) (gH:∀ C s H fp pins,yX (aU X scope x C s H fp pins) ifs tt)
  (hs:∀ v,foldedSetIterable iter X.env v=pure v:=by intro _;rfl) :
  PE X (.ListComp elt [⟨tg,iter,ifs,0⟩] scope pos) (zm x.length wi g tt te):=by
 intro pins s σ H Q I h
 rw[eval_ListComp]
 have KZ:=cX (scope:=scope) (env:=X.env) fun y hy hk=>I.ok.has y.1 (S.free y hy hk)
 have Ow:∀ y∈scope.names,y.2=.local->scope.names.lookup y.1=some .local:=S.nm
 refine wpAny_comprehension_free (use:=none) rfl hs KZ S.kind Ow (bg (hi pins s σ H _ I h) fun v s1 h1=>bg h1 fun MR s2 h2=>?_)
 obtain⟨it,fp,tn,J,H2,e,I2,T,vb,f2,q⟩:=h2
 subst e
 refine Bj (RR:=fun acc C=>compPost (model X.prog X.w) X.A X.xe none (EP X pins σ Q) acc C) (Q:=fun D H'=>Q (.ref D) H') hc S hx hN hg gF gH I2 T vb f2 q ?_
 intro D C s' H' m I' f' yz Ku El q'
 exact⟨m,yz,fun h' sb=>⟨.ref D,H',I'.turned (t':=s'.toks) (fun b o hb e=>(sb.2 b hb).trans e) f'.1 f'.2.1 f'.2.2.2.1 f'.2.2.2.2.1 f'.2.2.2.2.2,rfl,q'⟩⟩
end
def bM(x:List Str)(scope bH:Scope)(N:List Str):Bool :=
 decide (scope.kind=.function)&&(x.all fun z=>decide (scope.names.lookup z=some .local)) &&
 (scope.names.all fun y=>decide (y.2=.local->y.1∈x\/y.1 = ".0")&&decide (y.2=.local->scope.names.lookup y.1=some .local)&&decide (y.2≠.cell)&&decide (y.2=.free->bH.names.lookup y.1=some .cell\/bH.names.lookup y.1=some .free)) &&
 decide (scope.names.lookup Str.empty=none)&&decide (((".0" : Str),NameKind.free)∉scope.names)&&decide (Str.empty∉x)&&decide ((F6 x N).Nodup)
theorem bM.scope{x:List Str}{scope bH:Scope}{N:List Str}{env:Env}(h:bM x scope bH N=true)(e:env.scope=bH):rD x scope env:=by
 unfold bM at h
 simp only[Bool.and_eq_true,decide_eq_true_eq,List.all_eq_true] at h
 obtain⟨⟨⟨⟨⟨⟨h1,h2⟩,h3⟩,h4⟩,h7⟩,h5⟩,h6⟩:=h
 subst e
 exact⟨h1,h2,fun y hy=>(h3 y hy).1.1.1,fun y hy=>(h3 y hy).1.1.2,fun y hy=>(h3 y hy).1.2,fun y hy=>(h3 y hy).2,h4,h7⟩
theorem bM.ne{x:List Str}{scope bH:Scope}{N:List Str}(h:bM x scope bH N=true):Str.empty∉x:=by
 unfold bM at h
 simp only[Bool.and_eq_true,decide_eq_true_eq,List.all_eq_true] at h
 exact h.1.2
theorem bM.nd{x:List Str}{scope bH:Scope}{N:List Str}(h:bM x scope bH N=true):(F6 x N).Nodup:=by
 unfold bM at h
 simp only[Bool.and_eq_true,decide_eq_true_eq,List.all_eq_true] at h
 exact h.2
section
variable{X:Cx}{scope:Scope}{elt iter:Expr}{ifs:List Expr}{tg:Expr}{g:TG}{pos:Pos}{te:TE}{tt:TT}{wi:TI}
theorem Ya(x:List Str)(bH:Scope)(N0:List Str)(M4:X.env.scope=bH)(M5:X.N=N0)(oH:bM x scope bH N0=true)(hc:X.calm=true)(hi:PI X tg iter wi)
  (hg:∀ C s H fp pins,PG (aU X scope x C s H fp pins) tg g) (gF:∀ C s H fp pins,PE (aU X scope x C s H fp pins) elt te) (gH:∀ C s H fp pins,yX (aU X scope x C s H fp pins) ifs tt)
  (hs:∀ v,foldedSetIterable iter X.env v=pure v:=by intro _;rfl) :
  PE X (.ListComp elt [⟨tg,iter,ifs,0⟩] scope pos) (zm x.length wi g tt te):=by
 subst M5
 exact OP hc (bM.scope oH M4) (bM.ne oH) (bM.nd oH) hi hg gF gH hs
end
section
variable{prog:Program}{w:World}{A:Around}{E:Value->Shared->Prop}{s:Shared}
theorem ud{J t:Addr}{i:Nat}{ys:Array Value}{y:Value}{Q:Value->Shared->Prop}(ij:s.heap.IsTupleIter J t i)(it:s.heap.IsTuple t ys)(hy:ys[i]?=some y)
  (q:∀ h',h'.IsTupleIter J t (i+1)->Heap.SameBut J s.heap h'->Q y { s with heap:=h' }):wpAny (model prog w) A (Builtin.SmallTypes.nextOf (.ref J)) Q E s:=by
 obtain⟨oj,gj,cj,dj⟩:=id ij
 obtain⟨ot,gt,_,nt,dt⟩:=it
 unfold Builtin.SmallTypes.nextOf
 refine wpAny_bind (wpAny_callSpecial?_slot (name:=Str.ofString "__next__") ij.typeIs F.slot_tuple_iterator_next (wpAny_call_entry F.slot_tuple_iterator_next ij.typeIs F.entry_tuple_iterator_next (show wpAny _ _ (field (.ref J) 0 >>= _) _ _ s from wpAny_bind (wpAny_field gj dj (x:=.ref t) rfl ?_)) (F.args_tuple_iterator_next_1 _)))
 show wpAny _ _ (if (Value.ref t == Value.none)=true then _ else _) _ _ s
 have nz:¬ (Value.ref t == Value.none)=true:=Bool.false_ne_true
 rw[if_neg nz]
 refine(show wpAny _ _ (field (.ref J) 1 >>= _) _ _ s from wpAny_bind (wpAny_field gj dj (x:=.int i 0) rfl (show wpAny _ _ (seqItems? (.ref t) >>= _) _ _ s from wpAny_bind (wpAny_seqItems gt dt ?_))))
 simp only[hy,Int.toNat_natCast]
 refine wpAny_bind (wpAny_setField gj dj (by simp) (wpAny_pure ⟨y,rfl,wpAny_pure (q _ ⟨_,Heap.get?_update_self _ gj (Obj.isFreed_of_fields (Obj.data_mapFields dj _)),(Obj.cls_mapFields ..).trans cj,?_⟩ (Heap.SameBut.update ..))⟩))
 rw[Obj.data_mapFields dj]
 simp [rawInt]
theorem wx{J t:Addr}{i:Nat}{ys:Array Value}{Q:Value->Shared->Prop}(hh:A.handled=none)(ij:s.heap.IsTupleIter J t i)(it:s.heap.IsTuple t ys)(hy:ys[i]?=none)
  (q:∀ h' e,Heap.ExtBut J s.heap h'->(∃ o,h'.get? e=some o/\o.cls=.type "StopIteration")->E (.ref e) { s with heap:=h' }):wpAny (model prog w) A (Builtin.SmallTypes.nextOf (.ref J)) Q E s:=by
 obtain⟨oj,gj,cj,dj⟩:=id ij
 obtain⟨ot,gt,_,nt,dt⟩:=it
 unfold Builtin.SmallTypes.nextOf
 refine wpAny_bind (wpAny_callSpecial?_slot (name:=Str.ofString "__next__") ij.typeIs F.slot_tuple_iterator_next (wpAny_call_entry F.slot_tuple_iterator_next ij.typeIs F.entry_tuple_iterator_next (show wpAny _ _ (field (.ref J) 0 >>= _) _ _ s from wpAny_bind (wpAny_field gj dj (x:=.ref t) rfl ?_)) (F.args_tuple_iterator_next_1 _)))
 show wpAny _ _ (if (Value.ref t == Value.none)=true then _ else _) _ _ s
 have nz:¬ (Value.ref t == Value.none)=true:=Bool.false_ne_true
 rw[if_neg nz]
 refine(show wpAny _ _ (field (.ref J) 1 >>= _) _ _ s from wpAny_bind (wpAny_field gj dj (x:=.int i 0) rfl (show wpAny _ _ (seqItems? (.ref t) >>= _) _ _ s from wpAny_bind (wpAny_seqItems gt dt ?_))))
 simp only[hy,Int.toNat_natCast]
 refine wpAny_bind (wpAny_rule (wpAny_bind (wpAny_setField gj dj (by simp) (show wpAny _ _ (newExc (.type "StopIteration") [] >>= _) _ _ _ from wpAny_bind ?_))))
 simp only[newTuple,newExc]
 refine wpAny_bind (wpAny_newObj_type (wpAny_bind (m:=firstArgMember _ _) (wpAny_of_eq (a:=Value.none) (by first | rfl | (simp only[firstArgMember];rfl)) (wpAny_newObj_type ?_ (by size_fits)))) (by size_fits))
 simp only[raiseNew]
 refine wpAny_bind (wpAny_handled ?_)
 rw[show A.in1.handled=none from hh]
 exact wpAny_bind (wpAny_pure (wpAny_throw (q _ _ (((Heap.SameBut.update ..).extBut.push _).push _) ⟨_,Heap.get?_push_size _ rfl,rfl⟩)))
structure Ng(h:Heap)(z TI TO i1 i2 l t:Addr)(k:Nat)(xs ys:Array Value)(f0:Value):Prop where
 Z:IsZip h z TI TO f0
 I:IsPair h TI (.ref i1) (.ref i2)
 O:∃ a b,IsPair h TO a b
 L:h.IsListIter i1 l k
 T:h.IsTupleIter i2 t k
 xl:h.IsList l xs
 yt:h.IsTuple t ys
theorem Bk{z TI TO i1 i2 l t:Addr}{k:Nat}{xs ys:Array Value}{x y:Value}{Q:Value->Shared->Prop}(D:ZipApart z TI TO i1 i2 l t)(S:Ng s.heap z TI TO i1 i2 l t k xs ys .none)(hx:xs[k]?=some x)(hy:ys[k]?=some y)
  (q:∀ h',IsZip h' z TI TO (rawInt s.heap.objs.size)->IsPair h' TO x y->h'.IsListIter i1 l (k+1)->h'.IsTupleIter i2 t (k+1)->IsPair h' s.heap.objs.size x y ->
   (∀ c o,c≠z->c≠TO->c≠i1->c≠i2->s.heap.get? c=some o->h'.get? c=some o)->Q (.ref s.heap.objs.size) { s with heap:=h' }) :
  wpAny (model prog w) A (Builtin.«zip.__next__» ⟨[.ref z],[]⟩) (fun fin s'=>∃ v,fin=.done (.ret v)/\Q v s') E s:=by
 obtain⟨SZ,SI,⟨a,b,SO⟩,SL,ST,sx,sy⟩:=S
 refine(show wpAny _ _ (field (.ref z) 2 >>= _) _ _ _ from wpAny_bind (wpAny_field SZ rfl (x:=.bool false) rfl (show wpAny _ _ (field (.ref z) 3 >>= _) _ _ _ from wpAny_bind (wpAny_field SZ rfl (x:=.ref TI) rfl (wpAny_bind (wpAny_seqItems SI rfl ?_))))))
 refine(show wpAny _ _ (Builtin.SmallTypes.ownedTupleIsFree (.ref z) >>= _) _ _ _ from wpAny_bind (show wpAny _ _ (do let v <- field (.ref z) 0;_) _ _ _ from wpAny_bind (wpAny_field SZ rfl (x:=.none) rfl (wpAny_pure ?_))))
 simp only[if_true]
 refine wpAny_bind (wpAny_rule (wpAny_bind (wpAny_field SZ rfl (x:=.ref TO) rfl (wpAny_bind (wpAny_setField_rec SZ (by simp) fun g1 z1 e1=>?_)))))
 have Wa:IsZip g1 z TI TO .ellipsis:=z1
 refine wpAny_bind ?_
 simp only[List.forIn_cons,List.forIn_nil,List.zipIdx_cons,List.zipIdx_nil]
 refine wpAny_bind (wpAny_bind (wpAny_onRaise (show wpAny _ _ (Builtin.SmallTypes.nextOf (.ref i1) >>= _) _ _ _ from wpAny_bind (wpAny_nextOf_list_item (SL.extBut e1.extBut D.i1z) (sx.extBut e1.extBut D.l1z) hx fun g2 L2 e2=>wpAny_pure ?_))))
 have O2:IsPair g2 TO a b:=e2.extBut _ _ D.TOi1 (e1.extBut _ _ D.TOz SO)
 refine wpAny_bind (wpAny_seqItems O2 rfl (wpAny_bind (wpAny_updateSeq_pair O2 fun g3 O3 e3=>wpAny_bind (wpAny_letGo (wpAny_pure ?_)))))
 have O3':IsPair g3 TO x b:=O3
 refine wpAny_bind (wpAny_bind (wpAny_onRaise (show wpAny _ _ (Builtin.SmallTypes.nextOf (.ref i2) >>= _) _ _ _ from wpAny_bind (ud (((ST.extBut e1.extBut D.i2z).extBut e2.extBut D.i12.symm).extBut e3.extBut D.TOi2.symm) (((sy.extBut e1.extBut D.l2z).extBut e2.extBut D.l2i1).extBut e3.extBut D.l2TO) hy fun g4 T4 e4=>wpAny_pure ?_))))
 have O4:IsPair g4 TO x b:=e4.extBut _ _ D.TOi2 O3'
 refine wpAny_bind (wpAny_seqItems O4 rfl (wpAny_bind (wpAny_updateSeq_pair O4 fun g5 O5 e5=>wpAny_bind (wpAny_letGo (wpAny_pure (wpAny_pure ?_))))))
 have O5':IsPair g5 TO x y:=O5
 refine wpAny_bind (wpAny_seqItems O5' rfl (wpAny_bind (wpAny_newTuple ?_)))
 have sz:g5.objs.size=s.heap.objs.size:=by rw[e5.1,e4.1,e3.1,e2.1,e1.1]
 have z5:IsZip g5 z TI TO .ellipsis:=e5.extBut _ _ D.TOz.symm (e4.extBut _ _ D.i2z.symm (e3.extBut _ _ D.TOz.symm (e2.extBut _ _ D.i1z.symm Wa)))
 have k5:∀ c o,c≠z->c≠TO->c≠i1->c≠i2->s.heap.get? c=some o->g5.get? c=some o:=fun c o c1 c2 c3 c4 e=>e5.extBut _ _ c2 (e4.extBut _ _ c4 (e3.extBut _ _ c2 (e2.extBut _ _ c3 (e1.extBut _ _ c1 e))))
 have L5:g5.IsListIter i1 l (k+1):=((L2.extBut e3.extBut D.TOi1.symm).extBut e4.extBut D.i12).extBut e5.extBut D.TOi1.symm
 have T5:g5.IsTupleIter i2 t (k+1):=T4.extBut e5.extBut D.TOi2.symm
 have zlt:z<g5.objs.size:=Heap.lt_size z5
 refine(show wpAny _ _ (Builtin.SmallTypes.ownedTupleHandOut (.ref z) (.ref g5.objs.size) >>= _) _ _ _ from wpAny_bind ?_)
 have z6:IsZip (g5.push { cls:=.type "tuple",data:=.seq #[x,y] }) z TI TO .ellipsis:=Heap.get?_push_of_some _ z5
 refine(show wpAny _ _ (do setField (.ref z) 0 (rawInt g5.objs.size);setField (.ref z) 1 (.bool false)) _ _ _ from wpAny_bind (wpAny_setField_rec z6 (by simp) fun g7 z7 e7=>?_))
 have Wb:IsZip g7 z TI TO (rawInt g5.objs.size):=z7
 refine wpAny_setField_rec Wb (by simp) fun g8 z8 e8=>wpAny_pure ⟨_,rfl,?_⟩
 have z8':IsZip g8 z TI TO (rawInt g5.objs.size):=z8
 have up:∀ c o,c≠z->g5.get? c=some o->g8.get? c=some o:=fun c o c1 e=>e8.extBut _ _ c1 (e7.extBut _ _ c1 (Heap.get?_push_of_some _ e))
 have P8:IsPair g8 g5.objs.size x y:=e8.extBut _ _ (Nat.ne_of_gt zlt) (e7.extBut _ _ (Nat.ne_of_gt zlt) (Heap.get?_push_size _ rfl))
 rw[sz] at z8' P8
 show Q (.ref g5.objs.size) _
 rw[sz]
 exact q g8 z8' (up _ _ D.TOz O5') (L5.at fun o e=>up _ o D.i1z e) (T5.at fun o e=>up _ o D.i2z e) P8 fun c o c1 c2 c3 c4 e=>up c o c1 (k5 c o c1 c2 c3 c4 e)
theorem ED{z TI TO i1 i2 l t:Addr}{k:Nat}{xs ys:Array Value}{Q:PySem.Fin->Shared->Prop}(hh:A.handled=none)(D:ZipApart z TI TO i1 i2 l t)(S:Ng s.heap z TI TO i1 i2 l t k xs ys .none)(OQ:xs[k]?=none\/ys[k]?=none)
  (q:∀ h' e,(∀ c o,c≠z->c≠TO->c≠i1->c≠i2->s.heap.get? c=some o->h'.get? c=some o)->(∃ o,h'.get? e=some o/\o.cls=.type "StopIteration")->E (.ref e) { s with heap:=h' }) :
  wpAny (model prog w) A (Builtin.«zip.__next__» ⟨[.ref z],[]⟩) Q E s:=by
 obtain⟨SZ,SI,⟨a,b,SO⟩,SL,ST,sx,sy⟩:=S
 refine(show wpAny _ _ (field (.ref z) 2 >>= _) _ _ _ from wpAny_bind (wpAny_field SZ rfl (x:=.bool false) rfl (show wpAny _ _ (field (.ref z) 3 >>= _) _ _ _ from wpAny_bind (wpAny_field SZ rfl (x:=.ref TI) rfl (wpAny_bind (wpAny_seqItems SI rfl ?_))))))
 refine(show wpAny _ _ (Builtin.SmallTypes.ownedTupleIsFree (.ref z) >>= _) _ _ _ from wpAny_bind (show wpAny _ _ (do let v <- field (.ref z) 0;_) _ _ _ from wpAny_bind (wpAny_field SZ rfl (x:=.none) rfl (wpAny_pure ?_))))
 simp only[if_true]
 refine wpAny_bind (wpAny_rule (wpAny_bind (wpAny_field SZ rfl (x:=.ref TO) rfl (wpAny_bind (wpAny_setField_rec SZ (by simp) fun g1 z1 e1=>?_)))))
 have Wa:IsZip g1 z TI TO .ellipsis:=z1
 refine wpAny_bind ?_
 simp only[List.forIn_cons,List.forIn_nil,List.zipIdx_cons,List.zipIdx_nil]
 refine wpAny_bind (wpAny_bind (wpAny_onRaise (show wpAny _ _ (Builtin.SmallTypes.nextOf (.ref i1) >>= _) _ _ _ from ?_)))
 cases hx:xs[k]? with
 | none =>
  refine wpAny_bind (wpAny_nextOf_list_end hh (SL.extBut e1.extBut D.i1z) (sx.extBut e1.extBut D.l1z) hx fun g2 e e2 he=>?_)
  obtain⟨oe,ge,ce⟩:=he
  have z2:IsZip g2 z TI TO .ellipsis:=e2 _ _ D.i1z.symm Wa
  have ez:e≠z:=fun r=>by rw[r,z2] at ge;cases ge;simp at ce
  exact wpAny_setField_rec z2 (by simp) fun g3 _ e3=>q g3 e (fun c o c1 _ c3 _ r=>e3.extBut _ _ c1 (e2 _ _ c3 (e1.extBut _ _ c1 r))) ⟨oe,e3.extBut _ _ ez ge,ce⟩
 | some x =>
  have hy:ys[k]?=none:=OQ.resolve_left fun r=>by rw[hx] at r;cases r
  refine wpAny_bind (wpAny_nextOf_list_item (SL.extBut e1.extBut D.i1z) (sx.extBut e1.extBut D.l1z) hx fun g2 L2 e2=>wpAny_pure ?_)
  have O2:IsPair g2 TO a b:=e2.extBut _ _ D.TOi1 (e1.extBut _ _ D.TOz SO)
  refine wpAny_bind (wpAny_seqItems O2 rfl (wpAny_bind (wpAny_updateSeq_pair O2 fun g3 O3 e3=>wpAny_bind (wpAny_letGo (wpAny_pure ?_)))))
  refine wpAny_bind (wpAny_bind (wpAny_onRaise (show wpAny _ _ (Builtin.SmallTypes.nextOf (.ref i2) >>= _) _ _ _ from wpAny_bind (wx hh (((ST.extBut e1.extBut D.i2z).extBut e2.extBut D.i12.symm).extBut e3.extBut D.TOi2.symm) (((sy.extBut e1.extBut D.l2z).extBut e2.extBut D.l2i1).extBut e3.extBut D.l2TO) hy fun g4 e e4 he=>?_))))
  obtain⟨oe,ge,ce⟩:=he
  have z4:IsZip g4 z TI TO .ellipsis:=e4 _ _ D.i2z.symm (e3.extBut _ _ D.TOz.symm (e2.extBut _ _ D.i1z.symm Wa))
  have ez:e≠z:=fun r=>by rw[r,z4] at ge;cases ge;simp at ce
  exact wpAny_setField_rec z4 (by simp) fun g5 _ e5=>q g5 e (fun c o c1 c2 c3 c4 r=>e5.extBut _ _ c1 (e4 _ _ c4 (e3.extBut _ _ c2 (e2.extBut _ _ c3 (e1.extBut _ _ c1 r))))) ⟨oe,e5.extBut _ _ ez ge,ce⟩
end
theorem Inv.Dn{X:Cx}{pins:List (Addr×Obj)}{σ:St}{H:Hp}{s:Shared}{h':Heap}{t':Nat}{ws:List Addr}(I:Inv X pins σ H s)(k:∀ b o,b∉ws->s.heap.get? b=some o->h'.get? b=some o)(hf:∀ b∈ws,c6 X pins H b):Inv X pins σ H { s with heap:=h',toks:=t' }:=by
 have MN:∀ b u,H b=some u->b∉ws:=fun b u e z=>by rw[(hf b z).1] at e;cases e
 refine I.step (g':=s.gens) (d':=s.drawn) (ch:=ws) (fun b hb=>?_) (fun b o _ _ hc e _=>k b o hc e) (fun b o _ _ hc e _=>⟨o.slots,k b o hc e⟩) (fun _ _ _ _ n=>n)
  (fun b o hc e=>⟨o,k b o hc e⟩) (fun _ _ e=>e) (fun _ _ _ e=>e) (fun b ps e=>⟨#[],by rw[e];simp⟩) (fun m hm=>?_) (fun b u e=>?_) I.bare
 ·obtain⟨_,f1,_,f3,f4,f5⟩:=hf b hb
  exact⟨f3,f1,f4,f5⟩
 ·obtain⟨o,es,ep,ho,r⟩:=hm
  exact⟨o,es,ep,k _ o (fun z=>(hf _ z).2.1 rfl) ho,r⟩
 ·refine(I.a8 b u e).oi (fun c v hc q=>k c v ?_ q) (fun _ q=>q) fun _ _ q=>q
  rcases hc with z | z
  ·rw[z];exact MN b u e
  ·exact MN c _ z
theorem Inv.Dp{X:Cx}{pins:List (Addr×Obj)}{σ:St}{H:Hp}{s:Shared}{h':Heap}{t':Nat}{ws:List Addr}{T:Addr}{no:HO}(I:Inv X pins σ H s)(k:∀ b o,b∉ws->s.heap.get? b=some o->h'.get? b=some o)(hf:∀ b∈ws,c6 X pins H b)
  (hT:s.heap.objs.size<=T) (new:bI X.prog X.w (upd H T no) h' T no):Inv X pins σ (upd H T no) { s with heap:=h',toks:=t' }:=by
 have MN:∀ b u,H b=some u->b∉ws:=fun b u e z=>by rw[(hf b z).1] at e;cases e
 have hn:H T=none:=I.a8.fresh hT
 have nT:∀ b u,H b=some u->upd H T no b=some u:=fun b u e=>by rw[aj (ah e hn)];exact e
 have sT:∀ b o,s.heap.get? b=some o->b≠T:=fun b o e=>Nat.ne_of_lt (Nat.lt_of_lt_of_le (Heap.lt_size e) hT)
 refine I.step (g':=s.gens) (d':=s.drawn) (ch:=ws) (fun b hb=>?_) (fun b o _ _ hc e _=>k b o hc e) (fun b o _ _ hc e _=>⟨o.slots,k b o hc e⟩) (fun b o _ e n=>by rw[aj (sT b o e)];exact n)
  (fun b o hc e=>⟨o,k b o hc e⟩) (fun _ _ e=>nT _ _ e) (fun _ _ _ e=>nT _ _ e) (fun b ps e=>⟨#[],by rw[nT _ _ e];simp⟩) (fun m hm=>?_) (fun b u e=>?_) I.bare
 ·obtain⟨_,f1,_,f3,f4,f5⟩:=hf b hb
  exact⟨f3,f1,f4,f5⟩
 ·obtain⟨o,es,ep,ho,r⟩:=hm
  exact⟨o,es,ep,k _ o (fun z=>(hf _ z).2.1 rfl) ho,r⟩
 ·by_cases eb:b=T
  ·subst eb
   rw[af] at e
   cases e
   exact new
  ·rw[aj eb] at e
   refine(I.a8 b u e).oi (fun c v hc q=>k c v ?_ q) (fun _ q=>nT _ _ q) fun _ _ q=>nT _ _ q
   rcases hc with z | z
   ·rw[z];exact MN b u e
   ·exact MN c _ z
def Tz(K:W.Frag)(l t:Addr):It :=
 ⟨fun i H=>∃ xs ys,bx K H l xs/\bV K H t ys/\i<xs.length/\i<ys.length,
  fun i H x H'=>∃ T x1 y1,x=.ref T/\H T=none/\H'=upd H T (.tup [x1,y1])/\(∀ xs,bx K H l xs->xs[i]?=some x1)/\∀ ys,bV K H t ys->ys[i]?=some y1,
  fun i H=>∃ xs ys,bx K H l xs/\bV K H t ys/\(xs.length<=i\/ys.length<=i)⟩
theorem Hy{P:Program}{w:World}{K:W.Frag}{elts:List Expr}{kx:Nat}{px:Pos}{z TI TO i1 i2 l t:Addr}(D:ZipApart z TI TO i1 i2 l t) :
  Turn P w K (.Tuple elts kx px) (Tz K l t) [z,TI,TO,i1,i2] z (fun i h=>IsZip h z TI TO .none/\IsPair h TI (.ref i1) (.ref i2)/\(∃ a b,IsPair h TO a b)/\h.IsListIter i1 l i/\h.IsTupleIter i2 t i) where
 mem:=by simp
 obj:=fun i h st b hb=>by
  obtain⟨g1,g2,⟨a,c,g3⟩,⟨o4,g4,_,d4⟩,⟨o5,g5,_,d5⟩⟩:=st
  simp only[List.mem_cons,List.not_mem_nil,or_false] at hb
  rcases hb with e | e | e | e | e
  ·rw[e];exact⟨_,g1,fun v q=>by cases q⟩
  ·rw[e];exact⟨_,g2,fun v q=>by cases q⟩
  ·rw[e];exact⟨_,g3,fun v q=>by cases q⟩
  ·rw[e];exact⟨_,g4,fun v q=>by rw[d4] at q;cases q⟩
  ·rw[e];exact⟨_,g5,fun v q=>by rw[d5] at q;cases q⟩
 keep:=fun i h h' st k=>by
  obtain⟨g1,g2,⟨a,c,g3⟩,g4,g5⟩:=st
  exact⟨k z (by simp) _ g1,k TI (by simp) _ g2,⟨a,c,k TO (by simp) _ g3⟩,g4.at fun o e=>k i1 (by simp) o e,g5.at fun o e=>k i2 (by simp) o e⟩
 item:=by
  intro X hP hw hK hc i pins s σ H E I hf st hg
  subst hP hw hK
  obtain⟨xs,ys,hq,tS,hx,hy⟩:=hg
  obtain⟨its,rv,p,hz⟩:=I.list hq
  obtain⟨TB,Lg,p',RN⟩:=I.tuple tS
  obtain⟨u,hu,ru⟩:=rv.get (x:=xs[i]) (List.getElem?_eq_getElem hx)
  obtain⟨v,hv,Yb⟩:=Lg.get (x:=ys[i]) (List.getElem?_eq_getElem hy)
  obtain⟨g1,g2,g3,g4,g5⟩:=st
  have hT:s.TypeIs (.ref z) "zip" := ⟨_,g1,rfl⟩
  unfold pyNext
  refine wpAny_bind (wpAny_attempt (wpAny_callSpecial?_slot (name:=Str.ofString "__next__") hT F.slot_zip_next (wpAny_call_entry F.slot_zip_next hT F.entry_zip_next
   (Bk (x:=u) (y:=v) D ⟨g1,g2,g3,g4,g5,p.isList,p'⟩ (by simpa using hu) (by simpa using hv) fun h' a1 a2 a3 a4 a5 kp=>wpAny_pure ?_) (F.args_zip_next_1 _))))
  refine⟨_,rfl,wpAny_letOwnedTupleGo_zip (s:={ s with heap:=h' }) a1 fun h2 z2 sb=>?_⟩
  have sz:∀ b∈[z,TI,TO,i1,i2],b<s.heap.objs.size:=fun b hb=>by
   obtain⟨o4,q4,_⟩:=g4
   obtain⟨o5,q5,_⟩:=g5
   obtain⟨_,_,q3⟩:=g3
   simp only[List.mem_cons,List.not_mem_nil,or_false] at hb
   rcases hb with e | e | e | e | e<;>rw[e]
   ·exact Heap.lt_size g1
   ·exact Heap.lt_size g2
   ·exact Heap.lt_size q3
   ·exact Heap.lt_size q4
   ·exact Heap.lt_size q5
  have zT:s.heap.objs.size≠z:=Nat.ne_of_gt (sz z (by simp))
  have Yc:∀ b o,b∉[z,TO,i1,i2]->s.heap.get? b=some o->h2.get? b=some o:=fun b o hb e=>by
   simp only[List.mem_cons,List.not_mem_nil,or_false,not_or] at hb
   exact(sb.2 b hb.1).trans (kp b o hb.1 hb.2.1 hb.2.2.1 hb.2.2.2 e)
  have OR:IsPair h2 s.heap.objs.size u v:=(sb.2 _ zT).trans a5
  have fr:H s.heap.objs.size=none:=I.a8.fresh (Nat.le_refl _)
  have I2:Inv X pins σ (upd H s.heap.objs.size (.tup [xs[i],ys[i]])) { s with heap:=h2,toks:=s.toks }:=I.Dp (ws:=[z,TO,i1,i2]) Yc (fun b hb=>hf b (by
   simp only[List.mem_cons,List.not_mem_nil,or_false] at hb ⊢
   rcases hb with e | e | e | e<;>simp [e])) (Nat.le_refl _) ⟨by show 2<=sizeLine;decide,[u,v],.cons ru (.cons Yb .nil),⟨_,OR,rfl,_,rfl⟩⟩
  exact⟨.ref s.heap.objs.size,_,I2,rfl,⟨_,_,_,rfl,fr,rfl,fun zs hz=>by rw[I.yG hz hq];exact List.getElem?_eq_getElem hx,fun zs hz=>by rw[I.p_ hz tS];exact List.getElem?_eq_getElem hy⟩,
   ⟨z2,(sb.2 _ D.TIz).trans (kp _ _ D.TIz D.TITO D.TIi1 D.TIi2 g2),⟨_,_,(sb.2 _ D.TOz).trans a2⟩,a3.at fun o e=>(sb.2 _ D.i1z).trans e,a4.at fun o e=>(sb.2 _ D.i2z).trans e⟩,fun b hb=>by rw[aj (Nat.ne_of_lt (sz b hb))];exact(hf b hb).1⟩
 done:=by
  intro X hP hw hK hc i pins s σ H E I hf st hg
  subst hP hw hK
  obtain⟨xs,ys,hq,tS,he⟩:=hg
  obtain⟨its,rv,p,hz⟩:=I.list hq
  obtain⟨TB,Lg,p',RN⟩:=I.tuple tS
  have l1:=rv.length
  have l2:=Lg.length
  obtain⟨g1,g2,g3,g4,g5⟩:=st
  have hT:s.TypeIs (.ref z) "zip" := ⟨_,g1,rfl⟩
  have hh:X.A.handled=none:=I.ok.hd hc
  unfold pyNext
  refine wpAny_bind (wpAny_attempt (wpAny_callSpecial?_slot (name:=Str.ofString "__next__") hT F.slot_zip_next (wpAny_call_entry F.slot_zip_next hT F.entry_zip_next
   (ED hh D ⟨g1,g2,g3,g4,g5,p.isList,p'⟩ (by simpa [l1,l2] using he) fun h' e kp ho=>?_) (F.args_zip_next_1 _))))
  obtain⟨o,ho,co⟩:=ho
  refine wpAny_bind (wpAny_isInstance (T := "StopIteration") (b:=true) ⟨o,ho,co⟩ isSubtype_stop (wpAny_pure ⟨rfl,?_⟩))
  exact I.Dn (t':=s.toks) (ws:=[z,TO,i1,i2]) (fun b o hb e=>by
   simp only[List.mem_cons,List.not_mem_nil,or_false,not_or] at hb
   exact kp b o hb.1 hb.2.1 hb.2.2.1 hb.2.2.2 e) fun b hb=>hf b (by
   simp only[List.mem_cons,List.not_mem_nil,or_false] at hb ⊢
   rcases hb with e | e | e | e<;>simp [e])
 self:=fun _ _ _ _ _ st h=>wpAny_pyIter_zip st.1 h
end L2
namespace L2
open PySem PySem.Spec PyProof.Rows PySem.Builtin PySem.Builtin.Str
def ent(w:World)(r:Str×Tok×Value):DictEntry:=⟨PyData.keyHash w.params r.1,.str r.1 r.2.1,r.2.2⟩
structure zo(K:W.Frag)(w:World)(d:Addr)(rows:List (Str×Tok×Value)):Prop where
 at_:∃ (es:Array DictEntry) (ep:Nat),K.lookup d=some { cls:=.type "dict",data:=.dict es ep }/\es=(rows.map (ent w)).toArray
 ns:(d == sysModules)=false
def oQ(rows:List (Str×Tok×Value))(x:Str):Option Value:=(rows.find? fun r=>decide (r.1=x)).map (·.2.2)
theorem OS(P:Program)(w:World)(q:Key)(r:Str×Tok×Value):(bW P w).is q (ent w r).key=decide (q=.inr r.1):=by
 cases q with
 | inl i=>exact(decide_eq_false (fun z=>nomatch z)).symm
 | inr x =>
  show Value.isStrOf x (.str r.1 r.2.1)=_
  rw[F']
  by_cases e:x=r.1
  ·rw[decide_eq_true e,e]
   exact pW r.1 r.2.1
  ·rw[decide_eq_false e]
   cases h:Value.isStrOf x (.str r.1 r.2.1) with
   | false=>rfl
   | true =>
    obtain⟨t,e'⟩:=Value.isStrOf_shape h
    injection e' with e1 _
    exact absurd e1.symm e
theorem zo.map{K:W.Frag}{P:Program}{w:World}{d:Addr}{rows:List (Str×Tok×Value)}{h:Heap}(k:zo K w d rows)(X:K.In h):h.MapOf (bW P w) d (fun q=>match q with | .inr x=>oQ rows x | .inl _=>none):=by
 obtain⟨es,ep,hl,rfl⟩:=k.at_
 refine⟨_,_,ep,X d _ hl,⟨rfl,rfl,rfl⟩,rfl,fun e he=>?_,fun q=>?_⟩
 ·obtain⟨r,_,rfl⟩:=List.mem_map.mp (List.mem_toArray.mp he)
  exact⟨.inr r.1,pW r.1 r.2.1,rfl⟩
 ·unfold findBy
  rw[List.find?_toArray]
  clear hl k
  induction rows with
  | nil=>cases q<;>rfl
  | cons r rs ih =>
   rw[List.map_cons,List.find?_cons,OS]
   by_cases e:q=.inr r.1
   ·rw[decide_eq_true e,e]
    show some r.2.2=oQ (r::rs) r.1
    unfold oQ
    rw[List.find?_cons,decide_eq_true rfl]
    rfl
   ·rw[decide_eq_false e]
    refine ih.trans ?_
    cases q with
    | inl i=>rfl
    | inr x =>
     show oQ rs x=oQ (r::rs) x
     unfold oQ
     rw[List.find?_cons,decide_eq_false fun z=>e (by rw[z])]
section
variable{X:Cx}{o i:Expr}{pos:Pos}{td ty:TE}
def TC(K:W.Frag)(w:World)(td ty:TE):TE:=fun σ H Q=>td σ H fun x H1=>ty σ H1 fun y H2=>∃ d rows z u v,x=.ref d/\zo K w d rows/\y=.str z/\oQ rows z=some u/\RelV v u/\Q v H2
def Lh(K:W.Frag)(w:World)(ty td:TE):TE:=fun σ H Q=>ty σ H fun y H1=>td σ H1 fun x H2=>∃ d rows z,x=.ref d/\zo K w d rows/\y=.str z/\Q (.bl (!(oQ rows z).isSome)) H2
theorem Li(ho:PE X o td)(hi:PE X i ty)(hs:Oh i):PE X (.Subscript o i pos) (TC X.K X.w td ty):=by
 intro pins s σ H Q I h
 refine De PySem.F.slot_dict_getitem.lookup hs (bg (ho pins s σ H _ I h) fun u s1 ⟨x,H1,I1,rx,q1⟩=>bg (hi pins s1 σ H1 _ I1 q1) fun iv s2 ⟨y,H2,I2,ry,d,rows,z,uu,v,ex,kd,ey,hk,rv,q2⟩=>?_)
 subst ex ey
 obtain rfl:u=Value.ref d:=rx
 obtain⟨t,rfl⟩:=ry
 have M:=kd.map (P:=X.prog) I2.jI
 obtain⟨es,ep,hl,_⟩:=kd.at_
 exact⟨⟨_,I2.jI d _ hl,rfl⟩,wpAny_getItem_of (k:=Sum.inr z) (kT _ _ _ _) M hk ⟨v,H2,I2.tok _,rv,q2⟩⟩
theorem EF(hi:PE X i ty)(ho:PE X o td):PC X .NotIn i o (Lh X.K X.w ty td):=by
 intro pins s σ H Q I h
 refine bg (hi pins s σ H _ I h) fun iv s1 ⟨y,H1,I1,ry,q1⟩=>bg (ho pins s1 σ H1 _ I1 q1) fun u s2 ⟨x,H2,I2,rx,d,rows,z,ex,kd,ey,q2⟩=>?_
 subst ex ey
 obtain rfl:u=Value.ref d:=rx
 obtain⟨t,rfl⟩:=ry
 exact wpAny_notIn_of (k:=Sum.inr z) (kT _ _ _ _) kd.ns (kd.map (P:=X.prog) I2.jI) ⟨.bl _,H2,I2.tok _,rfl,q2⟩
end
def xy(c:Nat):List Nat->List (List Nat)
 | []=>[[]]
 | a::r=>if a=c then []::xy c r else (match xy c r with | h::t=>(a::h)::t | []=>[[a]])
theorem zp(c:Nat):∀ l,c∉l->xy c l=[l]
 | [],_=>rfl
 | a::r,h=>by
  have h1:a≠c:=fun e=>h (by rw[e];exact List.mem_cons_self)
  unfold xy
  rw[if_neg h1,zp c r fun z=>h (List.mem_cons_of_mem _ z)]
def jn(c:Nat):List (List Nat)->List Nat
 | []=>[]
 | [a]=>a
 | a::b::r=>a++c::jn c (b::r)
theorem Dq(c:Nat):∀ (a r:List Nat),c∉a->xy c (a++c::r)=a::xy c r
 | [],r,_=>by
  show xy c (c::r)=_
  rw[xy,if_pos rfl]
 | x::a,r,h=>by
  have h1:x≠c:=fun e=>h (by rw[e];exact List.mem_cons_self)
  show xy c (x::(a++c::r))=_
  rw[xy]
  rw[if_neg h1,Dq c a r fun z=>h (List.mem_cons_of_mem _ z)]
theorem Hz(c:Nat):∀ (ws:List (List Nat)),ws≠[]->(∀ a∈ws,c∉a)->xy c (jn c ws)=ws
 | [],h,_=>absurd rfl h
 | [a],_,h=>zp c a (h a List.mem_cons_self)
 | a::b::r,_,h=>by
  show xy c (a++c::jn c (b::r))=_
  rw[Dq c a _ (h a List.mem_cons_self),Hz c (b::r) (by simp) fun x hx=>h x (List.mem_cons_of_mem _ hx)]
def one(c:Nat):Str:=⟨#[c]⟩
theorem xA(x:Str)(c:Nat):∀ (m a:Nat) (st:Array Nat×Nat),a+m=x.length+1->st.1.size<=a->st.2<=a ->
  (forIn (List.range' a m) st (StrLaws.occBody x (one c) x.length (x.length+1))).run.fst.toList=st.1.toList++(List.range' a m).filter fun i=>decide (x.cps.toList[i]?=some c)
 | 0,a,st,_,_,_=>by simp
 | m+1,a,st,h,h1,h2=>by
  rw[List.range'_succ,List.forIn_cons,List.filter_cons]
  unfold StrLaws.occBody
  by_cases e:x.cps.toList[a]?=some c
  ·have hc:=(StrLaws.subAt_one x c a).mpr e
   rw[if_pos (⟨⟨⟨by omega,h2⟩,hc.1⟩,hc.2⟩:((st.fst.size<x.length+1/\st.snd<=a)/\a+(one c).length<=x.length)/\subAt x (one c) a=true),decide_eq_true e]
   have ih:=xA x c m (a+1) (st.1.push a,a+(one c).length) (by omega) (by simp;omega) (Nat.le_refl _)
   refine Eq.trans ih ?_
   simp
  ·rw[if_neg (fun hc=>e ((StrLaws.subAt_one x c a).mp ⟨hc.1.2,hc.2⟩)),decide_eq_false e]
   have ih:=xA x c m (a+1) st (by omega) (by omega) (by omega)
   refine Eq.trans ih ?_
   simp
theorem zq(x:Str){a b:Nat}{v:Nat}(h:x.cps.toList[a]?=some v)(hab:a<b):(strSub x a b).cps.toList=v::(strSub x (a+1) b).cps.toList:=by
 rw[StrLaws.strSub_toList,StrLaws.strSub_toList]
 obtain⟨hl,e⟩:=List.getElem?_eq_some_iff.mp h
 rw[List.drop_eq_getElem_cons hl,e,show b - a=(b - (a+1))+1 by omega,List.take_succ_cons]
def cps(x:Str):List Nat:=x.cps.toList
theorem EG(x:Str)(c:Nat):∀ (m a:Nat),a+m=x.length->(StrLaws.partsFrom x 1 a ((List.range' a (m+1)).filter fun i=>decide (x.cps.toList[i]?=some c))).map cps=xy c (x.cps.toList.drop a):=by
 have hL:x.cps.toList.length=x.length:=by unfold Str.length;simp
 intro m
 induction m with
 | zero =>
  intro a h
  have hn:x.cps.toList[a]?=none:=List.getElem?_eq_none (by omega)
  rw[List.range'_succ,List.filter_cons,decide_eq_false (by rw[hn];intro z;cases z),List.drop_of_length_le (by omega)]
  show[cps (strSub x a x.length)]=[[]]
  unfold cps
  rw[StrLaws.strSub_toList,List.drop_of_length_le (by omega),List.take_nil]
 | succ m ih =>
  intro a h
  have c_:a<x.cps.toList.length:=by omega
  have ha:x.cps.toList[a]?=some x.cps.toList[a]:=List.getElem?_eq_getElem c_
  have ih':=ih (a+1) (by omega)
  rw[List.range'_succ,List.filter_cons,List.drop_eq_getElem_cons c_]
  by_cases e:x.cps.toList[a]=c
  ·rw[decide_eq_true (by rw[ha,e]),if_pos rfl]
   show cps (strSub x a a)::(StrLaws.partsFrom x 1 (a+1) _).map cps=_
   rw[ih',xy,if_pos e]
   congr 1
   unfold cps
   rw[StrLaws.strSub_toList,Nat.sub_self,List.take_zero]
  ·rw[decide_eq_false (by rw[ha];intro z;exact e (Option.some.inj z)),if_neg (by decide),xy,if_neg e,<- ih']
   have big:∀ i∈(List.range' (a+1) (m+1)).filter fun i=>decide (x.cps.toList[i]?=some c),a<i:=fun i hi=>by
    have:=(List.mem_range'_1.mp (List.mem_filter.mp hi).1).1
    omega
   cases hc:(List.range' (a+1) (m+1)).filter fun i=>decide (x.cps.toList[i]?=some c) with
   | nil =>
    show[cps (strSub x a x.length)]=_
    show _=(x.cps.toList[a]::cps (strSub x (a+1) x.length))::[]
    unfold cps
    rw[zq x ha (by omega)]
   | cons p q =>
    have hp:=big p (by rw[hc];exact List.mem_cons_self)
    show cps (strSub x a p)::_=(x.cps.toList[a]::cps (strSub x (a+1) p))::_
    unfold cps
    rw[zq x ha hp]
theorem HD{c:Nat}(h:c<256):PySem.Builtin.Str.strKind (one c)=1:=by
 unfold PySem.Builtin.Str.strKind one
 rw[if_pos (by simp [h])]
theorem HE(x:Str):1<=PySem.Builtin.Str.strKind x:=by
 unfold PySem.Builtin.Str.strKind
 split
 ·exact Nat.le_refl _
 ·split<;>decide
theorem wy(x:Str){c:Nat}(h:c<256):(Txt.split x (one c)).map cps=xy c x.cps.toList:=by
 have hL:x.cps.toList.length=x.length:=by unfold Str.length;simp
 have key:(partsBetween x (occurrences x (one c) 0 x.length (x.length+1)) (one c).length).map cps=xy c x.cps.toList:=by
  rw[StrLaws.partsBetween_eq,StrLaws.occ_eq]
  have:=xA x c (x.length+1) 0 (#[],0) (by omega) (by simp) (Nat.le_refl _)
  rw[show x.length+1 - 0=x.length+1 from rfl,this]
  have p:=EG x c x.length 0 (by omega)
  rw[show(one c).length=1 from rfl]
  simpa using p
 unfold Txt.split
 split
 ·rename_i hc
  rcases Bool.or_eq_true_iff.mp hc with z | z
  ·have z':x.length<1:=of_decide_eq_true z
   have e:x.cps.toList=[]:=List.length_eq_zero_iff.mp (by omega)
   show[x.cps.toList]=_
   rw[e]
   rfl
  ·have z':=of_decide_eq_true z
   rw[HD h] at z'
   have:=HE x
   omega
 ·split
  ·rename_i he
   have OE:occurrences x (one c) 0 x.length (x.length+1)=[]:=List.isEmpty_iff.mp he
   rw[OE] at key
   have e:partsBetween x [] (one c).length=[x]:=by
    rw[StrLaws.partsBetween_eq]
    show[strSub x 0 x.length]=[x]
    rw[StrLaws.sub_whole]
   rw[e] at key
   exact key
  ·exact key
section
variable{X:Cx}
def OT:V->List V->Hp->VK->Prop:=fun x vs H Q=>∃ z y,x=.str z/\vs=[.str y]/\(y.length == 0)=false/\z.length+2<=sizeLine/\∀ D,H D=none->Q (.ref D) (upd H D (.lst ((Txt.split z y).map V.str)))
theorem wz:∀ (l:List (Str×Tok)),Vals ((l.map (·.1)).map V.str) (strValues l)
 | []=>.nil
 | p::r=>.cons ⟨p.2,rfl⟩ (wz r)
theorem ue:W9 X "str.split" OT:=by
 intro pins s σ H x xs v us Q I rx r h
 obtain⟨z,y,rfl,rfl,hy,hz,q⟩:=h
 obtain⟨t,rfl⟩:=rx
 obtain⟨u,rfl,ru⟩:=Vals.one r
 obtain⟨t',rfl⟩:=ru
 have put:∀ (l:List (Str×Tok)) (k:Nat),l.map (·.1)=Txt.split z y->EP X pins σ Q (.ref s.heap.objs.size) { s with heap:=s.heap.push { cls:=.type "list",data:=.seq (strValues l).toArray },toks:=k }:=fun l k e=>by
  have hv:Vals ((Txt.split z y).map V.str) (strValues l):=by
   rw[<- e]
   exact wz l
  exact⟨.ref s.heap.objs.size,_,I.GZ hv (by rw[List.length_map];exact Nat.le_trans (PyProof.Rows.split_le z y) (by omega)),rfl,q _ I.fresh⟩
 have Xi:(partsBetween z (occurrences z y 0 z.length (z.length+1)) y.length).length<=sizeLine:=by
  rw[length_partsBetween]
  have:=StrLaws.occ_length_le z y 0 z.length (z.length+1)
  omega
 by_cases c1:(decide (z.length<y.length)||decide (PySem.Builtin.Str.strKind z<PySem.Builtin.Str.strKind y))=true
 ·refine call_meets F.slot_str_split (typeIs_str _ _ _) F.entry_str_split (F.args_str_split_2 _ _) (meets_str_split_cannot_occur z y t t' c1) ?_
  refine put [(z,t)] s.toks ?_
  unfold Txt.split
  rw[if_pos c1]
  rfl
 ·have TF:=eq_false_of_ne_true c1
  by_cases c2:(occurrences z y 0 z.length (z.length+1)).isEmpty=true
  ·refine call_meets F.slot_str_split (typeIs_str _ _ _) F.entry_str_split (F.args_str_split_2 _ _) (meets_str_split_not_found z y t t' TF hy c2) ?_
   refine put [(z,t)] s.toks ?_
   unfold Txt.split
   rw[if_neg c1,if_pos c2]
   rfl
  ·refine call_meets F.slot_str_split (typeIs_str _ _ _) F.entry_str_split (F.args_str_split_2 _ _) (meets_str_split_sep z y t t' TF hy (eq_false_of_ne_true c2) (by omega) Xi) ?_
   have:=put (numbered s.toks (partsBetween z (occurrences z y 0 z.length (z.length+1)) y.length)) (s.toks+(partsBetween z (occurrences z y 0 z.length (z.length+1)) y.length).length) (by
    rw[numbered_texts]
    unfold Txt.split
    rw[if_neg c1,if_neg c2])
   rw[<- strsFrom_eq] at this
   exact this
end
abbrev zA(h:Heap)(l:Addr):Heap:=h.push { cls:=.type "list_iterator",data:=.fields #[.ref l,.int 0 0] }
abbrev zB(h:Heap)(l t:Addr):Heap:=(zA h l).push { cls:=.type "tuple_iterator",data:=.fields #[.ref t,.int 0 0] }
abbrev zC(h:Heap)(l t:Addr):Heap:=(zB h l t).push { cls:=.type "tuple",data:=.seq #[.ref h.objs.size,.ref (zA h l).objs.size] }
abbrev zD(h:Heap)(l t:Addr):Heap:=(zC h l t).push { cls:=.type "tuple",data:=.seq #[.none,.none] }
abbrev zE(h:Heap)(l t:Addr):Heap:=(zD h l t).push { cls:=.type "zip",data:=.fields #[.none,.bool false,.bool false,.ref (zB h l t).objs.size,.ref (zC h l t).objs.size] }
theorem Bl{h:Heap}{t:Addr}{ys:Array Value}(i:h.IsTuple t ys)(o:Obj):(h.push o).IsTuple t ys:=by
 obtain⟨u,e,r⟩:=i
 exact⟨u,Heap.get?_push_of_some _ e,r⟩
theorem HF(l t:Addr)(xs ys:Array Value):Meets (Builtin.«zip.__new__» ⟨[.type "zip",.ref l,.ref t],[]⟩) (fun _ R s=>s.heap.IsList l xs/\s.heap.IsTuple t ys/\R (.ok (.ret (.ref (zD s.heap l t).objs.size))) { s with heap:=zE s.heap l t }) :=
 .of_wp fun prog w A R s g=>by
  obtain⟨hp,gn,dr,tk,os⟩:=s
  obtain⟨i1,i2,g⟩:=g
  have sub:=sub_zip
  have j1:Heap.IsList (Shared.heap ⟨hp,gn,dr,tk,os⟩) l xs:=i1
  have j2:Heap.IsTuple (Shared.heap ⟨hp.push { cls:=.type "list_iterator",data:=.fields #[.ref l,.int 0 0] },gn,dr,tk,os⟩) t ys:=Bl i2 _
  wp_walk using wpAny_pyIter_list j1,wpAny_pyIter_tuple j2
  exact⟨_,rfl,g⟩
section
variable{prog:Program}{w:World}{A:Around}{E:Value->Shared->Prop}{s:Shared}
theorem Bm{l t:Addr}{xs ys:Array Value}{Q:Value->Shared->Prop}(i1:s.heap.IsList l xs)(i2:s.heap.IsTuple t ys)
  (g:∀ h',IsZip h' (s.heap.objs.size+4) (s.heap.objs.size+2) (s.heap.objs.size+3) .none->IsPair h' (s.heap.objs.size+2) (.ref s.heap.objs.size) (.ref (s.heap.objs.size+1)) ->
   IsPair h' (s.heap.objs.size+3) .none .none->h'.IsListIter s.heap.objs.size l 0->h'.IsTupleIter (s.heap.objs.size+1) t 0 ->
   (∀ c o,s.heap.get? c=some o->h'.get? c=some o)->Q (.ref (s.heap.objs.size+4)) { s with heap:=h' }):wpAny (model prog w) A (call (.type "zip") [.ref l,.ref t]) Q E s:=by
 refine callType_new F.called_zip (by decide) (F.typeCall_zip_2 _ _) (F.newCall_zip_2 _ _) (fun obj=>F.args_object_init_3 obj _ _) F.entry_zip_new (HF l t xs ys) ⟨i1,i2,?_⟩
 have a1:(zA s.heap l).objs.size=s.heap.objs.size+1:=Heap.size_push ..
 have a2:(zB s.heap l t).objs.size=s.heap.objs.size+2:=by rw[Heap.size_push,a1]
 have a3:(zC s.heap l t).objs.size=s.heap.objs.size+3:=by rw[Heap.size_push,a2]
 have a4:(zD s.heap l t).objs.size=s.heap.objs.size+4:=by rw[Heap.size_push,a3]
 have up:∀ {h:Heap} {c:Addr} {o o':Obj},h.get? c=some o->(h.push o').get? c=some o:=fun e=>Heap.get?_push_of_some _ e
 have b5:(zE s.heap l t).get? (zD s.heap l t).objs.size=some _:=Heap.get?_push_size _ rfl
 have b4:(zE s.heap l t).get? (zC s.heap l t).objs.size=some _:=up (Heap.get?_push_size _ rfl)
 have b3:(zE s.heap l t).get? (zB s.heap l t).objs.size=some _:=up (up (Heap.get?_push_size _ rfl))
 have b2:(zE s.heap l t).get? (zA s.heap l).objs.size=some _:=up (up (up (Heap.get?_push_size _ rfl)))
 have b1:(zE s.heap l t).get? s.heap.objs.size=some _:=up (up (up (up (Heap.get?_push_size _ rfl))))
 rw[a2,a3,a4] at b5
 rw[a3] at b4
 rw[a1,a2] at b3
 rw[a1] at b2
 show _/\_
 rw[a4]
 exact⟨⟨_,b5,rfl⟩,g _ b5 b3 b4 ⟨_,b1,rfl,rfl⟩ ⟨_,b2,rfl,rfl⟩ fun c o e=>up (up (up (up (up e))))⟩
end
theorem EH:∀ n l t:Nat,l<n->t<n->ZipApart (n+4) (n+2) (n+3) n (n+1) l t:=fun n l t h1 h2=>by
 constructor<;>(intro e;exact absurd (show(_:Nat)=_ from e) (by omega))
theorem Lj:∀ n b:Nat,b∈[n+4,n+2,n+3,n,n+1]->n<=b:=fun n b h=>by
 simp only[List.mem_cons,List.not_mem_nil,or_false] at h
 omega
theorem boot_zip:bootBuiltins "zip" = some (.type "zip"):=by left
section
variable{X:Cx}
def Yd(K:W.Frag)(ta:TA):TI:=fun σ H R=>ta σ H fun vs H1=>∃ l t xs ys,vs=[.ref l,.ref t]/\bx K H1 l xs/\bV K H1 t ys/\R (Tz K l t) H1
theorem OU{elts:List Expr}{kx:Nat}{px:Pos}{a b:Expr}{ta:TA}{p pos:Pos}(hg:Gl X "zip")(hm:X.mg "zip" = none)(ha:PA X [a,b] ta)(hs:starEach [a,b] X.env=[(false,eval a X.env),(false,eval b X.env)]:=by rfl)(F3:starEach [b] X.env=[(false,eval b X.env)]:=by rfl) :
  PI X (.Tuple elts kx px) (.Call (.Name "zip" p) [a,b] [] pos) (Yd X.K ta):=by
 intro pins s σ H R I h
 refine Call_ (kW I hg hm boot_zip (PyProof.Rows.callWith_type1 (bg (ha pos pins s σ H _ I h) fun us s1 ⟨vs,H1,I1,r1,q1⟩=>?_) (by rw[hs,F3]) (by rw[F3];rfl)))
 obtain⟨l,t,xs,ys,e,sx,sy,q⟩:=q1
 subst e
 cases r1 with
 | cons r rr =>
  cases rr with
  | cons r' rr =>
   cases rr
   cases r
   cases r'
   obtain⟨its,rv,p1,hz⟩:=I1.list sx
   obtain⟨TB,Lg,p2,RN⟩:=I1.tuple sy
   refine Bm p1.isList p2 fun h' g1 g2 g3 g4 g5 kp=>?_
   have zl:l<s1.heap.objs.size:=by obtain⟨o,e,_⟩:=p1.isList;exact Heap.lt_size e
   have zt:t<s1.heap.objs.size:=by obtain⟨o,e,_⟩:=p2;exact Heap.lt_size e
   refine wpAny_pyIter_zip g1 ?_
   refine⟨_,[s1.heap.objs.size+4,s1.heap.objs.size+2,s1.heap.objs.size+3,s1.heap.objs.size,s1.heap.objs.size+1],_,Tz X.K l t,H1,rfl,I1.kept (t':=s1.toks) kp,Hy (z:=s1.heap.objs.size+4) (TI:=s1.heap.objs.size+2) (TO:=s1.heap.objs.size+3) (i1:=s1.heap.objs.size) (i2:=s1.heap.objs.size+1) ?_,⟨g1,g2,⟨_,_,g3⟩,g4,g5⟩,fun b hb=>?_,q⟩
   ·exact EH _ _ _ zl zt
   ·have Lb:s1.heap.objs.size<=b:=Lj _ _ hb
    exact I1.qa Lb (I1.a8.fresh Lb)
theorem EI:g9 X (.type "int") (fun xs H Q=>∃ z n,xs=[.str z]/\PySem.intText? z=some n/\z.length<=640/\Q (.int n) H):=by
 intro pins s σ H xs us Q I r h
 obtain⟨z,n,rfl,hn,hz,q⟩:=h
 obtain⟨u,rfl,t,rfl⟩:=vals1 r
 exact W.KIN.call_text hn hz ⟨.int n,H,I.tok _,⟨_,rfl⟩,q⟩
end
theorem xB{x y:Str}(h:cps x=cps y):x=y:=by
 apply Str.ext'
 exact Array.toList_inj.mp h
theorem xC(x y:Str):cps (x++y)=cps x++cps y:=by
 show(x.cps++y.cps).toList=_
 rw[Array.toList_append]
 rfl
theorem uf(c:Nat):∀ ys:List Str,cps (Str.join (one c) ys)=jn c (ys.map cps)
 | []=>rfl
 | [x]=>rfl
 | x::y::r=>by
  show cps (x++one c++Str.join (one c) (y::r))=cps x++c::jn c ((y::r).map cps)
  rw[xC,xC,uf c (y::r),List.append_assoc]
  rfl
theorem Bn{c:Nat}(hc:c<256)(ys:List Str)(h0:ys≠[])(h:∀ y∈ys,c∉cps y):Txt.split (Str.join (one c) ys) (one c)=ys:=by
 have e:=wy (Str.join (one c) ys) hc
 rw[show(Str.join (one c) ys).cps.toList=cps (Str.join (one c) ys) from rfl,uf,Hz c _ (by simpa using h0) (by simpa using h)] at e
 exact List.map_inj_right (fun a b=>xB) |>.mp e
def Bo:Str := "abcdefghijklmnopqrstuvwxyz"
def qi:Str := "0123456789"
def xD(c:Nat):Bool:=decide (c∈Bo.cps.toList)||decide (c∈qi.cps.toList)
def isNm(z:Str):Bool:=if z = "" \/ (12:Int)<z.length then false else decide (z.cps.toList.headD 0∈Bo.cps.toList)&&z.cps.toList.all xD
def rE(z:Str):Bool:=decide (z.length<=9)&&z.cps.toList.all (fun c=>decide (c∈qi.cps.toList))&&!decide (z = "")&&(decide (z = "0")||!decide (z.cps.toList.headD 0=48))
def TK(z:Str):Int:=((PySem.NumText.digitsVal z.cps.toList:Nat):Int)
def qZ(z s:Str):Option V:=if s = "number" then (if rE z=true then some (.int (TK z)) else none) else (if isNm z=true then some (.str z) else none)
theorem OV{c:Nat}(h:c∈qi.cps.toList):48<=c/\c<=57:=by
 have e:qi.cps.toList=[48,49,50,51,52,53,54,55,56,57]:=by left
 rw[e] at h
 simp only[List.mem_cons,List.not_mem_nil,or_false] at h
 omega
theorem EJ{K:W.Frag}{l t D:Addr}{xs ys:List V}{g:TG}{tt:TT}{te:TE}{σ:St}{H1:Hp}{Q:Hp->Prop}(f:V->V->V)(hx:bx K H1 l xs)(hy:bV K H1 t ys)(hl:xs.length=ys.length)(hD:H1 D=none)(hz:xs.length<=sizeLine)
  (hg:∀ T x y (os:St) (H:Hp) (R:St->Hp->Prop),os.length=2->H T=some (.tup [x,y])->R (some x::some y::σ) H->g (.ref T) (os++σ) H R)
  (ht:∀ (s:St) (H:Hp) (R:Bool->Hp->Prop),R true H->tt s H R)
  (he:∀ (i:Nat) x y,xs[i]?=some x->ys[i]?=some y->∀ (H:Hp) (R:VK),ak H1 H->(∀ H',ak H H'->R (f x y) H')->te (some x::some y::σ) H R)
  (hd:∀ H2,ak H1 H2->H2 D=some (.lst (List.zipWith f xs ys))->Q H2):qY 2 g tt te D (Tz K l t) σ H1 Q:=by
 refine⟨fun i m zs H=>m=xs.length - i/\i<=xs.length/\zs=List.zipWith f (xs.take i) (ys.take i)/\ak H1 H/\H D=some (.lst zs),⟨xs.length,by simp,Nat.zero_le _,by simp,(ak.refl _).put hD,af⟩,?_⟩
 rintro i m zs H ⟨rfl,hi,rfl,sm,hH⟩
 by_cases c_:i<xs.length
 ·have gx:xs[i]?=some xs[i]:=List.getElem?_eq_getElem c_
  have gy:ys[i]?=some (ys[i]'(by omega)):=List.getElem?_eq_getElem (by omega)
  refine .inr ⟨⟨xs,ys,sm.seq hx,bV.same sm hy,c_,by omega⟩,fun os x H' ol yl=>?_⟩
  obtain⟨T,x1,y1,rfl,hT,rfl,e1,e2⟩:=yl
  have ON:=e1 xs (sm.seq hx)
  have TL:=e2 ys (bV.same sm hy)
  refine hg T x1 y1 os _ _ ol af ⟨⟨[some x1,some y1],rfl,rfl⟩,ht _ _ _ (cH ?_)⟩
  have s2:ak H (upd H T (.tup [x1,y1])):=ak.new hT
  refine he i x1 y1 ON TL _ _ (sm.trans s2) fun H3 s3=>⟨s3 _ _ (s2 _ _ hH),?_,xs.length - (i+1),by omega,rfl,c_,?_,(sm.trans (s2.trans s3)).put hD,af⟩
  ·rw[List.length_zipWith,List.length_take,List.length_take]
   omega
  ·rw[List.take_add_one,ON,List.take_add_one,TL,List.zipWith_append (by rw[List.length_take,List.length_take,hl])]
   rfl
 ·have e:i=xs.length:=by omega
  subst e
  refine .inl ⟨⟨xs,ys,sm.seq hx,bV.same sm hy,.inl (Nat.le_refl _)⟩,hd H sm ?_⟩
  rw[hH,List.take_length,hl,List.take_length]
end L2
namespace L2
open PySem PySem.Spec PyProof.Rows
section
variable{X:Cx}{scope:Scope}{elt iter:Expr}{ifs:List Expr}{pos:Pos}{te:TE}{tt:TT}{wi:TI}{x1 x2:Str}{p1 p2 pt:Pos}{kt:Nat}
abbrev g2(K:W.Frag):TG:=Sm K 2 (Gj (jm 0) (Gj (jm 1) Sl))
theorem HG(hc:X.calm=true)(S:rD [x1,x2] scope X.env)(hN:(F6 [x1,x2] X.N).Nodup)(C:Addr)(s:Shared)(H:Hp)(fp:List Addr)(pins:List (Addr×Obj)):PG (aU X scope [x1,x2] C s H fp pins) (.Tuple [.Name x1 p1,.Name x2 p2] kt pt) (g2 X.K):=by
 have l1:(relabel scope X.env).names.lookup x1=some .local:=PySem.lookup_relabel_local (env:=X.env) (S.own x1 (by simp))
 have l2:(relabel scope X.env).names.lookup x2=some .local:=PySem.lookup_relabel_local (env:=X.env) (S.own x2 (by simp))
 exact nj (X:=aU X scope [x1,x2] C s H fp pins) hc (bC (bz (X:=aU X scope [x1,x2] C s H fp pins) (i:=0) hN rfl (.inl l1) (.inr l1)) (bC (bz (X:=aU X scope [x1,x2] C s H fp pins) (i:=1) hN rfl (.inl l2) (.inr l2)) j9))
theorem TM(bH:Scope)(N0:List Str)(M4:X.env.scope=bH)(M5:X.N=N0)(oH:bM [x1,x2] scope bH N0=true)(hc:X.calm=true)(hi:PI X (.Tuple [.Name x1 p1,.Name x2 p2] kt pt) iter wi)
  (gF:∀ C s H fp pins,PE (aU X scope [x1,x2] C s H fp pins) elt te) (gH:∀ C s H fp pins,yX (aU X scope [x1,x2] C s H fp pins) ifs tt)
  (hs:∀ v,foldedSetIterable iter X.env v=pure v:=by intro _;rfl) :
  PE X (.ListComp elt [⟨.Tuple [.Name x1 p1,.Name x2 p2] kt pt,iter,ifs,0⟩] scope pos) (zm 2 wi (g2 X.K) tt te) :=
 Ya [x1,x2] bH N0 M4 M5 oH hc hi (HG hc (bM.scope oH M4) (M5▸bM.nd oH)) gF gH hs
end
theorem HH{K:W.Frag}{σ:St}(T:Addr)(x y:V)(os:St)(H:Hp)(R:St->Hp->Prop)(ol:os.length=2)(hT:H T=some (.tup [x,y]))(r:R (some x::some y::σ) H):g2 K (.ref T) (os++σ) H R:=by
 match os,ol with
 | [a,b],_=>exact⟨T,[x,y],rfl,bV.of hT,rfl,x,[y],rfl,y,[],rfl,rfl,r⟩
theorem OW(xs:List V)(k:Nat):nA xs none (some ((k:Nat):Int))=xs.take k:=by
 unfold nA
 rw[HT.yR,HT.sf,List.drop_zero,Nat.sub_zero]
 by_cases h:k<=xs.length
 ·rw[Nat.min_eq_left h]
 ·rw[Nat.min_eq_right (by omega),List.take_length,List.take_of_length_le (by omega)]
theorem zr(xs:List V)(k:Nat):nA xs (some ((k:Nat):Int)) none=xs.drop k:=by
 unfold nA
 rw[HT.yR,HT.sf]
 by_cases h:k<=xs.length
 ·rw[Nat.min_eq_left h,List.take_of_length_le (by rw[List.length_drop];omega)]
 ·rw[Nat.min_eq_right (by omega),List.drop_of_length_le (Nat.le_refl _),List.drop_of_length_le (by omega),List.take_nil]
theorem oR(x:Str):(cps x).length=x.length:=by
 show x.cps.toList.length=x.cps.size
 simp
def cy(H:Hp)(ts:List Addr)(ps:List (V×V)):Prop:=Paired (fun t (q:V×V)=>H t=some (.tup [q.1,q.2])) ts ps
theorem cy.same{S:List Addr}{H H':Hp}(s:bD S H H'):∀ {ts:List Addr} {ps:List (V×V)},(∀ t∈ts,t∉S)->cy H ts ps->cy H' ts ps
 | _,_,_,.nil=>.nil
 | _,_,hn,.cons r t=>.cons (s _ _ (hn _ List.mem_cons_self) r) (cy.same s (fun t ht=>hn t (List.mem_cons_of_mem _ ht)) t)
theorem cy.snoc{H:Hp}:∀ {ts:List Addr} {ps:List (V×V)} {t:Addr} {q:V×V},cy H ts ps->H t=some (.tup [q.1,q.2])->cy H (ts++[t]) (ps++[q])
 | _,_,_,_,.nil,h=>.cons h .nil
 | _,_,_,_,.cons r t,h=>.cons r (cy.snoc t h)
theorem EL{K:W.Frag}{a D:Addr}{xs:List V}{te:TE}{σ:St}{H1:Hp}{Q:Hp->Prop}(g:V->V)(hS:bx K H1 a xs)(hD:H1 D=none)(hz:xs.length<=sizeLine)
  (he:∀ x∈xs,∀ (H:Hp) (R:VK),ak H1 H->(∀ H2 t,ak H H2->H2 t=none->R (.ref t) (upd H2 t (.tup [x,g x])))->te (some x::σ) H R)
  (hd:∀ ts H2,ak H1 H2->H2 D=some (.lst (ts.map V.ref))->(∀ t∈ts,t≠D)->cy H2 ts (xs.map fun x=>(x,g x))->Q H2):kc SV te D (Gn K a) σ H1 Q:=by
 refine Bi (fun _=>true) (fun pre ys H=>∃ ts:List Addr,ys=ts.map V.ref/\(∀ t∈ts,t≠D)/\cy H ts (pre.map fun x=>(x,g x))) hS hD hz ⟨[],rfl,(fun t h=>nomatch h),.nil⟩
  (fun pre ys H2 H3 sb ⟨ts,e,hn,ht⟩=>⟨ts,e,hn,ht.same sb fun t h z=>hn t h (List.mem_singleton.mp z)⟩) (fun x hx H R sm r=>r H (ak.refl H)) (fun pre x ys hx _ H R sm hDl ⟨ts,e,hn,ht⟩ r=>?_) (fun _ _ _ _ _ h=>nomatch h) (fun ys H2 sm hl ⟨ts,e,hn,ht⟩=>hd ts H2 sm (by rw[hl,e]) hn ht)
 refine he x hx H _ sm fun H2 t s2 nt=>?_
 have Wc:=s2 _ _ hDl
 have tD:t≠D:=(ah Wc nt).symm
 refine r (.ref t) _ (s2.trans (ak.new nt)) ⟨ts++[t],by rw[e,List.map_append];rfl,fun u hu=>?_,?_⟩
 ·rcases List.mem_append.mp hu with z | z
  ·exact hn u z
  ·rw[List.mem_singleton.mp z];exact tD
 ·rw[List.map_append]
  exact cy.snoc (ht.same (bD.of (S:=[]) (s2.trans (ak.new nt))) fun _ _ z=>nomatch z) af
theorem cy.get{H:Hp}{ts:List Addr}{ps:List (V×V)}(t:cy H ts ps){i:Nat}{a:Addr}(h:ts[i]?=some a):∃ q,ps[i]?=some q/\H a=some (.tup [q.1,q.2]):=qX t h
theorem cy.len{H:Hp}{ts:List Addr}{ps:List (V×V)}(t:cy H ts ps):ts.length=ps.length:=Paired.length t
theorem zu{e:Expr}{es:List Expr}{env:Env}(h:∀ a b,e≠.Starred a b):starEach (e::es) env=(false,eval e env)::starEach es env:=by
 cases e<;>first | rfl | exact absurd rfl (h _ _)
theorem eA{X:Cx}{e:Expr}{es:List Expr}{te:TE}{t:TA}(ha:PE X e te)(hr:PA X es t)(h:∀ a b,e≠.Starred a b:=by intro a b z;cases z):PA X (e::es) (tQ te t):=U ha hr (zu h)
theorem lZ{X:Cx}{p:Pos}:PE X (.List [] p) (Sw vk):=cL ae
theorem Bp{M:Model}{A:Around}{E:Value->Shared->Prop}{s:Shared}{env:Env}{L e T:Addr}{oe oT:Obj}{vs ts:Array Value}{Q:Unit->Shared->Prop}(hf:env.frame=some L)
  (he:s.heap.get? e=some oe) (hd:oe.data=.fields vs) (h1:vs[1]?=some (.ref T)) (hT:s.heap.get? T=some oT) (sq:oT.data=.fields ts) (h3:ts[3]?=some (rawInt L)) (Em:T≠e)
  (h:∀ h',rB [] [T] s.heap h'->h'.get? e=some oe->h'.get? T=some (oT.mapFields (·.setIfInBounds 3 .none))->Q () { s with heap:=h' }) :
  wpAny M A (noteFrame (.ref e) env) (fun _ s'=>wpAny M A (setFlight (.ref e) none) Q E s') E s:=by
 have n0:(Value.ref T != Value.none)=true:=by simp
 have i3:3<ts.size:=(Array.getElem?_eq_some_iff.mp h3).1
 unfold noteFrame
 simp only[hf]
 refine wpAny_bind (wpAny_field he hd h1 ?_)
 rw[if_pos n0]
 refine wpAny_bind (wpAny_field hT sq h3 ?_)
 rw[if_pos (show(rawInt L == rawInt L)=true from by simp)]
 refine wpAny_pure ?_
 unfold setFlight
 refine wpAny_bind (wpAny_field he hd h1 ?_)
 rw[if_pos n0]
 refine wpAny_setField hT sq i3 ?_
 have other:∀ b,b≠T->(s.heap.update T (Obj.mapFields (·.setIfInBounds 3 Value.none))).get? b=s.heap.get? b:=fun b hb=>Heap.get?_update_other _ _ (Ne.symm hb)
 have Dj:=Heap.get?_update_self (Obj.mapFields (·.setIfInBounds 3 Value.none)) hT (Obj.isFreed_of_fields (Obj.data_mapFields sq _))
 refine h _ ⟨fun b o _ hb ho=>(other b (by simpa using hb)).trans ho,fun b o hb _=>absurd hb (by simp),fun b o ho=>?_⟩ ((other e (Ne.symm Em)).trans he) Dj
 by_cases q:b=T
 ·rw[q];exact⟨_,Dj⟩
 ·exact⟨o,(other b q).trans ho⟩
theorem zw{M:Model}{A:Around}{E:Value->Shared->Prop}{s:Shared}{base:Heap}{env:Env}{outer:List Env}{L e:Addr}{oe:Obj}{vs:Array Value}{head:Value}{xj:Bool}{Q:Unit->Shared->Prop}
  (vd:A.frames=some (env::outer)) (hl:s.heap.FunFrames base (env::outer)) (hf:env.frame=some L) (he:s.heap.get? e=some oe) (hd:oe.data=.fields vs) (hsz:1<vs.size)
  (h:∀ h' T oT ts,s.heap.objs.size<=T->T≠e->rB (ni (env::outer)) [e] s.heap h'->h'.get? e=some (oe.mapFields (·.setIfInBounds 1 (.ref T)))->h'.get? T=some oT->oT.data=.fields ts->ts[3]?=some (rawInt L)->Q () { s with heap:=h' }) :
  wpAny M A (do let a <- frameOf env;let pl <- entryPlaceOf L xj;let b <- EntryCells.newEntry head a .none (rawInt L) .none pl;setField (.ref e) 1 b) Q E s:=by
 have ne:e∉(env::outer).filterMap (·.frame):=fun hm=>kf hl hm he hd
 refine wpAny_bind (wpAny_frameOf_fun vd hl hf fun g hs=>wpAny_bind (wpAny_entryPlaceOf fun pl vm=>?_))
 unfold EntryCells.newEntry newFields
 refine wpAny_bind (wpAny_newObj_type ?_ (vm.sizeOk5 _ _ _ _ _))
 generalize hTo:({ cls:=.type "traceback",dict:=none,data:=.fields ([head,.ref L,.none,rawInt L,.none]++(if pl.isEmpty then List.replicate 6 Value.none else pl)).toArray }:Obj)=oT
 have OB:oT.data=.fields ([head,.ref L,.none,rawInt L,.none]++(if pl.isEmpty then List.replicate 6 Value.none else pl)).toArray:=by rw[<- hTo]
 have e1:g.get? e=some oe:=(hs.2.1 e ne).trans he
 have e2:=Heap.get?_push_of_some (h:=g) oT e1
 have nT:g.objs.size≠e:=Nat.ne_of_gt (Heap.lt_size e1)
 refine wpAny_setField e2 hd hsz ?_
 have e3:=Heap.get?_update_self (Obj.mapFields (·.setIfInBounds 1 (Value.ref g.objs.size))) e2 (Obj.isFreed_of_fields (Obj.data_mapFields hd _))
 have T3:=(Heap.get?_update_other (g.push oT) (Obj.mapFields (·.setIfInBounds 1 (Value.ref g.objs.size))) (Ne.symm nT)).trans (Heap.get?_push_size g (Obj.isFreed_of_fields OB))
 have keep:∀ b o,b≠e->g.get? b=some o->((g.push oT).update e (Obj.mapFields (·.setIfInBounds 1 (Value.ref g.objs.size)))).get? b=some o:=fun b o hb ho=>by
  rw[Heap.get?_update_other _ _ (Ne.symm hb)]
  exact Heap.get?_push_of_some _ ho
 refine h _ g.objs.size oT _ (by rw[hs.1];exact Nat.le_refl _) nT ⟨fun b o sj wR ho=>keep b o (by simpa using wR) ((hs.2.1 b sj).trans ho),fun b o sj ho=>?_,fun b o ho=>?_⟩ e3 T3 OB (by simp)
 ·obtain⟨sl,q⟩:=hs.2.2 b o ho
  exact⟨sl,keep b _ (fun z=>ne (z▸sj)) q⟩
 ·by_cases wR:b=e
  ·rw[wR];exact⟨_,e3⟩
  ·obtain⟨sl,q⟩:=hs.2.2 b o ho
   exact⟨_,keep b _ wR q⟩
theorem xE{e:Value}{env env':Env}(h:env'.frame=env.frame):noteFrame e env'=noteFrame e env:=by
 unfold noteFrame PySem.frameOf
 rw[h]
def Nh(h:Heap)(lo:Nat)(e:Addr)(vs:Array Value):Prop:=∃ T oT ts φ,vs[1]?=some (.ref T)/\lo<=T/\T≠e/\h.get? T=some oT/\oT.data=.fields ts/\ts[3]?=some φ
theorem wA{M:Model}{A:Around}{E:Value->Shared->Prop}{s:Shared}{base:Heap}{env:Env}{outer:List Env}{L e:Addr}{oe:Obj}{vs:Array Value}{lo:Nat}{Q:Unit->Shared->Prop}
  (vd:A.frames=some (env::outer)) (hl:s.heap.FunFrames base (env::outer)) (hf:env.frame=some L) (he:s.heap.get? e=some oe) (hd:oe.data=.fields vs) (hsz:1<vs.size) (ht:A_ s.heap lo e vs)
  (h:∀ h' T oT ts,s.heap.objs.size<=T->T≠e->rB (ni (env::outer)) (e::jk vs) s.heap h'->h'.get? e=some (oe.mapFields (·.setIfInBounds 1 (.ref T)))->h'.get? T=some oT->oT.data=.fields ts->ts[3]?=some (rawInt L)->Q () { s with heap:=h' }) :
  wpAny M A (noteFrame (.ref e) env) Q E s:=by
 unfold noteFrame
 simp only[hf]
 rcases ht with h1 | ⟨T,oT,ts,h1,Xt,Em,hT,sq,h3⟩
 ·refine wpAny_bind (wpAny_field he hd h1 ?_)
  rw[if_neg (by decide)]
  refine zw vd hl hf he hd hsz fun h' T' AE AF a1 a2 G=>h h' T' AE AF a1 a2 ⟨fun b o hb hc=>G.keep b o hb fun z=>hc ?_,G.slot,G.there⟩
  rw[List.mem_singleton.mp z]
  exact List.mem_cons_self
 ·refine wpAny_bind (wpAny_field he hd h1 ?_)
  rw[if_pos (show(Value.ref T != Value.none)=true from by simp)]
  refine wpAny_bind (wpAny_field hT sq h3 ?_)
  rw[if_neg (show ¬ ((Value.none == rawInt L)=true) from by simp [rawInt])]
  refine wpAny_bind (wpAny_setField hT sq (Array.getElem?_eq_some_iff.mp h3).1 ?_)
  have zx:∀ b,b≠T->(s.heap.update T (Obj.mapFields (·.setIfInBounds 3 Value.none))).get? b=s.heap.get? b:=fun b hb=>Heap.get?_update_other _ _ (Ne.symm hb)
  have OX:=Heap.get?_update_self (Obj.mapFields (·.setIfInBounds 3 Value.none)) hT (Obj.isFreed_of_fields (Obj.data_mapFields sq _))
  have Ye:∀ b o,s.heap.get? b=some o->(∀ vs,o.data≠.fields vs)->b≠T:=fun b o hb En q=>by
   rw[q,hT] at hb;cases hb;exact En ts sq
  refine zw (s:={ s with heap:=s.heap.update T (Obj.mapFields (·.setIfInBounds 3 Value.none)) }) vd (hl.of_keeps fun b o hb En=>⟨o,(zx b (Ye b o hb En)).trans hb,rfl⟩) hf ((zx e (Ne.symm Em)).trans he) hd hsz fun h' T' AE AF a1 a2 G a3 a4 a5 a6=>?_
  have RO:s.heap.objs.size<=T':=by
   have q:(s.heap.update T (Obj.mapFields (·.setIfInBounds 3 Value.none))).objs.size<=T':=a1
   rw[Heap.size_after_update] at q;exact q
  have TN:jk vs=[T]:=by unfold jk;rw[h1]
  refine h h' T' AE AF RO a2 ⟨fun b o sj Kb ho=>G.keep b o sj (fun z=>Kb (by rw[List.mem_singleton.mp z];exact List.mem_cons_self)) ((zx b fun z=>Kb (by rw[z,TN];exact List.mem_cons_of_mem _ List.mem_cons_self)).trans ho),fun b o sj ho=>G.slot b o sj ((zx b fun z=>kf hl (z▸sj) hT sq).trans ho),fun b o ho=>?_⟩ a3 a4 a5 a6
  by_cases Ka:b=T
  ·rw[Ka];exact G.there _ _ OX
  ·exact G.there b o ((zx b Ka).trans ho)
theorem rB.wide{fs Kp ch ch':List Addr}{h h':Heap}(g:rB fs ch h h')(h1:∀ b∈fs,b∈Kp)(h2:∀ b∈ch,b∈ch')(h3:∀ b∈Kp,b∉fs->b∉ch):rB Kp ch' h h' where
 keep:=fun b o hb hc e=>g.keep b o (fun z=>hb (h1 b z)) (fun z=>hc (h2 b z)) e
 slot:=fun b o hb e=>by
  by_cases q:b∈fs
  ·exact g.slot b o q e
  ·exact⟨o.slots,g.keep b o q (h3 b hb q) e⟩
 there:=g.there
theorem zy{M:Model}{A:Around}{E:Value->Shared->Prop}{s:Shared}{base:Heap}{env:Env}{outer:List Env}{L e:Addr}{oe:Obj}{vs:Array Value}{lo:Nat}{Q:Unit->Shared->Prop}
  (vd:A.frames=some (env::outer)) (hl:s.heap.FunFrames base (env::outer)) (hf:env.frame=some L)
  (he:s.heap.get? e=some oe) (hd:oe.data=.fields vs) (hsz:1<vs.size) (ht:Nh s.heap lo e vs) (hle:lo<=e) (wg:lo<=s.heap.objs.size)
  (h:∀ h' TQ T oT ts,rB (ni (env::outer)) (e::jk vs) s.heap h'->(h'.get? e=some oe/\TQ=vs\/h'.get? e=some (oe.mapFields (·.setIfInBounds 1 (.ref T)))/\TQ=vs.setIfInBounds 1 (.ref T))->TQ[1]?=some (.ref T)->lo<=T->(T∈jk vs\/s.heap.objs.size<=T)->T≠e->h'.get? T=some oT->oT.data=.fields ts->ts[3]?=some .none->Q () { s with heap:=h' }) :
  wpAny M A (leaving env (.ref e)) Q E s:=by
 obtain⟨T,oT,ts,φ,h1,hT0,Em,hT,sq,h3⟩:=ht
 have TN:jk vs=[T]:=by unfold jk;rw[h1]
 have i3:3<ts.size:=(Array.getElem?_eq_some_iff.mp h3).1
 refine wpAny_bind ?_
 by_cases own:φ=rawInt L
 ·subst own
  refine Bp hf he hd h1 hT sq h3 Em fun h' G g1 g2=>?_
  refine h h' vs T _ _ (G.wide (fun b z=>nomatch z) (fun b z=>by rw[List.mem_singleton.mp z,TN];simp) (fun b hb _ z=>kf hl ((List.mem_singleton.mp z)▸hb) hT sq)) (.inl ⟨g1,rfl⟩) h1 hT0 (.inl (by rw[TN];simp)) Em g2 (Obj.data_mapFields sq _) ?_
  simp [i3]
 ·unfold noteFrame
  simp only[hf]
  refine wpAny_bind (wpAny_field he hd h1 ?_)
  rw[if_pos (show(Value.ref T != Value.none)=true from by simp)]
  refine wpAny_bind (wpAny_field hT sq h3 ?_)
  rw[if_neg (show ¬ ((φ == rawInt L)=true) from fun q=>own (by simpa using q))]
  refine wpAny_bind (wpAny_setField hT sq i3 ?_)
  have zx:∀ b,b≠T->(s.heap.update T (Obj.mapFields (·.setIfInBounds 3 Value.none))).get? b=s.heap.get? b:=fun b hb=>Heap.get?_update_other _ _ (Ne.symm hb)
  have OX:=Heap.get?_update_self (Obj.mapFields (·.setIfInBounds 3 Value.none)) hT (Obj.isFreed_of_fields (Obj.data_mapFields sq _))
  have Ye:∀ b o,s.heap.get? b=some o->(∀ vs,o.data≠.fields vs)->b≠T:=fun b o hb En q=>by
   rw[q,hT] at hb;cases hb;exact En ts sq
  refine nE (s:={ s with heap:=s.heap.update T (Obj.mapFields (·.setIfInBounds 3 Value.none)) }) vd (hl.of_keeps fun b o hb En=>⟨o,(zx b (Ye b o hb En)).trans hb,rfl⟩) hf ((zx e (Ne.symm Em)).trans he) hd hsz hle
   (by show lo<=(s.heap.update T _).objs.size;rw[Heap.size_after_update];exact wg) fun h' T' AE AF a1 a2 G a3 a4 a5 a6=>?_
  have RO:s.heap.objs.size<=T':=by
   have q:(s.heap.update T (Obj.mapFields (·.setIfInBounds 3 Value.none))).objs.size<=T':=a1
   rw[Heap.size_after_update] at q;exact q
  refine h h' _ T' AE AF ⟨fun b o sj Kb ho=>G.keep b o sj (fun z=>Kb (by rw[List.mem_singleton.mp z];exact List.mem_cons_self)) ((zx b fun z=>Kb (by rw[z,TN];exact List.mem_cons_of_mem _ List.mem_cons_self)).trans ho),fun b o sj ho=>G.slot b o sj ((zx b fun z=>kf hl (z▸sj) hT sq).trans ho),fun b o ho=>?_⟩ (.inr ⟨a3,rfl⟩) (by simp [hsz]) (Nat.le_trans wg RO) (.inr RO) a2 a4 a5 a6
  by_cases Ka:b=T
  ·rw[Ka];exact G.there _ _ OX
  ·exact G.there b o ((zx b Ka).trans ho)
structure Yf(h:Heap)(lo:Nat)(H:Hp)(a C dx:Addr):Prop where
 ex:∃ vs,h.get? a=some { cls:=.ref C,dict:=some dx,data:=.fields vs }/\1<vs.size/\Nh h lo a vs/\∀ T∈jk vs,H T=none
 lo:lo<=a
 free:H a=none
 dict:∃ fs,H dx=some (.xd fs)
section
variable{P:Program}{w:World}{K:W.Frag}{mg:Str->Option Value}{base:Heap}{N:List Str}{qual:Str}{scope:Scope}{f:Addr}{cd:Value}{A:Around}{outer:List Env}{s:Shared}{H:Hp}{E:XK}
theorem zF{pins:List (Addr×Obj)}{σ:St}{H':Hp}{s':Shared}{a C dx:Addr}(I:Inv (nv (bu P w) P w K mg base N qual scope f cd A outer s H E) pins σ H' s')(fl:Yf s'.heap s.heap.objs.size H' a C dx)(hE:E (.ref C) (some dx) H') :
  (nv (bu P w) P w K mg base N qual scope f cd A outer s H E).xe (.ref a) s':=by
 obtain⟨⟨vs,h1,h2,h3,h4⟩,h5,h6,fs,h7⟩:=fl
 have tG:s'.heap.FunFrames base (envOfC qual scope s.heap.objs.size f cd::outer):=I.stack
 show wpAny (model P w) (A.deeper (envOfC qual scope s.heap.objs.size f cd)) (leaving (envOfC qual scope s.heap.objs.size f cd) (.ref a)) _ _ s'
 have hsz:s.heap.objs.size<=s'.heap.objs.size:=I.sz
 have hfs:ni (envOfC qual scope s.heap.objs.size f cd::outer)=s.heap.objs.size::ni outer:=rfl
 refine zy (lo:=s.heap.objs.size) (base:=base) I.ok.frames tG (L:=s.heap.objs.size) rfl h1 rfl h2 h3 h5 hsz fun h' TQ T oT ts G g1 g2 t0 t1 t2 g3 g4 g5=>?_
 rw[hfs] at G
 have young:∀ b∈a::jk vs,s.heap.objs.size<=b:=fun b hb=>by
  rcases List.mem_cons.mp hb with z | z
  ·rw[z];exact h5
  ·obtain⟨T',AE,AF,φ,q1,q2,_⟩:=h3
   unfold jk at z
   rw[q1] at z
   rw[List.mem_singleton.mp z];exact q2
 have OF:∀ b∈a::jk vs,H' b=none:=fun b hb=>by
  rcases List.mem_cons.mp hb with z | z
  ·rw[z];exact h6
  ·exact h4 b z
 have no:∀ {b:Addr},b∈([]:List Addr)->False:=fun q=>by simp at q
 have A3:lS P w H' h':=fun b u q=>by
  refine(I.a8 b u q).oi (fun c ob hc e=>?_) (fun _ z=>z) fun _ _ z=>z
  have Es:H' c≠none:=by
   rcases hc with z | z
   ·rw[z,q];simp
   ·rw[z];simp
  refine G.keep c ob (fun z=>?_) (fun z=>Es (OF c z)) e
  rcases List.mem_cons.mp z with y | y
  ·exact Es (y▸I.free)
  ·obtain⟨_,o',tu,_⟩:=I.ok.jH.mem (show c∈(outer.filterMap (·.frame)) from y)
   exact Es (I.base.free c o' tu (I.ok.CQ c y) (fun q=>(no q).elim))
 have obj:∃ OY,h'.get? a=some { cls:=.ref C,dict:=some dx,data:=.fields OY }/\OY=TQ/\1<OY.size:=by
  rcases g1 with ⟨q,e⟩ | ⟨q,e⟩
  ·exact⟨_,q,e.symm,h2⟩
  ·exact⟨_,q,e.symm,by simp [h2]⟩
 obtain⟨_,o1,rfl,o2⟩:=obj
 refine⟨a,C,dx,H',rfl,I.os,I.bare,⟨fun b o e n hb _=>?_,fun b o e n hb _=>?_,fun b o e n _=>?_,fun b o e _=>?_,I.base.om,I.base.pY,I.base.rz⟩,A3,⟨⟨_,o1,o2,.inr ⟨T,oT,ts,g2,t0,t2,g3,g4,g5⟩,fun T' xn=>?_⟩,h5,h6,fs,h7⟩,hE⟩
 ·have lt:=Heap.lt_size e
  refine G.keep b o (fun z=>?_) (fun z=>absurd (young b z) (Nat.not_le.mpr lt)) (I.base.keep b o e n hb (fun q=>(no q).elim))
  rcases List.mem_cons.mp z with y | y
  ·rw[y] at lt;exact Nat.lt_irrefl _ lt
  ·exact hb y
 ·obtain⟨sl,e1⟩:=I.base.slot b o e n hb (fun q=>(no q).elim)
  obtain⟨NR,e2⟩:=G.slot b _ (List.mem_cons_of_mem _ hb) e1
  exact⟨NR,e2⟩
 ·exact I.base.free b o e n (fun q=>(no q).elim)
 ·obtain⟨o',e1⟩:=I.base.there b o e (fun q=>(no q).elim)
  exact G.there b o' e1
 ·have e:T'=T:=by
   unfold jk at xn
   rw[g2] at xn
   exact List.mem_singleton.mp xn
  rw[e]
  rcases t1 with z | z
  ·exact h4 T z
  ·exact I.a8.fresh z
end
theorem Inv.gone{X:Cx}{pins:List (Addr×Obj)}{σ:St}{H:Hp}{s:Shared}{h':Heap}{ws:List Addr}(I:Inv X pins σ H s)(keep:∀ b o,b∉X.env.locals::X.fs->b∉ws->s.heap.get? b=some o->h'.get? b=some o)(slot:∀ b o,b∈X.env.locals::X.fs->s.heap.get? b=some o->∃ sl,h'.get? b=some { o with slots:=sl })(there:∀ b o,b∉ws->s.heap.get? b=some o->∃ o',h'.get? b=some o')(hf:∀ b∈ws,c6 X pins H b):Inv X pins σ H { s with heap:=h' }:=by
 have OF:∀ b,b∈X.env.locals::X.fs->H b=none:=fun b hb=>by
  rcases List.mem_cons.mp hb with z | z
  ·rw[z];exact I.free
  ·obtain⟨_,o',tu,_⟩:=I.ok.jH.mem (show b∈(X.outer.filterMap (·.frame)) from z)
   exact I.base.free b o' tu (I.ok.CQ b z) (fun q=>absurd z (I.ok.wV b q))
 refine I.step (g':=s.gens) (d':=s.drawn) (t':=s.toks) (ch:=ws) (fun b hb=>?_) (fun b o n1 n2 hc e _=>keep b o (fun z=>?_) hc e) (fun b o _ hb hc e _=>slot b o (List.mem_cons_of_mem _ hb) e) (fun _ _ _ _ n=>n)
  (fun b o hc e=>there b o hc e) (fun _ _ e=>e) (fun _ _ _ e=>e) (fun b ps e=>⟨#[],by rw[e];simp⟩) (fun m hm=>?_) (fun b u e=>?_) I.bare
 ·obtain⟨_,f1,_,f3,f4,f5⟩:=hf b hb
  exact⟨f3,f1,f4,f5⟩
 ·rcases List.mem_cons.mp z with q | q
  ·exact n1 q
  ·exact n2 q
 ·obtain⟨o,es,ep,ho,r⟩:=hm
  obtain⟨sl,q⟩:=slot _ o List.mem_cons_self ho
  exact⟨_,es,ep,q,r⟩
 ·refine(I.a8 b u e).oi (fun c v hc q=>?_) (fun _ q=>q) fun _ _ q=>q
  have Es:H c≠none:=by
   rcases hc with z | z
   ·rw[z,e];simp
   ·rw[z];simp
  exact keep c v (fun z=>Es (OF c z)) (fun z=>Es (hf c z).1) q
section
variable{P:Program}{w:World}{K:W.Frag}{mg:Str->Option Value}{base:Heap}{N:List Str}{qual:Str}{bH:Scope}{f:Addr}{cd:Value}{A:Around}{outer:List Env}{s0:Shared}{H0:Hp}{E:XK}
abbrev XX(P:Program)(w:World)(K:W.Frag)(mg:Str->Option Value)(base:Heap)(N:List Str)(qual:Str)(bH:Scope)(f:Addr)(cd:Value)(A:Around)(outer:List Env)(s0:Shared)(H0:Hp)(E:XK):Cx:=nv (bu P w) P w K mg base N qual bH f cd A outer s0 H0 E
theorem wB{scope:Scope}{x:List Str}{C D:Addr}{s:Shared}{H:Hp}{σ:St}{fp:List Addr}{pins:List (Addr×Obj)}{QQ:Value->Shared->Prop}(I1:Inv (XX P w K mg base N qual bH f cd A outer s0 H0 E) pins σ H s)(hC:C=s.heap.objs.size)(xc:∀ b∈fp,c6 (XX P w K mg base N qual bH f cd A outer s0 H0 E) pins H b) :
  iJ ((aU (XX P w K mg base N qual bH f cd A outer s0 H0 E) scope x C s H fp pins).fi (notedBy (model P w) (A.deeper (envOfC qual bH s0.heap.objs.size f cd)) (compEnvC scope (dY scope (envOfC qual bH s0.heap.objs.size f cd)) C (envOfC qual bH s0.heap.objs.size f cd))
   (fun e s'=>compPost (model P w) (A.deeper (envOfC qual bH s0.heap.objs.size f cd)) (XX P w K mg base N qual bH f cd A outer s0 H0 E).xe none QQ (.ref D) C (.error e) s'))) E:=by
 intro oq bf H' s' lo a Ce dx J fl wg hp hE
 have J':Inv (aU (XX P w K mg base N qual bH f cd A outer s0 H0 E) scope x C s H fp pins) ([]++oq) bf H' s':=J.iG
 have J0:=J'.c9
 have I':Inv (XX P w K mg base N qual bH f cd A outer s0 H0 E) pins σ H' s':=nG I1 hC xc J0
 have fC:c6 (XX P w K mg base N qual bH f cd A outer s0 H0 E) pins H' C:=ki I1 hC J0
 obtain⟨⟨vs,h1,h2,h3,h4⟩,h5,h6,fs,h7⟩:=fl
 obtain⟨m,hn,_⟩:=J0.loc
 replace hn:s'.heap.Ns C m:=hn
 have OZ:s.heap.objs.size<=lo:=wg
 show wpAny _ _ (noteFrame (.ref a) _) _ _ s'
 rw[xE (env':=compEnvC scope (dY scope (envOfC qual bH s0.heap.objs.size f cd)) C (envOfC qual bH s0.heap.objs.size f cd)) (env:=envOfC qual bH s0.heap.objs.size f cd) rfl]
 refine wA (base:=base) I'.ok.frames I'.stack (L:=s0.heap.objs.size) rfl h1 rfl h2 h3 fun g1 T oT ts t1 t2 G a1 a2 a3 a4=>?_
 have nCf:∀ b o us,s'.heap.get? b=some o->o.data=.fields us->C≠b:=fun b o us q r e=>by
  obtain⟨o',es,ep,q',r',_⟩:=hn
  rw[show s'.heap.get? C=some o from by rw[e];exact q] at q'
  cases q'
  rw[r] at r'
  cases r'
 have nCa:C≠a:=nCf a _ _ h1 rfl
 have tb:∀ b∈jk vs,C≠b/\lo<=b/\b≠a:=fun b hb=>by
  rcases h3 with t | ⟨T',AE,AF,q1,q2,q3,q4,q5,_⟩
  ·unfold jk at hb;rw[t] at hb;cases hb
  ·unfold jk at hb
   rw[q1] at hb
   rw[List.mem_singleton.mp hb]
   exact⟨nCf T' _ _ q4 q5,q2,q3⟩
 have nCw:C∉a::jk vs:=fun z=>by
  rcases List.mem_cons.mp z with q | q
  ·exact nCa q
  ·exact(tb C q).1 rfl
 have hsz:s.heap.objs.size<=s'.heap.objs.size:=J0.sz
 have nCT:C≠T:=fun e=>by
  have:=hn.lt
  rw[e] at this
  exact absurd (Nat.lt_of_lt_of_le this t1) (Nat.lt_irrefl _)
 have frC:C∉s0.heap.objs.size::ni outer:=fun z=>by
  rcases List.mem_cons.mp z with q | q
  ·exact fC.2.1 q
  ·exact fC.2.2.1 q
 have G':rB (s0.heap.objs.size::ni outer) (a::jk vs) s'.heap g1:=G
 have hn1:g1.Ns C m:=by
  obtain⟨o,es,ep,q,r⟩:=hn
  exact⟨o,es,ep,G'.keep C o frC nCw q,r⟩
 refine⟨m,hn1,fun g2 sb ke ec=>?_⟩
 have b1:g2.get? a=some ({ cls:=.ref Ce,dict:=some dx,data:=.fields (vs.setIfInBounds 1 (.ref T)) }:Obj):=(sb.2 a (Ne.symm nCa)).trans a1
 have b2:g2.get? T=some oT:=(sb.2 T (Ne.symm nCT)).trans a2
 have i3:3<ts.size:=(Array.getElem?_eq_some_iff.mp a4).1
 have v1:(vs.setIfInBounds 1 (.ref T))[1]?=some (.ref T):=by simp [h2]
 unfold PySem.passOn
 refine wpAny_bind (wpAny_field b1 rfl v1 ?_)
 rw[if_neg (show ¬ (Value.ref T == Value.none)=true from Bool.false_ne_true)]
 unfold setFlight
 refine wpAny_bind (wpAny_bind (wpAny_field b1 rfl v1 ?_))
 rw[if_pos (show(Value.ref T != Value.none)=true from by simp)]
 refine wpAny_setField b2 a3 i3 (wpAny_throw ?_)
 generalize hφ:ke.frame.elim Value.none (fun f=>rawInt f)=φ
 have zx:∀ b,b≠T->(g2.update T (Obj.mapFields (·.setIfInBounds 3 φ))).get? b=g2.get? b:=fun b hb=>Heap.get?_update_other _ _ (Ne.symm hb)
 have OX:=Heap.get?_update_self (Obj.mapFields (·.setIfInBounds 3 φ)) b2 (Obj.isFreed_of_fields (Obj.data_mapFields a3 _))
 have up:∀ b o,b≠C->b≠T->g1.get? b=some o->(g2.update T (Obj.mapFields (·.setIfInBounds 3 φ))).get? b=some o:=fun b o Bq Br e=>(zx b Br).trans ((sb.2 b Bq).trans e)
 have TR:∀ b o,s'.heap.get? b=some o->b≠T:=fun b o e z=>absurd (Nat.lt_of_lt_of_le (Heap.lt_size e) t1) (by rw[z];exact Nat.lt_irrefl _)
 have TU:s0.heap.objs.size<=s.heap.objs.size:=I1.sz
 have I3:Inv (XX P w K mg base N qual bH f cd A outer s0 H0 E) pins σ H' { s' with heap:=g2.update T (Obj.mapFields (·.setIfInBounds 3 φ)) }:=by
  refine I'.gone (ws:=C::T::a::jk vs) (fun b o hb hc e=>?_) (fun b o hb e=>?_) (fun b o hc e=>?_) fun b hb=>?_
  ·simp only[List.mem_cons,not_or] at hc
   exact up b o hc.1 hc.2.1 (G'.keep b o hb (by simp only[List.mem_cons,not_or];exact hc.2.2) e)
  ·obtain⟨sl,q⟩:=G'.slot b o hb e
   exact⟨sl,up b _ (fun z=>frC (z▸hb)) (TR b o e) q⟩
  ·simp only[List.mem_cons,not_or] at hc
   obtain⟨o',q⟩:=G'.there b o e
   exact⟨o',up b o' hc.1 (TR b o e) q⟩
  ·simp only[List.mem_cons] at hb
   rcases hb with z | z | z | z
   ·rw[z];exact fC
   ·rw[z];exact I'.qa t1 (I'.a8.fresh t1)
   ·rw[z];exact I1.qa (Nat.le_trans OZ h5) h6
   ·exact I1.qa (Nat.le_trans OZ (tb b z).2.1) (h4 b z)
 have Yg:H' T=none:=I'.a8.fresh t1
 refine zF I3 ⟨⟨_,(zx a (Ne.symm t2)).trans b1,by simp [h2],⟨T,_,_,φ,v1,Nat.le_trans TU (Nat.le_trans hsz t1),t2,OX,Obj.data_mapFields a3 _,by simp [i3]⟩,fun T' xn=>?_⟩,Nat.le_trans TU (Nat.le_trans OZ h5),h6,fs,h7⟩ hE
 have e:T'=T:=by
  unfold jk at xn
  rw[v1] at xn
  exact List.mem_singleton.mp xn
 rw[e]
 exact Yg
end
theorem rF{prog:Program}{w:World}{A:Around}{R:Result->Shared->Prop}{s:Shared}{elt target iter:Expr}{ifs:List Expr}{scope:Scope}{pos:Pos}{it acc:Value}{env:Env}(I:Nat->Shared->Prop)
  (turn:∀ n s,I n s->wpAny (model prog w) A (pyNext it) (fun r bq=>match r with
   | none=>R (.ok .next) bq
   | some v=>wpAny (model prog w) A (letOwnedTupleGo target it v) (fun _ yW=>wpAny (model prog w) A (assign target env v) (fun _ kJ =>
     wpAny (model prog w) A (forIn ifs true fun c r=>if r=true then do let ok <- isTrue c env (eval c env);pure (ForInStep.yield ok) else pure (ForInStep.yield r)) (fun ok jJ =>
      if ok=true then wpAny (model prog w) A (eval elt env) (fun x lj =>
       wpAny (model prog w) A (call (.builtin "list.append") [acc,x]) (fun _ Hc=>∃ m,m<n/\I m Hc) (fun _ _=>False) lj) (notedBy (model prog w) A env fun x s'=>R (.error x) s') jJ
      else ∃ m,m<n/\I m jJ) (fun _ _=>False) kJ) (fun _ _=>False) yW) (fun _ _=>False) bq) (fun _ _=>False) s)
  (n:Nat) (h:I n s) :
  codeAny (model prog w) A (.compLoop (.ListComp elt [⟨target,iter,ifs,0⟩] scope pos) 0 it acc env) R s:=by
 refine codeAny_loop rfl I (fun n s hI=>?_) n h
 show wpAny _ A ((compTurn (.ListComp elt [⟨target,iter,ifs,0⟩] scope pos) 0 it acc env).onRaise (fun x=>do noteFrame x env;theTreesLotGoes x)) _ _ s
 refine wpAny_noted ?_
 rw[compTurn_list]
 refine wpAny_bind (wpAny_standAt (wpAny_bind (wpAny_mono (turn n s hI) (fun r bq dB=>?_) fun _ _ h'=>h'.elim)))
 cases r with
 | none=>exact wpAny_pure dB
 | some v =>
  refine wpAny_bind (wpAny_mono dB (fun _ yW Hd=>?_) fun _ _ h'=>h'.elim)
  refine wpAny_bind (wpAny_mono Hd (fun _ kJ A4=>wpAny_bind (wpAny_mono A4 (fun ok jJ A5=>?_) fun _ _ h'=>h'.elim)) fun _ _ h'=>h'.elim)
  cases ok with
  | false=>exact wpAny_pure ⟨rfl,A5⟩
  | true =>
   exact wpAny_bind (wpAny_bind (wpAny_mono A5 (fun x lj Ou=>wpAny_bind (wpAny_mono Ou (fun _ Hc Ov=>wpAny_pure (wpAny_pure ⟨rfl,Ov⟩)) fun _ _ h'=>h'.elim)) fun _ _ h'=>h'))
section
variable{X:Cx}{pins:List (Addr×Obj)}{σ:St}{H:Hp}{s:Shared}{scope:Scope}{x:List Str}{fp:List Addr}{elt iter:Expr}{ifs:List Expr}{tg:Expr}{g:TG}{pos:Pos}{te:TE}{tt:TT}{wi:TI}
theorem q_{use:Option (Value->Sem Unit)}{E:Value->Shared->Prop}{EK:XK}{QQ:Value->Shared->Prop}{it:Addr}{tn:Nat->Heap->Prop}{J:It}{Q:Addr->Hp->Prop}(hc:X.calm=true)(S:rD x scope X.env)(hx:Str.empty∉x)(hN:(F6 x X.N).Nodup)
  (hg:∀ C s H fp pins,PG (aU X scope x C s H fp pins) tg g) (gF:∀ C s H fp pins EE,iJ ((aU X scope x C s H fp pins).fi EE) EK->PE ((aU X scope x C s H fp pins).fi EE) elt te)
  (fb:∀ (C D:Addr) (s:Shared) (H:Hp) (σ:St) (fp:List Addr) (pins:List (Addr×Obj)),Inv X pins σ H s->C=s.heap.objs.size->(∀ b∈fp,c6 X pins H b)->iJ ((aU X scope x C s H fp pins).fi (notedBy (model X.prog X.w) X.A (compEnvC scope (dY scope X.env) C X.env) fun e s'=>compPost (model X.prog X.w) X.A X.xe use QQ (.ref D) C (.error e) s')) EK) (gH:∀ C s H fp pins,yX (aU X scope x C s H fp pins) ifs tt)
  (I:Inv X pins σ H s) (T:Turn X.prog X.w X.K (tg) J fp it tn) (st:tn 0 s.heap) (xc:∀ b∈fp,c6 X pins H b) (h:∀ D,H D=none->qY x.length g tt te D J σ H (Q D))
  (hR:∀ D C s' H' m,Inv X pins σ H' s'->c6 X pins H' C->s'.heap.Ns C m->(∀ y c,X.env.cells.lookup y=some c->C≠c)->C≠X.env.locals->Q D H'->compPost (model X.prog X.w) X.A X.xe use QQ (.ref D) C (.ok .next) s') :
  wpAny (model X.prog X.w) X.A (newList []) (fun acc jJ=>wpAny (model X.prog X.w) X.A (newFunctionEnv scope X.env.globals (dY scope X.env) [] X.env.qual none .none (some X.env)) (fun ke lj =>
   codeAny (model X.prog X.w) X.A (.compStart (.ListComp elt [⟨tg,iter,ifs,0⟩] scope pos) 0 (.ref it) acc { ke with scope:=relabel scope X.env }) (compPost (model X.prog X.w) X.A X.xe use QQ acc ke.locals) lj) E jJ) E s:=by
 refine wpAny_newObj_type ?_
 have I1:Inv X pins σ (upd H s.heap.objs.size (.lst [])) { s with heap:=s.heap.push { cls:=.type "list",data:=.seq ([]:List Value).toArray },toks:=s.toks }:=I.GZ (ys:=[]) (its:=[]) .nil (Nat.zero_le _)
 have c_:∀ b∈fp,b<s.heap.objs.size:=fun b hb=>by
  obtain⟨o,e,_⟩:=T.obj 0 _ st b hb
  exact Heap.lt_size e
 have Dh:∀ b∈fp,b≠s.heap.objs.size:=fun b hb=>Nat.ne_of_lt (c_ b hb)
 have kN:∀ b∈fp,c6 X pins (upd H s.heap.objs.size (.lst [])) b:=fun b hb=>by
  obtain⟨f0,f1⟩:=xc b hb
  exact⟨by rw[aj (Dh b hb)];exact f0,f1⟩
 have hW:=h s.heap.objs.size (I.a8.fresh (Nat.le_refl _))
 have Ek:tn 0 (s.heap.push { cls:=.type "list",data:=.seq ([]:List Value).toArray }):=T.keep 0 _ _ st fun b _ o e=>Heap.get?_push_of_some _ e
 generalize hH1:upd H s.heap.objs.size (.lst [])=H1 at I1 kN
 generalize hD:s.heap.objs.size=D at hW hR hH1 ⊢
 have hsz:(s.heap.push { cls:=.type "list",data:=.seq ([]:List Value).toArray }).objs.size=s.heap.objs.size+1:=Heap.size_push ..
 generalize tW:({ s with heap:=s.heap.push { cls:=.type "list",data:=.seq ([]:List Value).toArray },toks:=s.toks }:Shared)=s1 at I1
 have tX:s1.heap=s.heap.push { cls:=.type "list",data:=.seq ([]:List Value).toArray }:=by rw[<- tW]
 have goal:wpAny (model X.prog X.w) X.A (newFunctionEnv scope X.env.globals (dY scope X.env) [] X.env.qual none .none (some X.env)) (fun ke lj =>
   codeAny (model X.prog X.w) X.A (.compStart (.ListComp elt [⟨tg,iter,ifs,0⟩] scope pos) 0 (.ref it) (.ref D) { ke with scope:=relabel scope X.env }) (compPost (model X.prog X.w) X.A X.xe use QQ (.ref D) ke.locals) lj) E s1:=by
  rw[<- tX] at Ek
  have tY:∀ b∈fp,b<s1.heap.objs.size:=fun b hb=>by rw[tX,hsz];exact Nat.lt_succ_of_lt (c_ b hb)
  clear tW tX hsz
  refine wpAny_newFunctionEnv S.cell (by intro y hy;simp at hy) (fun dB tZ lp=>?_) S.kind
  have I2:=zk (t:=s1.toks+([]:List (Str×Value)).length) I1 S hx kN tY tZ lp
  have vb:tn 0 dB:=T.keep 0 _ _ Ek fun b hb o e=>(lp.2 b (Nat.ne_of_lt (tY b hb))).trans (Heap.get?_push_of_some _ e)
  obtain⟨Wq,⟨m0,w0⟩,turn⟩:=hW
  rw[hH1] at w0
  generalize hCC:s1.heap.objs.size=C at I2 ⊢
  have j_:∀ {H':Hp},(∀ b∈fp,H' b=none)->∀ b∈fp,c6 (aU X scope x C s1 H1 fp pins) [] H' b:=fun hn b hb=>c6.coM I1 hCC.symm hb (kN b hb) (tY b hb) (hn b hb)
  have loop:codeAny (model X.prog X.w) X.A (.compLoop (.ListComp elt [⟨tg,iter,ifs,0⟩] scope pos) 0 (.ref it) (.ref D) (compEnvC scope (dY scope X.env) C X.env)) (compPost (model X.prog X.w) X.A X.xe use QQ (.ref D) C) { s1 with heap:=dB,toks:=s1.toks+([]:List (Str×Value)).length }:=by
   refine rF (fun n s'=>∃ i ys os H',os.length=x.length/\Inv (aU X scope x C s1 H1 fp pins) [] (os++σ) H' s'/\tn i s'.heap/\(∀ b∈fp,H' b=none)/\Wq i n ys H') ?_ m0 ⟨0,[],List.replicate x.length none,H1,List.length_replicate,I2,vb,fun b hb=>(kN b hb).1,w0⟩
   rintro n s3 ⟨i,ys,os,H3,ol,I3,CW,CY,w3⟩
   rcases turn i n ys H3 w3 with ⟨stop,qn⟩ | ⟨go,step⟩
   ·refine bg (T.done (aU X scope x C s1 H1 fp pins) rfl rfl rfl hc i [] s3 _ H3 _ I3 (j_ CY) CW stop) fun r s4 ⟨hr,I4⟩=>?_
    subst hr
    obtain⟨m4,SW,_⟩:=I4.loc
    exact hR D C s4 H3 m4 (nG I1 hCC.symm kN I4) (ki I1 hCC.symm I4) SW
     (fun y c e z=>(ki I1 hCC.symm I4).2.2.2.2.1 y c e z.symm) (ki I1 hCC.symm I4).2.1 qn
   ·refine bg (T.item (aU X scope x C s1 H1 fp pins) rfl rfl rfl hc i [] s3 _ H3 _ I3 (j_ CY) CW go) fun r s4 ⟨u,hr,h4⟩=>?_
    subst hr
    refine bg h4 fun _ s5 ⟨y5,H5,I5,r5,SX,wY,Kz⟩=>?_
    have KA:=I5.pinned (j_ Kz) (T.obj _ _ wY)
    refine bg (hg C s1 H1 fp pins _ s5 (os++σ) H5 y5 u _ KA r5 (step os y5 H5 ol SX)) fun _ s6 ⟨RI,H6,I6,⟨Tw,Tx,e6⟩,q6⟩=>?_
    subst e6
    have again:∀ {mz:St} {H7:Hp} {s7:Shared},Inv (aU X scope x C s1 H1 fp pins) ([]++kZ fp s5.heap) mz H7 s7->tn (i+1) s7.heap/\∀ b∈fp,H7 b=none:=fun {mz H7 s7} I7=>by
     refine⟨T.keep _ _ _ wY fun b hb o e=>(I7.pin (b,o) (List.mem_append_right _ (List.mem_append_right _ (cZ hb e)))).1,fun b hb=>?_⟩
     obtain⟨o,e,d⟩:=T.obj _ _ wY b hb
     exact(I7.pin (b,o) (List.mem_append_right _ (List.mem_append_right _ (cZ hb e)))).2.1
    refine bg (gH C s1 H1 fp pins _ s6 _ H6 _ I6 q6) fun ok s7 ⟨H7,I7,q7⟩=>?_
    cases ok with
    | false =>
     obtain⟨m',hm,w7⟩:=q7
     rw[if_neg (by decide)]
     exact⟨m',hm,i+1,ys,Tw,H7,Tx,I7.c9,(again I7).1,(again I7).2,w7⟩
    | true =>
     rw[if_pos rfl]
     rw[if_pos rfl] at q7
     refine bg (gF C s1 H1 fp pins _ (fb C D s1 H1 σ fp pins I1 hCC.symm kN) _ s7 _ H7 _ (I7.fi _) q7) fun v8 s8 ⟨y8,H8,I8',r8,SY,S1,m',hm,w8⟩=>?_
     have I8:=I8'.iG
     refine bg (eS (X:=aU X scope x C s1 H1 fp pins) _ s8 _ H8 (.ref D) [y8] (.ref D) [v8] (fun _ H'=>H'=upd H8 D (.lst (ys++[y8]))) I8 rfl (.cons r8 .nil) ⟨D,ys,y8,rfl,rfl,SY,S1,rfl⟩) fun _ s9 ⟨_,H9,I9,_,e9⟩=>?_
     subst e9
     exact⟨m',hm,i+1,ys++[y8],Tw,_,Tx,I9.c9,(again I9).1,(again I9).2,w8⟩
  exact codeAny_compStart_list loop (T.self _ 0 _ _ _ vb loop)
 exact goal
end
section
variable{P:Program}{w:World}{K:W.Frag}{mg:Str->Option Value}{base:Heap}{N:List Str}{qual:Str}{bH:Scope}{f:Addr}{cd:Value}{A:Around}{outer:List Env}{s0:Shared}{H0:Hp}{E:XK}
variable{scope:Scope}{x:List Str}{elt iter:Expr}{ifs:List Expr}{tg:Expr}{g:TG}{pos:Pos}{te:TE}{tt:TT}{wi:TI}
theorem O0(S:rD x scope (XX P w K mg base N qual bH f cd A outer s0 H0 E).env)(hx:Str.empty∉x)(hN:(F6 x N).Nodup)(hi:PI (XX P w K mg base N qual bH f cd A outer s0 H0 E) tg iter wi)
  (hg:∀ C s H fp pins,PG (aU (XX P w K mg base N qual bH f cd A outer s0 H0 E) scope x C s H fp pins) tg g) (gF:∀ C s H fp pins EE,iJ ((aU (XX P w K mg base N qual bH f cd A outer s0 H0 E) scope x C s H fp pins).fi EE) E->PE ((aU (XX P w K mg base N qual bH f cd A outer s0 H0 E) scope x C s H fp pins).fi EE) elt te) (gH:∀ C s H fp pins,yX (aU (XX P w K mg base N qual bH f cd A outer s0 H0 E) scope x C s H fp pins) ifs tt)
  (hs:∀ v,foldedSetIterable iter (XX P w K mg base N qual bH f cd A outer s0 H0 E).env v=pure v):PE (XX P w K mg base N qual bH f cd A outer s0 H0 E) (.ListComp elt [⟨tg,iter,ifs,0⟩] scope pos) (zm x.length wi g tt te):=by
 intro pins s σ H Q I h
 rw[eval_ListComp]
 have KZ:=cX (scope:=scope) (env:=(XX P w K mg base N qual bH f cd A outer s0 H0 E).env) fun y hy hk=>I.ok.has y.1 (S.free y hy hk)
 refine wpAny_comprehension_free (use:=none) rfl hs KZ S.kind S.nm (bg (hi pins s σ H _ I h) fun v s1 h1=>bg h1 fun MR s2 h2=>?_)
 obtain⟨it,fp,tn,J,H2,e,I2,T,vb,f2,q⟩:=h2
 subst e
 refine q_ (use:=none) (QQ:=EP (XX P w K mg base N qual bH f cd A outer s0 H0 E) pins σ Q) (EK:=E) (Q:=fun D H'=>Q (.ref D) H') rfl S hx hN hg gF (fun C D s H σ fp pins I hC hf=>wB I hC hf) gH I2 T vb f2 q ?_
 intro D C s' H' m I' f' yz Ku El q'
 exact⟨m,yz,fun h' sb=>⟨.ref D,H',I'.turned (t':=s'.toks) (fun b o hb e=>(sb.2 b hb).trans e) f'.1 f'.2.1 f'.2.2.2.1 f'.2.2.2.2.1 f'.2.2.2.2.2,rfl,q'⟩⟩
theorem Yh(x:List Str)(oH:bM x scope bH N=true)(hi:PI (XX P w K mg base N qual bH f cd A outer s0 H0 E) tg iter wi)
  (hg:∀ C s H fp pins,PG (aU (XX P w K mg base N qual bH f cd A outer s0 H0 E) scope x C s H fp pins) tg g) (gF:∀ C s H fp pins EE,iJ ((aU (XX P w K mg base N qual bH f cd A outer s0 H0 E) scope x C s H fp pins).fi EE) E->PE ((aU (XX P w K mg base N qual bH f cd A outer s0 H0 E) scope x C s H fp pins).fi EE) elt te) (gH:∀ C s H fp pins,yX (aU (XX P w K mg base N qual bH f cd A outer s0 H0 E) scope x C s H fp pins) ifs tt)
  (hs:∀ v,foldedSetIterable iter (XX P w K mg base N qual bH f cd A outer s0 H0 E).env v=pure v:=by intro _;rfl):PE (XX P w K mg base N qual bH f cd A outer s0 H0 E) (.ListComp elt [⟨tg,iter,ifs,0⟩] scope pos) (zm x.length wi g tt te) :=
 O0 (bM.scope oH rfl) (bM.ne oH) (bM.nd oH) hi hg gF gH hs
theorem TV{x1 x2:Str}{p1 p2 pt:Pos}{kt:Nat}(oH:bM [x1,x2] scope bH N=true)(hi:PI (XX P w K mg base N qual bH f cd A outer s0 H0 E) (.Tuple [.Name x1 p1,.Name x2 p2] kt pt) iter wi)
  (gF:∀ C s H fp pins EE,iJ ((aU (XX P w K mg base N qual bH f cd A outer s0 H0 E) scope [x1,x2] C s H fp pins).fi EE) E->PE ((aU (XX P w K mg base N qual bH f cd A outer s0 H0 E) scope [x1,x2] C s H fp pins).fi EE) elt te) (gH:∀ C s H fp pins,yX (aU (XX P w K mg base N qual bH f cd A outer s0 H0 E) scope [x1,x2] C s H fp pins) ifs tt)
  (hs:∀ v,foldedSetIterable iter (XX P w K mg base N qual bH f cd A outer s0 H0 E).env v=pure v:=by intro _;rfl):PE (XX P w K mg base N qual bH f cd A outer s0 H0 E) (.ListComp elt [⟨.Tuple [.Name x1 p1,.Name x2 p2] kt pt,iter,ifs,0⟩] scope pos) (zm 2 wi (g2 K) tt te) :=
 Yh [x1,x2] oH hi (HG rfl (bM.scope oH rfl) (bM.nd oH)) gF gH hs
theorem Lk{X:Cx}{x1:Str}{p1:Pos}(S:rD [x1] scope X.env)(hN:(F6 [x1] X.N).Nodup)(C:Addr)(s:Shared)(H:Hp)(fp:List Addr)(pins:List (Addr×Obj)):PG (aU X scope [x1] C s H fp pins) (.Name x1 p1) (jm 0):=by
 have l1:(relabel scope X.env).names.lookup x1=some .local:=PySem.lookup_relabel_local (env:=X.env) (S.own x1 (by simp))
 exact bz (X:=aU X scope [x1] C s H fp pins) (i:=0) hN rfl (.inl l1) (.inr l1)
end
theorem EM{K:W.Frag}{l t D:Addr}{xs ys:List V}{g:TG}{tt:TT}{te:TE}{σ:St}{H1:Hp}{Q:Hp->Prop}(f:V->V->V)(b:Nat)(hx:bx K H1 l xs)(hy:bV K H1 t ys)(hbx:b<xs.length)(hby:b<ys.length)(hD:H1 D=none)(hz:xs.length<=sizeLine)
  (hg:∀ T x y (os:St) (H:Hp) (R:St->Hp->Prop),os.length=2->H T=some (.tup [x,y])->R (some x::some y::σ) H->g (.ref T) (os++σ) H R)
  (ht:∀ (s:St) (H:Hp) (R:Bool->Hp->Prop),R true H->tt s H R)
  (he:∀ (i:Nat) x y,i<b->xs[i]?=some x->ys[i]?=some y->∀ (H:Hp) (R:VK),ak H1 H->(∀ H',ak H H'->R (f x y) H')->te (some x::some y::σ) H R)
  (hr:∀ x y,xs[b]?=some x->ys[b]?=some y->∀ (H:Hp) (R:VK),ak H1 H->te (some x::some y::σ) H R):qY 2 g tt te D (Tz K l t) σ H1 Q:=by
 refine⟨fun i m zs H=>m=xs.length - i/\i<=b/\zs.length=i/\ak H1 H/\H D=some (.lst zs),⟨xs.length,by simp,Nat.zero_le _,rfl,(ak.refl _).put hD,af⟩,?_⟩
 rintro i m zs H ⟨rfl,hi,Yi,sm,hH⟩
 refine .inr ⟨⟨xs,ys,sm.seq hx,bV.same sm hy,by omega,by omega⟩,fun os x H' ol yl=>?_⟩
 obtain⟨T,x1,y1,rfl,hT,rfl,e1,e2⟩:=yl
 have ON:=e1 xs (sm.seq hx)
 have TL:=e2 ys (bV.same sm hy)
 have s2:ak H (upd H T (.tup [x1,y1])):=ak.new hT
 refine hg T x1 y1 os _ _ ol af ⟨⟨[some x1,some y1],rfl,rfl⟩,ht _ _ _ (cH ?_)⟩
 by_cases q:i=b
 ·subst q
  exact hr x1 y1 ON TL _ _ (sm.trans s2)
 ·refine he i x1 y1 (by omega) ON TL _ _ (sm.trans s2) fun H3 s3=>⟨s3 _ _ (s2 _ _ hH),by omega,xs.length - (i+1),by omega,rfl,by omega,by rw[List.length_append,Yi];rfl,(sm.trans (s2.trans s3)).put hD,af⟩
theorem EN{K:W.Frag}{a D:Addr}{xs:List V}{tt:TT}{te:TE}{σ:St}{H1:Hp}{Q:Hp->Prop}(b:Nat)(hS:bx K H1 a xs)(hb:b<xs.length)(hD:H1 D=none)(hz:xs.length<=sizeLine)
  (ht:∀ (s:St) (H:Hp) (R:Bool->Hp->Prop),R true H->tt s H R)
  (he:∀ (i:Nat) x,i<b->xs[i]?=some x->∀ (H:Hp) (R:VK),ak H1 H->(∀ v H',ak H H'->R v H')->te (some x::σ) H R)
  (hr:∀ x,xs[b]?=some x->∀ (H:Hp) (R:VK),ak H1 H->te (some x::σ) H R):qY 1 (jm 0) tt te D (Gn K a) σ H1 Q:=by
 refine⟨fun i m zs H=>m=xs.length - i/\i<=b/\zs.length=i/\ak H1 H/\H D=some (.lst zs),⟨xs.length,by simp,Nat.zero_le _,rfl,(ak.refl _).put hD,af⟩,?_⟩
 rintro i m zs H ⟨rfl,hi,Yi,sm,hH⟩
 have c_:i<xs.length:=by omega
 refine .inr ⟨⟨xs,xs[i],sm.seq hS,by simp [c_]⟩,fun os x H' ol yl=>?_⟩
 obtain⟨rfl,e⟩:=yl
 have e':=e xs (sm.seq hS)
 match os,ol with
 | [o],_ =>
 refine⟨⟨[some x],rfl,rfl⟩,ht _ _ _ (cH ?_)⟩
 by_cases q:i=b
 ·subst q
  exact hr x e' _ _ sm
 ·refine he i x (by omega) e' _ _ sm fun v H3 s3=>⟨s3 _ _ hH,by omega,xs.length - (i+1),by omega,rfl,by omega,by rw[List.length_append,Yi];rfl,(sm.trans s3).put hD,af⟩
section
variable{prog:Program}{w:World}{A:Around}{E:Value->Shared->Prop}{s:Shared}
theorem zG{id:String}{d:Addr}{o:Obj}{es:Array DictEntry}{ep:Nat}{Q:Array DictEntry->Shared->Prop}(ho:s.heap.get? d=some o)(hd:o.data=.dict es ep)(h1:es.size<=1)(ht:∀ e∈es,∃ b,e.key=.ref b/\s.TypeIs (.ref b) "tuple")(h:Q es s) :
  wpAny (model prog w) A (Builtin.Dict.entriesForEmpty id d) Q E s:=by
 unfold Builtin.Dict.entriesForEmpty
 refine wpAny_bind (wpAny_dictEntries ho hd (wpAny_bind ?_))
 rw[<- Array.forIn_toList]
 have hl:es.toList.length<=1:=by rw[Array.length_toList];exact h1
 cases e:es.toList with
 | nil=>exact wpAny_pure (wpAny_pure h)
 | cons x r =>
  rw[e] at hl
  have er:r=[]:=List.length_eq_zero_iff.mp (by simp only[List.length_cons] at hl;omega)
  subst er
  obtain⟨b,hb,hT⟩:=ht x (by rw[<- Array.mem_toList_iff,e];exact List.mem_cons_self)
  rw[List.forIn_cons]
  refine wpAny_bind (wpAny_bind ?_)
  rw[hb]
  refine wpAny_bind (wpAny_specialOf hT PySem.F.slot_tuple_eq.lookup (wpAny_pure ?_))
  rw[if_pos (by left)]
  have hs:¬ (es.filter (·.hash == x.hash)).size>1:=by
   have:=Array.size_filter_le (p:=(·.hash == x.hash)) (xs:=es)
   omega
  rw[if_neg hs]
  exact wpAny_pure (wpAny_pure (wpAny_pure h))
theorem EO{id:String}{d o:Addr}{od oo:Obj}{es:Array DictEntry}{ed ep:Nat}{Q:Unit->Shared->Prop}(S_:d≠o)(hos:(o == sysModules)=false)(hd:s.heap.get? d=some od)(Dr:od.data=.dict #[] ed)(ho:s.heap.get? o=some oo)(Ll:oo.data=.dict es ep)
  (h1:es.size<=1) (ht:∀ e∈es,∃ b,e.key=.ref b/\s.TypeIs (.ref b) "tuple") (h0:es.size=0->Q () s) (h:es.size≠0->Q () { s with heap:=s.heap.update d (Obj.mapDictKeys fun _=>es) }):wpAny (model prog w) A (Builtin.Dict.mergeDict id d o) Q E s:=by
 unfold Builtin.Dict.mergeDict
 rw[if_neg (by simpa using S_)]
 unfold Builtin.Dict.showsAll
 rw[if_neg (by rw[hos];decide)]
 refine wpAny_bind (wpAny_pure (wpAny_bind (wpAny_dictEntries ho Ll ?_)))
 dsimp only
 by_cases z:es.size=0
 ·have e0:es=#[]:=Array.eq_empty_of_size_eq_zero z
  subst e0
  rw[if_neg (by simp)]
  refine wpAny_bind (wpAny_dictEpoch ho Ll (wpAny_bind (wpAny_dictEntries ho Ll ?_)))
  refine wpAny_bind ?_
  rw[Std.Legacy.Range.forIn_eq_forIn_range']
  exact wpAny_pure (wpAny_pure (h0 rfl))
 ·have En:(!(decide (es.size<=8)&&es.all fun e=>(keyPart e.key).isSome))=true:=by
   have hx:0<es.size:=by omega
   obtain⟨b,hb,_⟩:=ht es[0] (Array.getElem_mem hx)
   have:(es.all fun e=>(keyPart e.key).isSome)=false:=by
    rw[Bool.eq_false_iff]
    intro q
    have:=Array.all_eq_true.mp q 0 hx
    rw[hb] at this
    cases this
   rw[this,Bool.and_false]
   rfl
  rw[if_pos En]
  refine wpAny_bind (wpAny_dictEntries hd Dr ?_)
  rw[if_pos (by decide)]
  refine wpAny_bind (zG ho Ll h1 ht ?_)
  have Dh:(!es.isEmpty)=true:=by
   rw[Bool.not_eq_true',Array.isEmpty_eq_false_iff]
   exact fun q=>z (by rw[q];rfl)
  rw[if_pos Dh]
  exact wpAny_bind (wpAny_updateDictKeysTo hd Dr (wpAny_pure (h z)) (by show es.size<=sizeLine+1;omega))
end
section
variable{X:Cx}{pins:List (Addr×Obj)}{σ:St}{H:Hp}{s:Shared}{a:Addr}{aJ:List (List Key×V)}{A:Around}{E:Value->Shared->Prop}
theorem Lm{Q:Value->Shared->Prop}(I:Inv X pins σ H s)(e:Rd H a (.dT aJ))(hk:aJ.length<=1)(h:∀ p s',H p=none->Inv X pins σ (upd H p (.dT aJ)) s'->Q (.ref p) s'):wpAny (model X.prog X.w) A (call (.type "dict") [.ref a]) Q E s:=by
 obtain⟨z,OL,xs,rel,dd⟩:=qV I.a8 e
 obtain⟨oo,es,ep,ho,hx,Yj,Yk,TX,Xv⟩:=id dd
 have vd:H s.heap.objs.size=none:=I.a8.fresh (Nat.le_refl _)
 have c_:a<s.heap.objs.size:=Heap.lt_size ho
 have Yl:(s.heap.objs.size == sysModules)=false:=beq_eq_false_iff_ne.mpr (Ne.symm (Nat.ne_of_lt I.big))
 refine callType_codes (Q₁:=fun obj bq=>obj=.ref s.heap.objs.size/\bq={ s with heap:=s.heap.push { cls:=.type "dict",data:=.dict #[] } }) PySem.F.kt_called_dict (PySem.F.kt_typeCall_dict_1 _) PySem.F.entry_dict_init (kt_code_dict_new _ ⟨rfl,rfl⟩) ?_
 rintro _ _ ⟨rfl,rfl⟩
 have hn:(s.heap.push { cls:=.type "dict",data:=.dict #[] }).get? s.heap.objs.size=some { cls:=.type "dict",data:=.dict #[] }:=Heap.get?_push_size _ rfl
 have hT:Shared.TypeIs { s with heap:=s.heap.push { cls:=.type "dict",data:=.dict #[] } } (.ref s.heap.objs.size) "dict" := ⟨_,hn,rfl⟩
 have AY:(s.heap.push { cls:=.type "dict",data:=.dict #[] }).get? a=some oo:=Heap.get?_push_of_some _ ho
 have OR:Shared.TypeIs { s with heap:=s.heap.push { cls:=.type "dict",data:=.dict #[] } } (.ref a) "dict" := ⟨_,AY,hx.1⟩
 have hsz:es.size=aJ.length:=by rw[<- Array.length_toList,Yk,List.length_map,<- Paired.length rel]
 refine⟨hT,PySem.F.args_dict_init_2 _ _,?_⟩
 unfold Builtin.«dict.__init__»
 refine wpAny_bind ?_
 unfold Builtin.Dict.selfAndRest
 refine wpAny_bind (wpAny_notOrdered_dict hT (show wpAny _ _ (pure (s.heap.objs.size,[Value.ref a])) _ _ _ from wpAny_pure ?_))
 show wpAny _ _ (Builtin.Dict.updateFrom "dict.__init__" s.heap.objs.size (.ref a) [] .none) _ _ _
 unfold Builtin.Dict.updateFrom
 refine wpAny_bind (wpAny_typeOf OR ?_)
 rw[if_neg (by decide)]
 refine wpAny_bind ?_
 unfold Builtin.Dict.merge
 refine wpAny_bind ?_
 unfold Builtin.Dict.readDirectly
 refine wpAny_bind (wpAny_isInstance OR PySem.F.kt_sub_dict ?_)
 simp only[Bool.not_true,Bool.false_eq_true,if_false]
 refine wpAny_bind (wpAny_specialOf OR PySem.F.slot_dict_iter.lookup (wpAny_pure ?_))
 simp only[beq_self_eq_true,if_true]
 refine wpAny_bind (wpAny_pure ?_)
 have Ds:∀ h':Heap,(∀ b q,s.heap.get? b=some q->h'.get? b=some q)->(∃ o2 Ym,h'.get? s.heap.objs.size=some o2/\o2.ExactDict/\o2.data=.dict es Ym)->Inv X pins σ (upd H s.heap.objs.size (.dT aJ)) { s with heap:=h' }:=fun h' k1 ⟨o2,Ym,g1,g2,g3⟩=>by
  refine I.laid (a:=s.heap.objs.size) (o:=.dT aJ) (t':=s.toks) k1 (Nat.le_refl _) ⟨z,Yl,xs,?_,o2,es,Ym,g1,g2,g3,Yk,Xv⟩
  exact Paired.AI rel fun p q ⟨q1,q2,q3⟩=>⟨q1,by rw[aj (ah q2 vd)];exact q2,q3⟩
 have ht:∀ q∈es,∃ b,q.key=.ref b/\Shared.TypeIs { s with heap:=s.heap.push { cls:=.type "dict",data:=.dict #[] } } (.ref b) "tuple" := fun q hq=>by
  have hm:q∈xs.map (entryOfKey (tupleKind (bW X.prog X.w))):=by rw[<- Yk];exact Array.mem_toList_iff.mpr hq
  obtain⟨x,hxm,rfl⟩:=List.mem_map.mp hm
  obtain⟨ob,its,nn,g1,g2,_⟩:=TX x hxm
  exact⟨x.2.1,rfl,ob,Heap.get?_push_of_some _ g1,g2⟩
 refine EO (Nat.ne_of_gt c_) OL hn rfl AY Yj (by omega) ht (fun z0=>?_) (fun z1=>?_)
 ·show wpAny _ _ (Builtin.Dict.addKeywords s.heap.objs.size [] >>= _) _ _ _
  exact wpAny_bind (wpAny_pure (wpAny_pure ⟨rfl,h _ _ vd (Ds _ (fun b q hq=>Heap.get?_push_of_some _ hq) ⟨_,0,hn,⟨rfl,rfl,rfl⟩,by rw[Array.eq_empty_of_size_eq_zero z0]⟩)⟩))
 ·show wpAny _ _ (Builtin.Dict.addKeywords s.heap.objs.size [] >>= _) _ _ _
  refine wpAny_bind (wpAny_pure (wpAny_pure ⟨rfl,h _ _ vd (Ds _ (fun b q hq=>?_) ⟨_,_,Heap.get?_update_self _ hn (Obj.isFreed_of_dict (Obj.data_mapDictKeys rfl _)),Obj.ExactDict.mapDictKeys ⟨rfl,rfl,rfl⟩ _,Obj.data_mapDictKeys rfl _⟩)⟩))
  exact(Heap.get?_update_other _ _ (Nat.ne_of_gt (Heap.lt_size hq))).trans (Heap.get?_push_of_some _ hq)
theorem vv:g9 X (.type "dict") (fun xs H Q=>∃ a aJ,xs=[.ref a]/\Rd H a (.dT aJ)/\aJ.length<=1/\∀ p,H p=none->Q (.ref p) (upd H p (.dT aJ))):=by
 intro pins s σ H xs us Q I r h
 obtain⟨a,aJ,rfl,e,hk,q⟩:=h
 obtain⟨u,rfl,ru⟩:=vals1 r
 cases ru
 exact Lm I e hk fun p s' hp I'=>⟨.ref p,_,I',rfl,q p hp⟩
end
def bc{κ α:Type}[DecidableEq κ](L:List (κ×α))(x:κ):Option α:=(L.find? fun q=>decide (q.1=x)).map (·.2)
def oS{κ α:Type}[DecidableEq κ](L:List (κ×α))(x:κ)(y:α):List (κ×α):=if (L.any fun q=>decide (q.1=x))=true then L.map (fun q=>if q.1=x then (q.1,y) else q) else L++[(x,y)]
section
variable{κ α β:Type}[DecidableEq κ][DecidableEq β]
theorem iw(q:κ×α)(r:List (κ×α))(x:κ):bc (q::r) x=if q.1=x then some q.2 else bc r x:=by
 unfold bc
 rw[List.find?_cons]
 by_cases e:q.1=x
 ·rw[decide_eq_true e,if_pos e];rfl
 ·rw[decide_eq_false e,if_neg e]
def cY(key:κ->β)(R:V->α->Prop):List (β×V)->List (κ×α)->Prop:=Paired fun r q=>r.1=key q.1/\R r.2 q.2
variable{key:κ->β}{R R':V->α->Prop}(inj:∀ x y,key x=key y->x=y)
theorem cY.mono{rows:List (β×V)}{L:List (κ×α)}(h:cY key R rows L)(f:∀ v y,R v y->R' v y):cY key R' rows L:=Paired.AI h fun r q z=>⟨z.1,f _ _ z.2⟩
theorem cY.len{rows:List (β×V)}{L:List (κ×α)}(h:cY key R rows L):rows.length=L.length:=Paired.length h
include inj in
theorem cY.none{rows:List (β×V)}{L:List (κ×α)}(h:cY key R rows L){x:κ}(e:bc L x=none):iH rows (key x)=none:=by
 unfold cY at h
 induction h with
 | nil=>rfl
 | @cons r q rs qs z t ih =>
  rw[iw] at e
  by_cases c:q.1=x
  ·rw[if_pos c] at e;cases e
  ·rw[if_neg c] at e
   rw[i5 (fun w=>c (inj _ _ (z.1.symm.trans w)))]
   exact ih e
include inj in
theorem cY.get{rows:List (β×V)}{L:List (κ×α)}(h:cY key R rows L){x:κ}{y:α}(e:bc L x=some y):∃ v,iH rows (key x)=some v/\R v y:=by
 unfold cY at h
 induction h with
 | nil=>cases e
 | @cons r q rs qs z t ih =>
  rw[iw] at e
  by_cases c:q.1=x
  ·rw[if_pos c] at e
   cases e
   exact⟨r.2,jM (by rw[z.1,c]),z.2⟩
  ·rw[if_neg c] at e
   obtain⟨v,h1,h2⟩:=ih e
   exact⟨v,by rw[i5 (fun w=>c (inj _ _ (z.1.symm.trans w)))];exact h1,h2⟩
include inj in
theorem cY.isSome{rows:List (β×V)}{L:List (κ×α)}(h:cY key R rows L)(x:κ):(iH rows (key x)).isSome=(bc L x).isSome:=by
 cases e:bc L x with
 | none=>rw[h.none inj e];rfl
 | some y =>
  obtain⟨v,h1,_⟩:=h.get inj e
  rw[h1]
  rfl
include inj in
theorem cY.any{rows:List (β×V)}{L:List (κ×α)}(h:cY key R rows L)(x:κ):(rows.any fun r=>decide (r.1=key x))=L.any fun q=>decide (q.1=x):=by
 unfold cY at h
 induction h with
 | nil=>rfl
 | @cons r q rs qs z t ih =>
  rw[List.any_cons,List.any_cons,ih]
  by_cases c:q.1=x
  ·rw[decide_eq_true c,decide_eq_true (by rw[z.1,c])]
  ·rw[decide_eq_false c,decide_eq_false (fun w=>c (inj _ _ (z.1.symm.trans w)))]
include inj in
theorem cY.put{rows:List (β×V)}{L:List (κ×α)}(h:cY key R rows L)(x:κ){v:V}{y:α}(hv:R v y):cY key R (putK rows (key x) v) (oS L x y):=by
 unfold putK oS
 rw[h.any inj x]
 by_cases c:(L.any fun q=>decide (q.1=x))=true
 ·rw[if_pos c,if_pos c]
  unfold cY at h
  clear c
  induction h with
  | nil=>exact .nil
  | @cons r q rs qs z t ih =>
   rw[List.map_cons,List.map_cons]
   refine .cons ?_ ih
   by_cases e:q.1=x
   ·rw[if_pos e,if_pos (show r.1=key x by rw[z.1,e])]
    exact⟨z.1,hv⟩
   ·rw[if_neg e,if_neg (fun w=>e (inj _ _ (z.1.symm.trans w)))]
    exact z
 ·rw[if_neg c,if_neg c]
  have app:∀ {l1:List (β×V)} {l2:List (κ×α)},cY key R l1 l2->cY key R (l1++[(key x,v)]) (l2++[(x,y)]):=by
   intro l1 l2 hh
   unfold cY at hh ⊢
   induction hh with
   | nil=>exact .cons ⟨rfl,hv⟩ .nil
   | cons z t ih=>exact .cons z ih
  exact app h
theorem xF{L:List (κ×α)}{x:κ}:(L.any fun q=>decide (q.1=x))=(bc L x).isSome:=by
 induction L with
 | nil=>rfl
 | cons q r ih =>
  rw[List.any_cons,iw]
  by_cases e:q.1=x
  ·rw[decide_eq_true e,if_pos e];rfl
  ·rw[decide_eq_false e,if_neg e,Bool.false_or,ih]
theorem Dt{L:List (κ×α)}{x:κ}(y:α)(h:bc L x=none):oS L x y=L++[(x,y)]:=by
 unfold oS
 rw[xF,h]
 exact if_neg Bool.false_ne_true
end
structure Th where
 kd:Bool
 made:Int
 line:List (Int×Str)
structure Gf where
 no:Int
 name:Str
 TY:Str
 recv:Str
 kj:Int
 rank:Int
structure Pm where
 HI:Str
 maker:Str
 recv:Str
 last:Int
 how:Str
structure Hs where
 pe:List (Str×Int)
 bo:List ((Str×Str)×(de×List Int))
 th:List (Str×Th)
 fl:List (Int×Int)
 gi:List Gf
 pr:List Pm
 now:Int
structure Ct where
 H:Addr
 S:Addr
 T:Addr
 G:Addr
structure Ct.Ok(c:Ct):Prop where
 hs:c.H≠c.S
 ht:c.H≠c.T
 hg:c.H≠c.G
def Gf.v(g:Gf):List V:=[.int g.no,.str g.name,.str g.TY,.str g.recv,.int g.kj,.int g.rank]
def Pm.v(p:Pm):List V:=[.str p.HI,.str p.maker,.str p.recv,.int p.last,.str p.how]
def lC(H:Hp):List Addr->List (List V)->Prop:=Paired fun t vs=>H t=some (.tup vs)
abbrev thF(t:Th)(l:Addr):List (Str×V):=[("kind",.str (kS t.kd)),("made",.int t.made),("line",.ref l)]
def nH(c:Ct)(H:Hp)(v:V)(t:Th):Prop:=∃ a dx l ts,v=.ref a/\H a=some (.ins c.T dx (thF t l))/\H l=some (.tup (ts.map V.ref))/\lC H ts (t.line.map fun q=>[.int q.1,.str q.2])
def Bs(c:Ct)(sd:Addr)(H:Hp)(v:V)(b:de×List Int):Prop:=∃ (t:Addr) (a:F5) (nt:Addr),v=.ref t/\H t=some (.tup [.ref a.x,.ref nt])/\vf c.G H a b.1/\H nt=some (.tup (b.2.map V.int))/\a.k≠sd/\a.r≠sd/\a.m≠sd
abbrev sF(a b c d e f g:V):List (Str×V):=[("people",a),("bonds",b),("things",c),("fleets",d),("gifts",e),("promises",f),("now",g)]
abbrev hF(n:Int)(st sd un:Addr):List (Str×V):=[("islands",.int n),("state",.ref st),("stood",.ref sd),("undone",.ref un)]
abbrev O1(L:List (Str×Int)):List (Key×V):=L.map fun q=>(Sum.inr q.1,.int q.2)
abbrev O6(L:List (Int×Int)):List (Key×V):=L.map fun q=>(Sum.inl q.1,.int q.2)
def bK(q:Str×Str):List Key:=[Sum.inr q.1,Sum.inr q.2]
def tK(x:Str):Key:=Sum.inr x
theorem xG:∀ x y,bK x=bK y->x=y:=fun x y e=>by
 unfold bK at e
 injection e with e1 e2
 injection e2 with e2 _
 exact Prod.ext (Sum.inr.inj e1) (Sum.inr.inj e2)
theorem nI:∀ x y,tK x=tK y->x=y:=fun x y e=>Sum.inr.inj e
structure SA where
 st:Addr
 sx:Addr
 pe:Addr
 bo:Addr
 th:Addr
 fl:Addr
 gi:Addr
 pr:Addr
structure l4(c:Ct)(sd:Addr)(H:Hp)(a:SA)(M:Hs):Prop where
 gs:H a.st=some (.ins c.S a.sx (sF (.ref a.pe) (.ref a.bo) (.ref a.th) (.ref a.fl) (.ref a.gi) (.ref a.pr) (.int M.now)))
 ER:H a.pe=some (.dK (O1 M.pe))
 Ke:∃ rb,H a.bo=some (.dT rb)/\cY bK (Bs c sd H) rb M.bo
 Kf:∃ rt,H a.th=some (.dK rt)/\cY tK (nH c H) rt M.th
 Kg:H a.fl=some (.dK (O6 M.fl))
 Ln:∃ ts,H a.gi=some (.tup (ts.map V.ref))/\lC H ts (M.gi.map Gf.v)
 Lo:∃ ts,H a.pr=some (.tup (ts.map V.ref))/\lC H ts (M.pr.map Pm.v)
theorem lC.to{H H':Hp}(f:∀ b xs,H b=some (.tup xs)->H' b=some (.tup xs)){ts:List Addr}{TZ:List (List V)}(h:lC H ts TZ):lC H' ts TZ:=Paired.AI h fun t vs z=>f _ _ z
structure mC(h sd:Addr)(H H':Hp):Prop where
 k:∀ b u,b≠h->b≠sd->H b=some u->H' b=some u
theorem mC.of{h sd:Addr}{H H':Hp}(s:ak H H'):mC h sd H H':=⟨fun b u _ _ e=>s _ _ e⟩
theorem mC.trans{h sd:Addr}{H H1 H2:Hp}(a:mC h sd H H1)(b:mC h sd H1 H2):mC h sd H H2:=⟨fun x u h1 h2 e=>b.k x u h1 h2 (a.k x u h1 h2 e)⟩
section
variable{c:Ct}{sd:Addr}{H H':Hp}
theorem nH.same(s:ak H H'){v:V}{t:Th}(x:nH c H v t):nH c H' v t:=by
 obtain⟨a,dx,l,ts,e,g1,g2,g3⟩:=x
 exact⟨a,dx,l,ts,e,s _ _ g1,s _ _ g2,g3.to fun b xs q=>s _ _ q⟩
theorem Bs.same(s:ak H H'){v:V}{b:de×List Int}(x:Bs c sd H v b):Bs c sd H' v b:=by
 obtain⟨t,a,nt,e,g1,g2,g3,g4⟩:=x
 exact⟨t,a,nt,e,s _ _ g1,g2.same s,s _ _ g3,g4⟩
theorem l4.same{a:SA}{M:Hs}(x:l4 c sd H a M)(s:ak H H'):l4 c sd H' a M:=by
 obtain⟨rb,h1,h2⟩:=x.Ke
 obtain⟨rt,h3,h4⟩:=x.Kf
 obtain⟨tg,h5,h6⟩:=x.Ln
 obtain⟨tp,h7,h8⟩:=x.Lo
 exact⟨s _ _ x.gs,s _ _ x.ER,⟨rb,s _ _ h1,h2.mono fun v y z=>z.same s⟩,⟨rt,s _ _ h3,h4.mono fun v y z=>z.same s⟩,s _ _ x.Kg,⟨tg,s _ _ h5,h6.to fun b xs q=>s _ _ q⟩,⟨tp,s _ _ h7,h8.to fun b xs q=>s _ _ q⟩⟩
theorem l4.keep{a:SA}{M:Hs}{h dx:Addr}{fs:List (Str×V)}{xs:List V}(x:l4 c sd H a M)(ok:c.Ok)(gh:H h=some (.ins c.H dx fs))(gd:H sd=some (.lst xs))(k:mC h sd H H'):l4 c sd H' a M:=by
 have tup:∀ b ys,H b=some (.tup ys)->H' b=some (.tup ys):=fun b ys e=>k.k b _ (iq e gh (by intro z;cases z)) (iq e gd (by intro z;cases z)) e
 have dk:∀ b ys,H b=some (.dK ys)->H' b=some (.dK ys):=fun b ys e=>k.k b _ (iq e gh (by intro z;cases z)) (iq e gd (by intro z;cases z)) e
 have dt:∀ b ys,H b=some (.dT ys)->H' b=some (.dT ys):=fun b ys e=>k.k b _ (iq e gh (by intro z;cases z)) (iq e gd (by intro z;cases z)) e
 have ins:∀ b C d Kp,C≠c.H->H b=some (.ins C d Kp)->H' b=some (.ins C d Kp):=fun b C d Kp ne e=>k.k b _ (iq e gh (by intro z;injection z with z _;exact ne z)) (iq e gd (by intro z;cases z)) e
 have lst:∀ b ys,b≠sd->H b=some (.lst ys)->H' b=some (.lst ys):=fun b ys ne e=>k.k b _ (iq e gh (by intro z;cases z)) ne e
 obtain⟨rb,h1,h2⟩:=x.Ke
 obtain⟨rt,h3,h4⟩:=x.Kf
 obtain⟨tg,h5,h6⟩:=x.Ln
 obtain⟨tp,h7,h8⟩:=x.Lo
 refine⟨ins _ _ _ _ ok.hs.symm x.gs,dk _ _ x.ER,⟨rb,dt _ _ h1,h2.mono fun v y z=>?_⟩,⟨rt,dk _ _ h3,h4.mono fun v y z=>?_⟩,dk _ _ x.Kg,⟨tg,tup _ _ h5,h6.to tup⟩,⟨tp,tup _ _ h7,h8.to tup⟩⟩
 ·obtain⟨t,pa,nt,e,g1,g2,g3,n1,n2,n3⟩:=z
  exact⟨t,pa,nt,e,tup _ _ g1,⟨ins _ _ _ _ ok.hg.symm g2.x,lst _ _ n1 g2.k,lst _ _ n2 g2.r,lst _ _ n3 g2.m,g2.kr,g2.km,g2.rm⟩,tup _ _ g3,n1,n2,n3⟩
 ·obtain⟨ta,Bt,l,ts,e,g1,g2,g3⟩:=z
  exact⟨ta,Bt,l,ts,e,ins _ _ _ _ ok.ht.symm g1,tup _ _ g2,g3.to tup⟩
end
def xH(H:Hp):List Addr->List (List V)->Prop:=Paired fun t dv=>∃ d s,H t=some (.tup [.ref d,s])/\H d=some (.tup dv)
structure HA where
 h:Addr
 dx:Addr
 sd:Addr
 un:Addr
 s:SA
structure ug(c:Ct)(H:Hp)(a:HA)(n:Int)(M:Hs)(so:List (List V)):Prop where
 gh:H a.h=some (.ins c.H a.dx (hF n a.s.st a.sd a.un))
 gd:∃ ts,H a.sd=some (.lst (ts.map V.ref))/\xH H ts so
 st:l4 c a.sd H a.s M
theorem ug.same{c:Ct}{H H':Hp}{a:HA}{n:Int}{M:Hs}{so:List (List V)}(x:ug c H a n M so)(s:ak H H'):ug c H' a n M so:=by
 obtain⟨ts,g1,g2⟩:=x.gd
 exact⟨s _ _ x.gh,⟨ts,s _ _ g1,Paired.AI g2 fun t dv ⟨d,q,h1,h2⟩=>⟨d,q,s _ _ h1,s _ _ h2⟩⟩,x.st.same s⟩
structure ES(n:Int)(M:Hs)(so:List (List V)):Prop where
 n3:3<=n
 Wd:n<=20
 pe:M.pe.length<=100
 bo:M.bo.length<=1
 th:M.th.length<=100
 fl:M.fl.length<=100
 gi:M.gi.length<=100
 pr:M.pr.length<=100
 so:so.length<=100
end L2
namespace L2
open PySem PySem.Spec PyProof.Rows PySem.Builtin
theorem T2{α:Type}{M:Model}{A:Around}{E:Value->Shared->Prop}{s:Shared}{Q:α->Shared->Prop}{c:Prop}[Decidable c]{t e:Sem α}(h1:wpAny M A t Q E s)(h2:wpAny M A e Q E s):wpAny M A (if c then t else e) Q E s:=by
 by_cases h:c
 ·rw[if_pos h];exact h1
 ·rw[if_neg h];exact h2
theorem EU(t:Addr)(ys:Array Value):Meets (Builtin.«enumerate.__new__» ⟨[.type "enumerate",.ref t],[]⟩) (fun _ R s=>s.heap.IsTuple t ys /\
  R (.ok (.ret (.ref (s.heap.push { cls:=.type "tuple_iterator",data:=.fields #[.ref t,.int 0 0] }).objs.size))) { s with heap:=(s.heap.push { cls:=.type "tuple_iterator",data:=.fields #[.ref t,.int 0 0] }).push { cls:=.type "enumerate",data:=.fields #[.none,.bool false,.ref s.heap.objs.size,rawInt 0,.none,.none] } }) :=
 .of_wp fun prog w A R s g=>by
  obtain⟨hp,gn,dr,tk,os⟩:=s
  obtain⟨i1,g⟩:=g
  have sub:=sub_enumerate
  have j1:Heap.IsTuple (Shared.heap ⟨hp,gn,dr,tk,os⟩) t ys:=i1
  wp_walk using wpAny_pyIter_tuple j1
  refine wpAny_stack_any fun st=>wpAny_pure ?_
  refine T2 ?_ ?_
  ·wp_walk using wpAny_pyIter_tuple j1
   exact⟨_,rfl,g⟩
  ·wp_walk using wpAny_pyIter_tuple j1
   exact⟨_,rfl,g⟩
section
variable{prog:Program}{w:World}{A:Around}{E:Value->Shared->Prop}{s:Shared}
theorem Bu{t:Addr}{ys:Array Value}{Q:Value->Shared->Prop}(i1:s.heap.IsTuple t ys)
  (g:∀ h',IsEnum h' (s.heap.objs.size+1) s.heap.objs.size 0 .none->h'.IsTupleIter s.heap.objs.size t 0->(∀ c o,s.heap.get? c=some o->h'.get? c=some o)->Q (.ref (s.heap.objs.size+1)) { s with heap:=h' }) :
  wpAny (model prog w) A (call (.type "enumerate") [.ref t]) Q E s:=by
 refine callType_new F.called_enumerate (by decide) (F.typeCall_enumerate_1 _) (F.newCall_enumerate_1 _) (fun obj=>F.args_object_init_2 obj _) F.entry_enumerate_new (EU t ys) ⟨i1,?_⟩
 have up:∀ {h:Heap} {c:Addr} {o o':Obj},h.get? c=some o->(h.push o').get? c=some o:=fun e=>Heap.get?_push_of_some _ e
 have a1:(s.heap.push { cls:=.type "tuple_iterator",data:=.fields #[.ref t,.int 0 0] }).objs.size=s.heap.objs.size+1:=Heap.size_push ..
 generalize hk:s.heap.push { cls:=.type "tuple_iterator",data:=.fields #[.ref t,.int 0 0] }=k at a1
 have b2:(k.push { cls:=.type "enumerate",data:=.fields #[.none,.bool false,.ref s.heap.objs.size,rawInt 0,.none,.none] }).get? k.objs.size=some _:=Heap.get?_push_size _ rfl
 have b1:(k.push { cls:=.type "enumerate",data:=.fields #[.none,.bool false,.ref s.heap.objs.size,rawInt 0,.none,.none] }).get? s.heap.objs.size=some { cls:=.type "tuple_iterator",data:=.fields #[.ref t,.int 0 0] }:=up (by rw[<- hk];exact Heap.get?_push_size _ rfl)
 have b0:∀ c o,s.heap.get? c=some o->(k.push { cls:=.type "enumerate",data:=.fields #[.none,.bool false,.ref s.heap.objs.size,rawInt 0,.none,.none] }).get? c=some o:=fun c o e=>up (by rw[<- hk];exact up e)
 show _/\_
 rw[a1] at b2 ⊢
 exact⟨⟨_,b2,rfl⟩,g _ b2 ⟨_,b1,rfl,rfl⟩ b0⟩
theorem Bv{e it t:Addr}{i:Nat}{ys:Array Value}{x old:Value}{Q:Value->Shared->Prop}(he:IsEnum s.heap e it i old)(hi:s.heap.IsTupleIter it t i)(ht:s.heap.IsTuple t ys)(hx:ys[i]?=some x)(ne:e≠it)
  (q:∀ h',IsEnumOut h' e it (i+1) x s.heap.objs.size->h'.IsTupleIter it t (i+1)->h'.get? s.heap.objs.size=some { cls:=.type "tuple",data:=.seq #[.int i s.toks,x] }->(∀ b o,b≠e->b≠it->s.heap.get? b=some o->h'.get? b=some o) ->
   Q (.ref s.heap.objs.size) { s with heap:=h',toks:=s.toks+1 }) :
  wpAny (model prog w) A (Builtin.«enumerate.__next__» ⟨[.ref e],[]⟩) (fun fin s'=>∃ v,fin=.done (.ret v)/\Q v s') E s:=by
 refine(show wpAny _ _ (field (.ref e) 2 >>= _) _ _ _ from wpAny_bind (wpAny_field he rfl (x:=.ref it) rfl (wpAny_bind (ud hi ht hx fun g1 T1 e1=>?_))))
 have h1:IsEnum g1 e it i old:=e1.extBut _ _ ne he
 refine wpAny_bind (wpAny_field h1 rfl (x:=rawInt i) rfl (show wpAny _ _ (field (.ref e) 4 >>= _) _ _ _ from wpAny_bind (wpAny_field h1 rfl (x:=.none) rfl ?_)))
 rw[if_pos (by rfl)]
 refine wpAny_bind (wpAny_mkInt ?_)
 refine wpAny_bind (wpAny_setField_rec h1 (by simp) fun g2 z2 e2=>wpAny_bind (wpAny_setField_rec z2 (by simp) fun g3 z3 e3=>wpAny_bind (wpAny_newTuple ?_)))
 have z3':IsEnum g3 e it (i+1) old:=z3
 have z4:IsEnum (g3.push { cls:=.type "tuple",data:=.seq #[.int i s.toks,x] }) e it (i+1) old:=Heap.get?_push_of_some _ z3'
 refine(show wpAny _ _ (SmallTypes.ownedTupleIsFree (.ref e) >>= _) _ _ _ from wpAny_bind (show wpAny _ _ (do let v <- field (.ref e) 0;_) _ _ _ from wpAny_bind (wpAny_field z4 rfl (x:=.none) rfl (wpAny_pure ?_))))
 simp only[if_true]
 refine wpAny_bind (wpAny_rule (wpAny_bind (wpAny_field z4 rfl (x:=old) rfl (wpAny_bind (wpAny_setField_rec z4 (by simp) fun g5 z5 e5=>?_)))))
 refine(show wpAny _ _ (SmallTypes.ownedTupleHandOut (.ref e) (.ref g3.objs.size) >>= _) _ _ _ from wpAny_bind (show wpAny _ _ (do setField (.ref e) 0 (rawInt g3.objs.size);setField (.ref e) 1 (.bool false)) _ _ _ from wpAny_bind (wpAny_setField_rec z5 (by simp) fun g6 z6 e6=>wpAny_setField_rec z6 (by simp) fun g7 z7 e7=>wpAny_bind (wpAny_letGo (wpAny_pure ⟨_,rfl,?_⟩)))))
 have sz:g3.objs.size=s.heap.objs.size:=by rw[e3.1,e2.1,e1.1]
 have Wb:IsEnumOut g7 e it (i+1) x g3.objs.size:=z7
 have up:∀ c o,c≠e->c≠it->s.heap.get? c=some o->g7.get? c=some o:=fun c o c1 c2 r=>e7.extBut _ _ c1 (e6.extBut _ _ c1 (e5.extBut _ _ c1 (Heap.get?_push_of_some _ (e3.extBut _ _ c1 (e2.extBut _ _ c1 (e1.extBut _ _ c2 r))))))
 have lt:e<g3.objs.size:=Heap.lt_size z3'
 have nT:g3.objs.size≠e:=Nat.ne_of_gt lt
 have P7:g7.get? g3.objs.size=some { cls:=.type "tuple",data:=.seq #[.int i s.toks,x] }:=e7.extBut _ _ nT (e6.extBut _ _ nT (e5.extBut _ _ nT (Heap.get?_push_size _ rfl)))
 have T7:g7.IsTupleIter it t (i+1):=T1.at fun o r=>e7.extBut _ _ ne.symm (e6.extBut _ _ ne.symm (e5.extBut _ _ ne.symm (Heap.get?_push_of_some _ (e3.extBut _ _ ne.symm (e2.extBut _ _ ne.symm r)))))
 rw[sz] at Wb P7
 show Q (.ref g3.objs.size) _
 rw[sz]
 exact q g7 Wb T7 P7 up
theorem EV{e it t:Addr}{i:Nat}{ys:Array Value}{old:Value}{Q:PySem.Fin->Shared->Prop}(hh:A.handled=none)(he:IsEnum s.heap e it i old)(hi:s.heap.IsTupleIter it t i)(ht:s.heap.IsTuple t ys)(hx:ys[i]?=none)
  (q:∀ h' x,(∀ c o,c≠it->s.heap.get? c=some o->h'.get? c=some o)->(∃ o,h'.get? x=some o/\o.cls=.type "StopIteration")->E (.ref x) { s with heap:=h' }) :
  wpAny (model prog w) A (Builtin.«enumerate.__next__» ⟨[.ref e],[]⟩) Q E s :=
 (show wpAny _ _ (field (.ref e) 2 >>= _) _ _ _ from wpAny_bind (wpAny_field he rfl (x:=.ref it) rfl (wpAny_bind (wx hh hi ht hx fun g1 x e1 hx=>q g1 x (fun c o c1 r=>e1 _ _ c1 r) hx))))
end
def RS(K:W.Frag)(t:Addr):It :=
 ⟨fun i H=>∃ ys,bV K H t ys/\i<ys.length,
  fun i H x H'=>∃ T y1,x=.ref T/\H T=none/\H'=upd H T (.tup [.int i,y1])/\∀ ys,bV K H t ys->ys[i]?=some y1,
  fun i H=>∃ ys,bV K H t ys/\ys.length<=i⟩
theorem EX{P:Program}{w:World}{K:W.Frag}{elts:List Expr}{kx:Nat}{px:Pos}{e it t:Addr}(ne:e≠it) :
  Turn P w K (.Tuple elts kx px) (RS K t) [e,it] e (fun i h=>(∃ old,IsEnum h e it i old)/\h.IsTupleIter it t i) where
 mem:=by simp
 obj:=fun i h st b hb=>by
  obtain⟨⟨old,g1⟩,⟨o5,g5,_,d5⟩⟩:=st
  simp only[List.mem_cons,List.not_mem_nil,or_false] at hb
  rcases hb with e | e
  ·rw[e];exact⟨_,g1,fun v q=>by cases q⟩
  ·rw[e];exact⟨_,g5,fun v q=>by rw[d5] at q;cases q⟩
 keep:=fun i h h' st k=>by
  obtain⟨⟨old,g1⟩,g5⟩:=st
  exact⟨⟨old,k e (by simp) _ g1⟩,g5.at fun o r=>k it (by simp) o r⟩
 item:=by
  intro X hP hw hK hc i pins s σ H E I hf st hg
  subst hP hw hK
  obtain⟨ys,tS,hy⟩:=hg
  obtain⟨TB,Lg,p',RN⟩:=I.tuple tS
  obtain⟨v,hv,Yb⟩:=Lg.get (x:=ys[i]) (List.getElem?_eq_getElem hy)
  obtain⟨⟨old,g1⟩,g5⟩:=st
  have hT:s.TypeIs (.ref e) "enumerate" := ⟨_,g1,rfl⟩
  unfold pyNext
  refine wpAny_bind (wpAny_attempt (wpAny_callSpecial?_slot (name:=Str.ofString "__next__") hT F.slot_enumerate_next (wpAny_call_entry F.slot_enumerate_next hT F.entry_enumerate_next
   (Bv (x:=v) g1 g5 p' (by simpa using hv) ne fun h' a1 a2 a3 kp=>wpAny_pure ?_) (F.args_enumerate_next_1 _))))
  refine⟨_,rfl,wpAny_letOwnedTupleGo_enum (s:={ s with heap:=h',toks:=s.toks+1 }) a1 fun h2 z2 sb=>?_⟩
  have sz:∀ b∈[e,it],b<s.heap.objs.size:=fun b hb=>by
   obtain⟨o5,q5,_⟩:=g5
   simp only[List.mem_cons,List.not_mem_nil,or_false] at hb
   rcases hb with e | e<;>rw[e]
   ·exact Heap.lt_size g1
   ·exact Heap.lt_size q5
  have zT:s.heap.objs.size≠e:=Nat.ne_of_gt (sz e (by simp))
  have Yc:∀ b o,b∉[e,it]->s.heap.get? b=some o->h2.get? b=some o:=fun b o hb r=>by
   simp only[List.mem_cons,List.not_mem_nil,or_false,not_or] at hb
   exact(sb.2 b hb.1).trans (kp b o hb.1 hb.2 r)
  have OR:h2.get? s.heap.objs.size=some { cls:=.type "tuple",data:=.seq #[.int i s.toks,v] }:=(sb.2 _ zT).trans a3
  have fr:H s.heap.objs.size=none:=I.a8.fresh (Nat.le_refl _)
  have I2:Inv X pins σ (upd H s.heap.objs.size (.tup [.int i,ys[i]])) { s with heap:=h2,toks:=s.toks+1 }:=I.Dp (ws:=[e,it]) Yc hf (Nat.le_refl _) ⟨by show 2<=sizeLine;decide,[.int i s.toks,v],.cons ⟨_,rfl⟩ (.cons Yb .nil),⟨_,OR,rfl,_,rfl⟩⟩
  exact⟨.ref s.heap.objs.size,_,I2,rfl,⟨_,_,rfl,fr,rfl,fun zs hz=>by rw[I.p_ hz tS];exact List.getElem?_eq_getElem hy⟩,
   ⟨⟨_,z2⟩,a2.at fun o r=>(sb.2 _ ne.symm).trans r⟩,fun b hb=>by rw[aj (Nat.ne_of_lt (sz b hb))];exact(hf b hb).1⟩
 done:=by
  intro X hP hw hK hc i pins s σ H E I hf st hg
  subst hP hw hK
  obtain⟨ys,tS,OQ⟩:=hg
  obtain⟨TB,Lg,p',RN⟩:=I.tuple tS
  have l2:=Lg.length
  obtain⟨⟨old,g1⟩,g5⟩:=st
  have hT:s.TypeIs (.ref e) "enumerate" := ⟨_,g1,rfl⟩
  have hh:X.A.handled=none:=I.ok.hd hc
  unfold pyNext
  refine wpAny_bind (wpAny_attempt (wpAny_callSpecial?_slot (name:=Str.ofString "__next__") hT F.slot_enumerate_next (wpAny_call_entry F.slot_enumerate_next hT F.entry_enumerate_next
   (EV hh g1 g5 p' (by simpa [l2] using OQ) fun h' x kp ho=>?_) (F.args_enumerate_next_1 _))))
  obtain⟨o,ho,co⟩:=ho
  refine wpAny_bind (wpAny_isInstance (T := "StopIteration") (b:=true) ⟨o,ho,co⟩ isSubtype_stop (wpAny_pure ⟨rfl,?_⟩))
  exact I.Dn (t':=s.toks) (ws:=[it]) (fun b o hb r=>by
   simp only[List.mem_cons,List.not_mem_nil,or_false] at hb
   exact kp b o hb r) fun b hb=>hf b (by
   simp only[List.mem_cons,List.not_mem_nil,or_false] at hb ⊢
   exact .inr hb)
 self:=fun _ _ _ _ _ st h=>by
  obtain⟨⟨old,g1⟩,_⟩:=st
  exact wpAny_pyIter_enum g1 h
section
variable{X:Cx}
theorem EY:bootBuiltins "enumerate" = some (.type "enumerate"):=by left
def T6(K:W.Frag)(ta:TA):TI:=fun σ H R=>ta σ H fun vs H1=>∃ t ys,vs=[.ref t]/\bV K H1 t ys/\R (RS K t) H1
theorem Lp{elts:List Expr}{kx:Nat}{px:Pos}{a:Expr}{ta:TA}{p pos:Pos}(hg:Gl X "enumerate")(hm:X.mg "enumerate" = none)(ha:PA X [a] ta)(hs:starEach [a] X.env=[(false,eval a X.env)]:=by rfl) :
  PI X (.Tuple elts kx px) (.Call (.Name "enumerate" p) [a] [] pos) (T6 X.K ta):=by
 intro pins s σ H R I h
 refine Call_ (kW I hg hm EY (PyProof.Rows.callWith_type1 (bg (ha pos pins s σ H _ I h) fun us s1 ⟨vs,H1,I1,r1,q1⟩=>?_) hs rfl))
 obtain⟨t,ys,e,sy,q⟩:=q1
 subst e
 cases r1 with
 | cons r rr =>
  cases rr
  cases r
  obtain⟨TB,Lg,p2,RN⟩:=I1.tuple sy
  refine Bu p2 fun h' g1 g2 kp=>?_
  refine wpAny_pyIter_enum g1 ?_
  refine⟨_,[s1.heap.objs.size+1,s1.heap.objs.size],_,RS X.K t,H1,rfl,I1.kept (t':=s1.toks) kp,EX (e:=s1.heap.objs.size+1) (it:=s1.heap.objs.size) (Nat.succ_ne_self _),⟨⟨_,g1⟩,g2⟩,fun b hb=>?_,q⟩
  have Lb:s1.heap.objs.size<=b:=by
   simp only[List.mem_cons,List.not_mem_nil,or_false] at hb
   rcases hb with e | e<;>rw[e]
   ·exact Nat.le_succ _
   ·exact Nat.le_refl _
  exact I1.qa Lb (I1.a8.fresh Lb)
theorem HJ{K:W.Frag}{a:Addr}{xs:List V}{g:TG}{tb:TS}{D:Ends}{σ:St}{H:Hp}(Pv:Nat->St->Hp->Prop)(h0:Pv 0 σ H)(hl:∀ i σ H,i<=xs.length->Pv i σ H->bV K H a xs)
  (hs:∀ i x σ H T,xs[i]?=some x->Pv i σ H->H T=none->g (.ref T) σ (upd H T (.tup [.int i,x])) fun kY H2=>tb { D with nx:=Pv (i+1),ct:=Pv (i+1),bk:=D.nx } kY H2) (hd:∀ σ H,Pv xs.length σ H->D.nx σ H) :
  ∃ Wq:Nat->Nat->St->Hp->Prop,(∃ m,Wq 0 m σ H)/\∀ i m σ H,Wq i m σ H ->
   ((RS K a).stop i H/\D.nx σ H)\/((RS K a).go i H/\∃ N:St->Hp->Prop,(∀ bf H',N bf H'->∃ m',m'<m/\Wq (i+1) m' bf H')/\∀ x H',(RS K a).MQ i H x H'->g x σ H' fun kY H2=>tb { D with nx:=N,ct:=N,bk:=D.nx } kY H2):=by
 refine⟨fun i m σ H=>m=xs.length - i/\i<=xs.length/\Pv i σ H,⟨xs.length,by simp,Nat.zero_le _,h0⟩,?_⟩
 rintro i m σ H ⟨rfl,hi,p⟩
 have q:=hl i σ H hi p
 by_cases c_:i<xs.length
 ·refine .inr ⟨⟨xs,q,c_⟩,Pv (i+1),fun bf H' p'=>⟨xs.length - (i+1),by omega,rfl,c_,p'⟩,fun x H' y=>?_⟩
  obtain⟨T,y1,rfl,hT,rfl,hy⟩:=y
  exact hs i y1 σ H T (hy xs q) p hT
 ·have e:i=xs.length:=by omega
  subst e
  exact .inl ⟨⟨xs,q,Nat.le_refl _⟩,hd σ H p⟩
end
section
variable{X:Cx}{tg:Expr}
theorem Lq{iter:Expr}{body:List Stmt}{wi:TI}{g:TG}{tb:TS}{pos:Pos}(hc:X.calm=true)(hi:PI X tg iter wi)(hg:PG (X.fi (notedBy (model X.prog X.w) X.A X.env (cameBackBy (model X.prog X.w) X.A X.env X.xe))) tg g)(hb:vj (X.fi (notedBy (model X.prog X.w) X.A X.env (cameBackBy (model X.prog X.w) X.A X.env X.xe))) body tb)
  (hs:∀ x,foldedSetIterable iter X.env x=pure x:=by intro _;rfl):PS X (.For tg iter body [] pos) (N1 wi g tb):=by
 intro pins s σ H D I h
 refine wpAny_For (bg (hi pins s σ H _ I h) fun v s1 h1=>bg h1 fun MR s2 h2=>?_) hs
 obtain⟨it,fp,tn,J,H2,e,I2,T,vb,f2,Wq,⟨m0,w0⟩,turn⟩:=h2
 subst e
 have j_:∀ {H':Hp},(∀ b∈fp,H' b=none)->∀ b∈fp,c6 X pins H' b:=fun hn b hb=>⟨hn b hb,(f2 b hb).2⟩
 refine codeAny_forLoop_any (fun n s'=>∃ i bf H',Inv X pins bf H' s'/\tn i s'.heap/\(∀ b∈fp,H' b=none)/\Wq i n bf H') ?_ m0 ⟨0,σ,H2,I2,vb,fun b hb=>(f2 b hb).1,w0⟩
 rintro n s3 ⟨i,yI,H3,I3,CW,CY,w3⟩
 rcases turn i n yI H3 w3 with ⟨stop,qn⟩ | ⟨go,N,hN,step⟩
 ·refine bg (T.done X rfl rfl rfl hc i pins s3 yI H3 _ I3 (j_ CY) CW stop) fun r s4 ⟨hr,I4⟩=>?_
  subst hr
  exact wpAny_execs_nil ⟨yI,H3,I4,qn⟩
 ·refine bg (T.item X rfl rfl rfl hc i pins s3 yI H3 _ I3 (j_ CY) CW go) fun r s4 ⟨u,hr,h4⟩=>?_
  subst hr
  refine bg h4 fun _ s5 ⟨x,H5,I5,r5,y5,wY,Kz⟩=>?_
  have KA:=I5.pinned (j_ Kz) (T.obj _ _ wY)
  refine bg (hg _ s5 yI H5 x u _ (KA.fi _) r5 (step x H5 y5)) fun _ s6 ⟨RI,H6,I6,q6⟩=>?_
  refine bg (hb _ s6 RI H6 _ I6 q6) fun f s7 q7'=>?_
  have q7:=SP.iG q7'
  have again:∀ {mz:St} {H7:Hp},Inv X (pins++kZ fp s5.heap) mz H7 s7->N mz H7->∃ m,m<n/\∃ i bf H',Inv X pins bf H' s7/\tn i s7.heap/\(∀ b∈fp,H' b=none)/\Wq i m bf H':=fun {mz H7} I7 n7=>by
   obtain⟨m',hm,w7⟩:=hN mz H7 n7
   refine⟨m',hm,i+1,mz,H7,I7.c9,T.keep _ _ _ wY fun b hb o e=>(I7.pin (b,o) (List.mem_append_right _ (List.mem_append_right _ (cZ hb e)))).1,fun b hb=>?_,w7⟩
   obtain⟨o,e,d⟩:=T.obj _ _ wY b hb
   exact(I7.pin (b,o) (List.mem_append_right _ (List.mem_append_right _ (cZ hb e)))).2.1
  cases f with
  | next=>obtain⟨mz,H7,I7,n7⟩:=q7;exact again I7 n7
  | cont=>obtain⟨mz,H7,I7,n7⟩:=q7;exact again I7 n7
  | brk=>obtain⟨mz,H7,I7,q7⟩:=q7;exact⟨mz,H7,I7.c9,q7⟩
  | ret v=>obtain⟨x7,mz,H7,I7,r7,q7⟩:=q7;exact⟨x7,mz,H7,I7.c9,r7,q7⟩
end
section
variable{P:Program}{w:World}{K:W.Frag}{mg:Str->Option Value}{base:Heap}{N:List Str}{qual:Str}{bH:Scope}{f:Addr}{cd:Value}{A:Around}{outer:List Env}{s0:Shared}{H0:Hp}{E:XK}{tg:Expr}
theorem Lr:iJ ((XX P w K mg base N qual bH f cd A outer s0 H0 E).fi (notedBy (model P w) (A.deeper (envOfC qual bH s0.heap.objs.size f cd)) (envOfC qual bH s0.heap.objs.size f cd) (cameBackBy (model P w) (A.deeper (envOfC qual bH s0.heap.objs.size f cd)) (envOfC qual bH s0.heap.objs.size f cd) (XX P w K mg base N qual bH f cd A outer s0 H0 E).xe))) E:=by
 intro pins σ H' s' lo a Ce dx J fl wg hp hE
 have I':Inv (XX P w K mg base N qual bH f cd A outer s0 H0 E) pins σ H' s':=J.iG
 obtain⟨⟨vs,h1,h2,h3,h4⟩,h5,h6,fs,h7⟩:=fl
 have TU:s0.heap.objs.size<=lo:=wg
 show wpAny _ _ (noteFrame (.ref a) _) _ _ s'
 refine wA (base:=base) I'.ok.frames I'.stack (L:=s0.heap.objs.size) rfl h1 rfl h2 h3 fun g1 T oT ts t1 t2 G a1 a2 a3 a4=>?_
 have G':rB (s0.heap.objs.size::ni outer) (a::jk vs) s'.heap g1:=G
 have b1:g1.get? a=some ({ cls:=.ref Ce,dict:=some dx,data:=.fields (vs.setIfInBounds 1 (.ref T)) }:Obj):=a1
 have i3:3<ts.size:=(Array.getElem?_eq_some_iff.mp a4).1
 have v1:(vs.setIfInBounds 1 (.ref T))[1]?=some (.ref T):=by simp [h2]
 have tb:∀ b∈jk vs,lo<=b/\b≠a/\∃ o us,s'.heap.get? b=some o/\o.data=.fields us:=fun b hb=>by
  rcases h3 with t | ⟨T',AE,AF,q1,q2,q3,q4,q5,_⟩
  ·unfold jk at hb;rw[t] at hb;cases hb
  ·unfold jk at hb
   rw[q1] at hb
   rw[List.mem_singleton.mp hb]
   exact⟨q2,q3,_,_,q4,q5⟩
 show wpAny _ _ (field (.ref a) 1 >>= _) _ _ _
 refine wpAny_bind (wpAny_field b1 rfl v1 ?_)
 rw[if_neg (show ¬ (Value.ref T == Value.none)=true from Bool.false_ne_true)]
 unfold setFlight
 refine wpAny_bind (wpAny_field b1 rfl v1 ?_)
 rw[if_pos (show(Value.ref T != Value.none)=true from by simp)]
 refine wpAny_setField a2 a3 i3 ?_
 generalize hφ:(envOfC qual bH s0.heap.objs.size f cd).frame.elim Value.none (fun f=>rawInt f)=φ
 have zx:∀ b,b≠T->(g1.update T (Obj.mapFields (·.setIfInBounds 3 φ))).get? b=g1.get? b:=fun b hb=>Heap.get?_update_other _ _ (Ne.symm hb)
 have OX:=Heap.get?_update_self (Obj.mapFields (·.setIfInBounds 3 φ)) a2 (Obj.isFreed_of_fields (Obj.data_mapFields a3 _))
 have up:∀ b o,b≠T->g1.get? b=some o->(g1.update T (Obj.mapFields (·.setIfInBounds 3 φ))).get? b=some o:=fun b o Br e=>(zx b Br).trans e
 have TR:∀ b o,s'.heap.get? b=some o->b≠T:=fun b o e z=>absurd (Nat.lt_of_lt_of_le (Heap.lt_size e) t1) (by rw[z];exact Nat.lt_irrefl _)
 have I3:Inv (XX P w K mg base N qual bH f cd A outer s0 H0 E) pins σ H' { s' with heap:=g1.update T (Obj.mapFields (·.setIfInBounds 3 φ)) }:=by
  refine I'.gone (ws:=T::a::jk vs) (fun b o hb hc e=>?_) (fun b o hb e=>?_) (fun b o hc e=>?_) fun b hb=>?_
  ·simp only[List.mem_cons,not_or] at hc
   exact up b o hc.1 (G'.keep b o hb (by simp only[List.mem_cons,not_or];exact hc.2) e)
  ·obtain⟨sl,q⟩:=G'.slot b o hb e
   exact⟨sl,up b _ (TR b o e) q⟩
  ·obtain⟨o',q⟩:=G'.there b o e
   exact⟨o',up b o' (TR b o e) q⟩
  ·simp only[List.mem_cons] at hb
   have fp:∀ c o us,lo<=c->H' c=none->s'.heap.get? c=some o->o.data=.fields us->c6 (XX P w K mg base N qual bH f cd A outer s0 H0 E) pins H' c:=fun c o us hc hn g d=>by
    refine⟨hn,fun z=>?_,fun z=>kf I'.stack (show c∈s0.heap.objs.size::ni outer from List.mem_cons_of_mem _ z) g d,.inr (Nat.le_trans TU hc),fun x c' e z=>?_,fun p AD z=>?_⟩
    ·obtain⟨m,⟨o',es,ep,q',r',_⟩,_⟩:=I'.loc
     rw[<- z,g] at q'
     cases q'
     rw[d] at r'
     cases r'
    ·obtain⟨v,o',q',r'⟩:=I'.cell x c' e
     rw[z,g] at q'
     cases q'
     rw[d] at r'
     cases r'
    ·exact absurd (hp p AD) (by rw[z];exact Nat.not_lt.mpr hc)
   rcases hb with z | z | z
   ·rw[z];exact I'.qa t1 (I'.a8.fresh t1)
   ·rw[z];exact fp a _ _ h5 h6 h1 rfl
   ·obtain⟨o,us,g,d⟩:=(tb b z).2.2
    exact fp b o us (tb b z).1 (h4 b z) g d
 have Yg:H' T=none:=I'.a8.fresh t1
 have hsz:s0.heap.objs.size<=s'.heap.objs.size:=I'.sz
 refine zF I3 ⟨⟨_,(zx a (Ne.symm t2)).trans b1,by simp [h2],⟨T,_,_,φ,v1,Nat.le_trans hsz t1,t2,OX,Obj.data_mapFields a3 _,by simp [i3]⟩,fun T' xn=>?_⟩,Nat.le_trans TU h5,h6,fs,h7⟩ hE
 have e:T'=T:=by
  unfold jk at xn
  rw[v1] at xn
  exact List.mem_singleton.mp xn
 rw[e]
 exact Yg
theorem Ls{iter:Expr}{body:List Stmt}{wi:TI}{g:TG}{tb:TS}{pos:Pos}(hi:PI (XX P w K mg base N qual bH f cd A outer s0 H0 E) tg iter wi)(hg:∀ EE,PG ((XX P w K mg base N qual bH f cd A outer s0 H0 E).fi EE) tg g)
  (hb:∀ EE,iJ ((XX P w K mg base N qual bH f cd A outer s0 H0 E).fi EE) E->vj ((XX P w K mg base N qual bH f cd A outer s0 H0 E).fi EE) body tb) (hs:∀ x,foldedSetIterable iter (XX P w K mg base N qual bH f cd A outer s0 H0 E).env x=pure x:=by intro _;rfl) :
  PS (XX P w K mg base N qual bH f cd A outer s0 H0 E) (.For tg iter body [] pos) (N1 wi g tb):=Lq rfl hi (hg _) (hb _ Lr) hs
end
end L2
namespace L2
open PySem PySem.Spec PyProof.Rows
section
variable{κ α β:Type}[DecidableEq κ][DecidableEq β]{key:κ->β}(inj:∀ x y,key x=key y->x=y)(f:α->V)
include inj in
theorem zH(L:List (κ×α))(x:κ):iH (L.map fun q=>(key q.1,f q.2)) (key x)=(bc L x).map f:=by
 induction L with
 | nil=>rfl
 | cons q r ih =>
  rw[List.map_cons,iw]
  by_cases e:q.1=x
  ·rw[if_pos e,jM (by show key q.1=key x;rw[e])];rfl
  ·rw[if_neg e,i5 (fun w=>e (inj _ _ w)),ih]
include inj in
theorem zI(L:List (κ×α))(x:κ)(y:α):putK (L.map fun q=>(key q.1,f q.2)) (key x) (f y)=(oS L x y).map fun q=>(key q.1,f q.2):=by
 have any:((L.map fun q=>(key q.1,f q.2)).any fun r=>decide (r.1=key x))=L.any fun q=>decide (q.1=x):=by
  rw[List.any_map]
  congr 1
  funext q
  show decide (key q.1=key x)=decide (q.1=x)
  by_cases e:q.1=x
  ·rw[decide_eq_true e,decide_eq_true (by rw[e])]
  ·rw[decide_eq_false e,decide_eq_false (fun w=>e (inj _ _ w))]
 unfold putK oS
 rw[any]
 by_cases c:(L.any fun q=>decide (q.1=x))=true
 ·rw[if_pos c,if_pos c,List.map_map,List.map_map]
  congr 1
  funext q
  show(if key q.1=key x then (key q.1,f y) else (key q.1,f q.2))=(fun q:κ×α=>(key q.1,f q.2)) (if q.1=x then (q.1,y) else q)
  by_cases e:q.1=x
  ·rw[if_pos e,if_pos (by rw[e])]
  ·rw[if_neg e,if_neg (fun w=>e (inj _ _ w))]
 ·rw[if_neg c,if_neg c,List.map_append];rfl
end
theorem l5(L:List (Str×Int))(z:Str):iH (O1 L) (Sum.inr z)=(bc L z).map V.int:=zH (key:=tK) nI V.int L z
theorem Lu(L:List (Str×Int))(z:Str)(i:Int):putK (O1 L) (Sum.inr z) (.int i)=O1 (oS L z i):=zI (key:=tK) nI V.int L z i
def iK(i:Int):Key:=Sum.inl i
theorem HK:∀ x y,iK x=iK y->x=y:=fun x y e=>Sum.inl.inj e
theorem Lv(L:List (Int×Int))(z:Int):iH (O6 L) (Sum.inl z)=(bc L z).map V.int:=zH (key:=iK) HK V.int L z
theorem Lw(L:List (Int×Int))(z i:Int):putK (O6 L) (Sum.inl z) (.int i)=O6 (oS L z i):=zI (key:=iK) HK V.int L z i
theorem Lx(L:List (Str×Int)):(O1 L).length=L.length:=List.length_map ..
theorem Ly(L:List (Int×Int)):(O6 L).length=L.length:=List.length_map ..
theorem map_some{α β:Type}(f:α->β)(o:Option α):(o.map f).isSome=o.isSome:=by cases o<;>rfl
def Ni:Hs:=⟨[],[],[],[],[],[],0⟩
def Done(c:Ct)(H:Hp)(a:HA)(n:Int)(M':Hs)(so:List (List V))(dv:List V)(Q:VK)(v:V):Prop:=∀ (a':HA) (H':Hp),a'.h=a.h->a'.sd=a.sd->ug c H' a' n M' (so++[dv])->mC a.h a.sd H H'->Q v H'
theorem Done.from{c:Ct}{H H1:Hp}{a:HA}{n:Int}{M':Hs}{so:List (List V)}{dv:List V}{Q:VK}{v:V}(d:Done c H a n M' so dv Q v)(s:ak H H1):Done c H1 a n M' so dv Q v:=fun a' H' e1 e2 h k=>d a' H' e1 e2 h ((mC.of s).trans k)
theorem ug.stood{c:Ct}{H H':Hp}{a:HA}{n:Int}{M M2:Hs}{so:List (List V)}{a2:SA}{D un' t:Addr}{dv:List V}{ts:List Addr}(ok:c.Ok)(h:ug c H a n M so)(s2:l4 c a.sd H a2 M2)(gD:H D=some (.tup dv))(gl:H a.sd=some (.lst (ts.map V.ref)))(past:xH H ts so)
  (g1:H' a.h=some (.ins c.H a.dx (hF n a2.st a.sd un'))) (g2:H' a.sd=some (.lst (ts.map V.ref++[.ref t]))) (g3:H' t=some (.tup [.ref D,.ref a.s.st])) (k:mC a.h a.sd H H'):ug c H' { a with s:=a2,un:=un' } n M2 (so++[dv]):=by
 have tup:∀ b ys,H b=some (.tup ys)->H' b=some (.tup ys):=fun b ys e=>k.k b _ (iq e h.gh (by intro z;cases z)) (iq e gl (by intro z;cases z)) e
 refine⟨g1,⟨ts++[t],by rw[g2,List.map_append];rfl,?_⟩,s2.keep ok h.gh gl k⟩
 have app:∀ {l1:List Addr} {l2:List (List V)},xH H l1 l2->xH H' (l1++[t]) (l2++[dv]):=by
  intro l1 l2 hh
  unfold xH at hh ⊢
  induction hh with
  | nil=>exact .cons ⟨D,_,g3,tup _ _ gD⟩ .nil
  | cons z _ ih =>
   obtain⟨d,s,q1,q2⟩:=z
   exact .cons ⟨d,s,tup _ _ q1,tup _ _ q2⟩ ih
 exact app past
theorem xH.len{H:Hp}{ts:List Addr}{so:List (List V)}(h:xH H ts so):ts.length=so.length:=Paired.length h
end L2
namespace L2
open PySem PySem.Spec PyProof.Rows PySem.Builtin
def Th.hold(t:Th):Option Str:=t.line.getLast?.map (·.2)
theorem Bw(a b:Addr)(ys:Array Value)(n n2:Nat)(dd RK:Option Addr)(sl RL:Array (Option Value)):Meets (Builtin.«tuple.__add__» ⟨[.ref a,.ref b],[]⟩) (fun _ R s=>s.heap.get? a=some ⟨.type "tuple",dd,.seq #[] n,sl⟩/\s.heap.get? b=some ⟨.type "tuple",RK,.seq ys n2,RL⟩/\R (.ok (.ret (.ref b))) s) :=
 .of_wp fun prog w A R s g=>by
  obtain⟨hp,gn,dr,tk,os⟩:=s
  obtain⟨h1,h2,g⟩:=g
  have sub:=PySem.F.isi_sub_tuple
  wp_walk using rfl
  exact⟨_,rfl,g⟩
theorem HL{prog:Program}{w:World}{A:Around}{E:Value->Shared->Prop}{s:Shared}{t b:Addr}{ws:List Value}{Q:Value->Shared->Prop}(ht:IsTup s.heap t #[])(hb:IsTup s.heap b ws.toArray)(h1:Q (.ref b) s):wpAny (model prog w) A (binaryOp .Add (.ref t) (.ref b)) Q E s:=by
 obtain⟨⟨cls,dd,data,sl⟩,ho,hc,n,hd⟩:=id ht
 obtain⟨⟨W8,RK,data2,RL⟩,AY,Sz,n2,hd2⟩:=id hb
 simp only at hc hd Sz hd2
 subst hc hd Sz hd2
 exact concat_meets ⟨_,ho,rfl⟩ ⟨_,AY,rfl⟩ noFill_tuple_add seq_tuple_add PySem.F.slot_tuple_add PySem.F.entry_tuple_add (PySem.F.args_tuple_add_2 _ _) (Bw t b ws.toArray n n2 dd RK sl RL) ⟨ho,AY,h1⟩
section
variable{X:Cx}
def Nj(K:W.Frag):R2:=fun x y H Q=>∃ a b xs ys,x=.ref a/\y=.ref b/\bV K H a xs/\bV K H b ys/\xs.length+ys.length<=sizeLine/\ys≠[]/\(xs=[]->Q (.ref b) H)/\(xs≠[]->∀ p,H p=none->Q (.ref p) (upd H p (.tup (xs++ys))))
theorem uh:pV X (binaryOp .Add) (Nj X.K):=by
 intro pins s σ H x y v u Q I rx ry h
 obtain⟨a,b,xs,ys,rfl,rfl,ha,hb,hz,hy,q1,q2⟩:=h
 by_cases hx:xs=[]
 ·subst hx
  cases rx
  cases ry
  obtain⟨its,r1,p1,_⟩:=I.tuple ha
  obtain⟨KN,r2,p2,_⟩:=I.tuple hb
  have e:its=[]:=r1.si.mpr rfl
  subst e
  exact HL p1 p2 ⟨.ref b,H,I,rfl,q1 rfl⟩
 ·exact KL pins s σ H (.ref a) (.ref b) v u Q I rx ry ⟨a,b,xs,ys,rfl,rfl,ha,hb,hx,hz,fun z=>absurd z hy,fun _=>q2 hx⟩
end
structure Ct.We(c:Ct):Prop where
 st:c.S≠c.T
 sg:c.S≠c.G
def jl(c:Ct)(H H':Hp):Prop:=∀ b u,(∀ dx fs,u≠.ins c.S dx fs)->H b=some u->H' b=some u
section
variable{c:Ct}{H H' H2:Hp}{sd:Addr}
theorem jl.of(s:ak H H'):jl c H H':=fun b u _ e=>s b u e
theorem jl.trans(x:jl c H H')(y:jl c H' H2):jl c H H2:=fun b u n e=>y b u n (x b u n e)
theorem jl.upd{y dx:Addr}{fs:List (Str×V)}{o:HO}(h:H y=some (.ins c.S dx fs)):jl c H (upd H y o):=fun b u n e=>by
 rw[aj (fun z=>n dx fs (by rw[z,h] at e;exact(Option.some.inj e).symm))]
 exact e
theorem jl.tup(x:jl c H H'){b:Addr}{xs:List V}(e:H b=some (.tup xs)):H' b=some (.tup xs):=x _ _ (fun _ _ z=>by cases z) e
theorem jl.lst(x:jl c H H'){b:Addr}{xs:List V}(e:H b=some (.lst xs)):H' b=some (.lst xs):=x _ _ (fun _ _ z=>by cases z) e
theorem jl.dK(x:jl c H H'){b:Addr}{xs:List (Key×V)}(e:H b=some (.dK xs)):H' b=some (.dK xs):=x _ _ (fun _ _ z=>by cases z) e
theorem jl.dT(x:jl c H H'){b:Addr}{xs:List (List Key×V)}(e:H b=some (.dT xs)):H' b=some (.dT xs):=x _ _ (fun _ _ z=>by cases z) e
theorem jl.ins(x:jl c H H'){b C d:Addr}{fs:List (Str×V)}(n:c.S≠C)(e:H b=some (.ins C d fs)):H' b=some (.ins C d fs):=x _ _ (fun _ _ z=>by injection z with z;exact n z.symm) e
theorem nH.but(ok:c.We)(x:jl c H H'){v:V}{t:Th}(h:nH c H v t):nH c H' v t:=by
 obtain⟨a,dx,l,ts,e,g1,g2,g3⟩:=h
 exact⟨a,dx,l,ts,e,x.ins ok.st g1,x.tup g2,g3.to fun b xs q=>x.tup q⟩
theorem vf.but(ok:c.We)(x:jl c H H'){a:F5}{p:de}(h:vf c.G H a p):vf c.G H' a p:=⟨x.ins ok.sg h.x,x.lst h.k,x.lst h.r,x.lst h.m,h.kr,h.km,h.rm⟩
end
theorem wC{K:W.Frag}{Q:VK}{H:Hp}{a b:Addr}{xs ys:List V}(ha:H a=some (.tup xs))(hb:H b=some (.tup ys))(hl:xs.length+ys.length<=sizeLine)(hy:ys≠[])(k:∀ q H',ak H H'->H' q=some (.tup (xs++ys))->Q (.ref q) H') :
  Nj K (.ref a) (.ref b) H Q :=
 ⟨a,b,xs,ys,rfl,rfl,bV.of ha,bV.of hb,hl,hy,fun e=>k b H (ak.refl _) (by rw[e];exact hb),fun _ p hp=>k p _ (ak.new hp) af⟩
end L2
namespace L2
open PySem PySem.Spec PyProof.Rows
theorem lC.put{H:Hp}{ts:List Addr}{TZ:List (List V)}{D:Addr}{o:HO}(h:lC H ts TZ)(hD:D∉ts):lC (upd H D o) ts TZ:=by
 unfold lC at h ⊢
 induction h with
 | nil=>exact .nil
 | cons z _ ih =>
  simp only[List.mem_cons,not_or] at hD
  exact .cons (by rw[aj (Ne.symm hD.1)];exact z) (ih hD.2)
theorem Bx{K:W.Frag}{a D:Addr}{xs:List V}{tt:TT}{te:TE}{σ:St}{H1:Hp}{Q:Hp->Prop}(mB:List (List V))(hl:mB.length=xs.length)(hS:bx K H1 a xs)(hD:H1 D=none)(hz:xs.length<=sizeLine)
  (ht:∀ (s:St) (H:Hp) (R:Bool->Hp->Prop),R true H->tt s H R)
  (he:∀ (i:Nat) x dv,xs[i]?=some x->mB[i]?=some dv->∀ (H:Hp) (R:VK),ak H1 H->(∀ t H',ak H H'->H t=none->H' t=some (.tup dv)->R (.ref t) H')->te (some x::σ) H R)
  (hd:∀ ts H2,ak H1 H2->H2 D=some (.lst (ts.map V.ref))->lC H2 ts mB->Q H2):qY 1 (jm 0) tt te D (Gn K a) σ H1 Q:=by
 refine⟨fun i m zs H=>m=xs.length - i/\i<=xs.length/\(∃ ts:List Addr,zs=ts.map V.ref/\ts.length=i/\lC H ts (mB.take i)/\D∉ts)/\ak H1 H/\H D=some (.lst zs),⟨xs.length,by simp,Nat.zero_le _,⟨[],rfl,rfl,.nil,by simp⟩,(ak.refl _).put hD,af⟩,?_⟩
 rintro i m zs H ⟨rfl,hi,⟨ts,rfl,lt,tl,nD⟩,sm,hH⟩
 by_cases c_:i<xs.length
 ·refine .inr ⟨⟨xs,xs[i],sm.seq hS,by simp [c_]⟩,fun os x H' ol yl=>?_⟩
  obtain⟨rfl,e⟩:=yl
  have e':=e xs (sm.seq hS)
  have gd:mB[i]?=some (mB[i]'(by omega)):=List.getElem?_eq_getElem (by omega)
  match os,ol with
  | [o],_ =>
  refine⟨⟨[some x],rfl,rfl⟩,ht _ _ _ (cH ?_)⟩
  refine he i x _ e' gd _ _ sm fun t H3 s3 nt gt=>?_
  have ntD:D≠t:=ah hH nt
  have nDt:D∉ts++[t]:=fun z=>by
   rcases List.mem_append.mp z with z | z
   ·exact nD z
   ·exact ntD (List.mem_singleton.mp z)
  refine⟨s3 _ _ hH,by rw[List.length_map];omega,xs.length - (i+1),by omega,rfl,by omega,⟨ts++[t],by rw[List.map_append];rfl,by rw[List.length_append,lt];rfl,?_,nDt⟩,(sm.trans s3).put hD,af⟩
  rw[List.take_add_one,gd]
  exact lC.put (PySem.Paired.snoc (tl.to fun b xs q=>s3 _ _ q) gt) nDt
 ·have e:i=xs.length:=by omega
  subst e
  refine .inl ⟨⟨xs,sm.seq hS,by simp⟩,hd ts H sm hH ?_⟩
  rw[List.take_of_length_le (by omega)] at tl
  exact tl
theorem zJ{K:W.Frag}{a D:Addr}{ts:List Addr}{ps:List (V×V)}{g:TG}{tt:TT}{te:TE}{σ:St}{H1:Hp}{Q:Hp->Prop}(hS:bx K H1 a (ts.map V.ref))(hp:Paired (fun t (p:V×V)=>H1 t=some (.tup [p.1,p.2])) ts ps)(hD:H1 D=none)(hz:ts.length<=sizeLine)
  (hg:∀ T x y (os:St) (H:Hp) (R:St->Hp->Prop),os.length=2->H T=some (.tup [x,y])->R (some x::some y::σ) H->g (.ref T) (os++σ) H R)
  (ht:∀ (s:St) (H:Hp) (R:Bool->Hp->Prop),R true H->tt s H R)
  (he:∀ x y (H:Hp) (R:VK),R x H->te (some x::some y::σ) H R)
  (hd:∀ H2,ak H1 H2->H2 D=some (.lst (ps.map (·.1)))->Q H2):qY 2 g tt te D (Gn K a) σ H1 Q:=by
 have ll:ts.length=ps.length:=Paired.length hp
 refine⟨fun i m zs H=>m=ts.length - i/\i<=ts.length/\zs=(ps.take i).map (·.1)/\ak H1 H/\H D=some (.lst zs),⟨ts.length,by simp,Nat.zero_le _,rfl,(ak.refl _).put hD,af⟩,?_⟩
 rintro i m zs H ⟨rfl,hi,rfl,sm,hH⟩
 by_cases c_:i<ts.length
 ·refine .inr ⟨⟨_,V.ref ts[i],sm.seq hS,by simp [c_]⟩,fun os x H' ol yl=>?_⟩
  obtain⟨rfl,e⟩:=yl
  have e':=e _ (sm.seq hS)
  rw[List.getElem?_map,List.getElem?_eq_getElem c_] at e'
  cases e'
  have at_:∀ {l1:List Addr} {l2:List (V×V)},Paired (fun t (p:V×V)=>H1 t=some (.tup [p.1,p.2])) l1 l2->∀ {j:Nat} {t:Addr},l1[j]?=some t->∃ p,l2[j]?=some p/\H1 t=some (.tup [p.1,p.2]):=by
   intro l1 l2 h
   induction h with
   | nil=>intro j t e;cases e
   | cons z _ ih =>
    intro j t e
    cases j with
    | zero=>cases e;exact⟨_,rfl,z⟩
    | succ j=>exact ih e
  obtain⟨p,ep,gp⟩:=at_ hp (List.getElem?_eq_getElem c_)
  refine hg _ p.1 p.2 os _ _ ol (sm _ _ gp) ⟨⟨[some p.1,some p.2],rfl,rfl⟩,ht _ _ _ (cH ?_)⟩
  refine he _ _ _ _ ⟨hH,by rw[List.length_map,List.length_take];omega,ts.length - (i+1),by omega,rfl,by omega,?_,sm.put hD,af⟩
  rw[List.take_add_one,ep,List.map_append]
  rfl
 ·have e:i=ts.length:=by omega
  subst e
  refine .inl ⟨⟨_,sm.seq hS,by simp⟩,hd H sm ?_⟩
  rw[hH,List.take_of_length_le (by omega)]
section
variable{P:Program}{w:World}{K:W.Frag}{mg:Str->Option Value}{base:Heap}{N:List Str}{qual:Str}{bH:Scope}{f:Addr}{cd:Value}{A:Around}{outer:List Env}{s0:Shared}{H0:Hp}{E:XK}
variable{scope:Scope}{x:List Str}{elt iter:Expr}{ifs:List Expr}{tg:Expr}{g:TG}{pos:Pos}{te:TE}{tt:TT}{wi:TI}
theorem EZ{y:Str}{py t8:Pos}{j:Nat}(S:rD x scope (XX P w K mg base N qual bH f cd A outer s0 H0 E).env)(hx:Str.empty∉x)(hN:(F6 x N).Nodup)(Ox:N.Nodup)(hj:N[j]?=some y)(hy:bH.names.lookup y=some .local)(hi:PI (XX P w K mg base N qual bH f cd A outer s0 H0 E) tg iter wi)
  (hg:∀ C s H fp pins,PG (aU (XX P w K mg base N qual bH f cd A outer s0 H0 E) scope x C s H fp pins) tg g) (gF:∀ C s H fp pins EE,iJ ((aU (XX P w K mg base N qual bH f cd A outer s0 H0 E) scope x C s H fp pins).fi EE) E->PE ((aU (XX P w K mg base N qual bH f cd A outer s0 H0 E) scope x C s H fp pins).fi EE) elt te) (gH:∀ C s H fp pins,yX (aU (XX P w K mg base N qual bH f cd A outer s0 H0 E) scope x C s H fp pins) ifs tt)
  (Oy:swapsWith (.ListComp elt [⟨tg,iter,ifs,0⟩] scope pos) (some (.Name y py)) t8.line (XX P w K mg base N qual bH f cd A outer s0 H0 E).env=pure true)
  (hs:∀ v,foldedSetIterable iter (XX P w K mg base N qual bH f cd A outer s0 H0 E).env v=pure v) :
  PS (XX P w K mg base N qual bH f cd A outer s0 H0 E) (.Assign [.Name y py] (.ListComp elt [⟨tg,iter,ifs,0⟩] scope pos) t8) (D6 (zm x.length wi g tt te) (jm j)):=by
 intro pins s σ H D I h
 rw[exec_Assign_Name_used _ _ _ _ Oy]
 refine wpAny_bind (wpAny_standAt (wpAny_bind ?_))
 have KZ:=cX (scope:=scope) (env:=(XX P w K mg base N qual bH f cd A outer s0 H0 E).env) fun y hy hk=>I.ok.has y.1 (S.free y hy hk)
 have Ow:∀ y∈scope.names,y.2=.local->scope.names.lookup y.1=some .local:=S.nm
 show wpAny _ (XX P w K mg base N qual bH f cd A outer s0 H0 E).A (do let _ <- comprehension (.ListComp elt [⟨tg,iter,ifs,0⟩] scope pos) scope (XX P w K mg base N qual bH f cd A outer s0 H0 E).env _ (newList []) false (eval iter (XX P w K mg base N qual bH f cd A outer s0 H0 E).env) (some (assign (.Name y py) (XX P w K mg base N qual bH f cd A outer s0 H0 E).env))) _ _ s
 refine wpAny_bind (wpAny_mono (wpAny_comprehension_free (use:=some (assign (.Name y py) (XX P w K mg base N qual bH f cd A outer s0 H0 E).env)) (Q:=fun _ s'=>SP (XX P w K mg base N qual bH f cd A outer s0 H0 E) pins D .next s') rfl hs KZ S.kind Ow
  (bg (hi pins s σ H _ I h) fun v s1 h1=>bg h1 fun MR s2 h2=>?_)) (fun _ s' hq=>wpAny_pure (wpAny_pure hq)) fun _ _ e=>e)
 obtain⟨it,fp,tn,J,H2,e,I2,T,vb,f2,q⟩:=h2
 subst e
 refine q_ (use:=some (assign (.Name y py) (XX P w K mg base N qual bH f cd A outer s0 H0 E).env)) (QQ:=fun _ s'=>SP (XX P w K mg base N qual bH f cd A outer s0 H0 E) pins D .next s') (EK:=E) (Q:=fun A H'=>D.nx (σ.set j (some (.ref A))) H') rfl S hx hN hg gF (fun C D s H σ fp pins I hC hf=>wB (D:=D) (QQ:=fun _ _=>True) I hC hf) gH I2 T vb f2 q ?_
 intro A' C s' H' m I' f' yz Ku El q'
 show wpAny _ (XX P w K mg base N qual bH f cd A outer s0 H0 E).A (assign (.Name y py) (XX P w K mg base N qual bH f cd A outer s0 H0 E).env (.ref A')) _ _ _
 refine wpAny_assign_Name (pZ (i:=j) (v:=.ref A') I' Ox hj (.inl hy) rfl (fun GD Xl ⟨a,sb,ha⟩=>?_) (.inr hy))
 have Xm:C≠a:=by
  rcases ha with z | z
  ·rw[z];exact El
  ·exact Ku y a z
 refine⟨m,yz.sameBut sb Xm,fun h' Xn=>⟨_,H',Xl.turned (t':=GD.toks) (fun b o hb e=>(Xn.2 b hb).trans e) f'.1 f'.2.1 f'.2.2.2.1 f'.2.2.2.2.1 f'.2.2.2.2.2,q'⟩⟩
theorem Lz{x1:Str}{p1:Pos}{y:Str}{py t8:Pos}(j:Nat)(oH:bM [x1] scope bH N=true)(Ox:N.Nodup)(hj:N[j]?=some y)(hy:bH.names.lookup y=some .local)(hi:PI (XX P w K mg base N qual bH f cd A outer s0 H0 E) (.Name x1 p1) iter wi)
  (gF:∀ C s H fp pins EE,iJ ((aU (XX P w K mg base N qual bH f cd A outer s0 H0 E) scope [x1] C s H fp pins).fi EE) E->PE ((aU (XX P w K mg base N qual bH f cd A outer s0 H0 E) scope [x1] C s H fp pins).fi EE) elt te) (gH:∀ C s H fp pins,yX (aU (XX P w K mg base N qual bH f cd A outer s0 H0 E) scope [x1] C s H fp pins) ifs tt)
  (Oy:swapsWith (.ListComp elt [⟨.Name x1 p1,iter,ifs,0⟩] scope pos) (some (.Name y py)) t8.line (XX P w K mg base N qual bH f cd A outer s0 H0 E).env=pure true:=by rfl)
  (hs:∀ v,foldedSetIterable iter (XX P w K mg base N qual bH f cd A outer s0 H0 E).env v=pure v:=by intro _;rfl):PS (XX P w K mg base N qual bH f cd A outer s0 H0 E) (.Assign [.Name y py] (.ListComp elt [⟨.Name x1 p1,iter,ifs,0⟩] scope pos) t8) (D6 (zm 1 wi (jm 0) tt te) (jm j)) :=
 EZ (bM.scope oH rfl) (bM.ne oH) (bM.nd oH) Ox hj hy hi (Lk (bM.scope oH rfl) (bM.nd oH)) gF gH Oy hs
end
end L2
namespace K29
open PySem L2
def top(i:Nat):Stmt:=PySem.Challenge.pw_shellround_k29_texts_of_no_house.main.body.getD i (.Pass ⟨0,0,0,0⟩)
abbrev Nk:Stmt:=inClass (top 2) 0
theorem big{n:Nat}(h:n<=1000):n<=sizeLine:=Nat.le_of_lt (dP h)
def T8(K:W.Frag):Sp:=fun vs H Q _=>∃ e C z wd,vs=[.ref e,.str z,.str wd]/\z.length<=1000/\wd.length<=1000/\H e=some (XO e C)/\kh K C/\K7 K C/\bB K C "word" /\ ∀ dx,H dx=none->Q .bY (upd (upd H dx (.xd [("word",.str wd)])) e (XD e C dx))
structure gC(K:W.Frag)(mg:Str->Option Value)(cR fR:Addr)(gI:FuncData):Prop where
 ve:mg "ValueError" = none
 vi:W.findCls K (.type "ValueError") (.type "type") "__init__" = some (.val (.builtin "ValueError.__init__"))
 mR:mg "RoundError" = some (.ref cR)
 sp:W.specialIn K (.ref cR) "__getattribute__" = some (some (.builtin "type.__getattribute__"))
 rd:W.readsIn K cR (.type "type")=true
 fc:W.findCls K (.ref cR) (.type "type") "__init__" = some (.val (.ref fR))
 F:oK K "__init__" "RoundError.__init__" Nk fR gI
 b:Binds K gI ["self", "why", "word"] []
def Yn(wd:Str)(p0 p1 p2 p3 p4 p5 p6 p7 p8 p9 T9:Pos):Stmt:=.FunctionDef "__init__" ⟨[],[⟨"self",none,p0⟩,⟨"why",none,p1⟩],none,[],[],none,[.Constant (.str "") 0 p2]⟩ [.Expr (.Call (.Attribute (.Name "RoundError" p3) "__init__" p4) [.Name "self" p5,.Name "why" p6,.Constant (.str wd) 0 p7] [] p8) p9] [] none [] ⟨.function,[(Str.ofString "self",.local),(Str.ofString "why",.local),(Str.ofString "RoundError",.globalImplicit)],false,false,[]⟩ none "__init__" T9
def vg(st:Stmt)(wd:Str):Prop:=∃ p0 p1 p2 p3 p4 p5 p6 p7 p8 p9 T9,st=Yn wd p0 p1 p2 p3 p4 p5 p6 p7 p8 p9 T9/\wd.length<=1000/\∃ pl:Env->Sem Bool,∀ env:Env,eval (.Call (.Attribute (.Name "RoundError" p3) "__init__" p4) [.Name "self" p5,.Name "why" p6,.Constant (.str wd) 0 p7] [] p8) env=(do
 let ov <- eval (.Name "RoundError" p3) env
 standAt p4.atName
 let (f,first) <- holding [ov] (getMethod ov "__init__" (pl env))
 callWith p8 f first (backTo p8 (starEach [.Name "self" p5,.Name "why" p6,.Constant (.str wd) 0 p7] env)) (backToKw p8 (keywordEach [] env)))
structure cb(K:W.Frag)(mg:Str->Option Value)(cR:Addr)(x wd:Str)(C fI:Addr)(fd:FuncData):Prop where
 m:mg x=some (.ref C)
 cls:kh K C
 obj:K7 K C
 na:bB K C "word"
 init:W.findIn K (.ref C) "__init__" = some (some (.ref fI))
 fn:W.isFn K (.ref fI)=true
 ex:W.exmOne K (.ref C) (.ref cR)=some true
 F:∃ q st,oK K "__init__" q st fI fd/\vg st wd
 b:Binds K fd ["self", "why"] []
section
variable{P:Program}{w:World}{K:W.Frag}{mg:Str->Option Value}{base:Heap}
theorem Yo:au ["self", "why", "word"] ["self", "why", "word"] (ao Nk):=by right
theorem T_{cR f:Addr}{fd:FuncData}(T:gC K mg cR f fd):aE P w K mg base aY 1 f fd ["self", "why", "word"] (T8 K):=by
 refine T.F.ok0 Yo (fun vs H Q E h=>?_) (fun bJ A outer s H vs Q E hr h=>?_)
 ·obtain⟨e,C,z,wd,rfl,_⟩:=h
  rfl
 ·obtain⟨e,C,z,wd,rfl,hz,hw,he,c,xo,na,k⟩:=h
  refine⟨_,aa (aK (Bb rfl T.ve T.vi (U (pv 0) (U (OG (pv 1) (j8 (pv 2))) ae)))) (ai (Et (pv 0) (pv 2) rfl)),?_⟩
  refine⟨_,rfl,_,rfl,_,⟨big hz,rfl⟩,?_⟩
  have fin:∃ v,(start ["self", "why", "word"] [V.ref e,V.str z,V.str wd])[2]?=some (some v)/\∃ v',(start ["self", "why", "word"] [V.ref e,V.str z,V.str wd])[0]?=some (some v')/\∃ a C,v'=.ref a/\H a=some (XO a C)/\kh K C/\bB K C "word" /\ ∀ dx,H dx=none->Q .bY (upd (upd H dx (.xd [("word",v)])) a (XD a C dx)) :=
   ⟨_,rfl,_,rfl,e,C,rfl,he,c,na,k⟩
  refine eg (fun _=>?_) (fun _=>?_)
  ·exact⟨e,C,_,rfl,by show 1<=1000;decide,he,xo,fin⟩
  ·exact⟨_,rfl,e,C,_,rfl,by show 1<=1000;decide,he,xo,fin⟩
theorem g_{cR fR C f:Addr}{gI fd:FuncData}{x wd:Str}(T:gC K mg cR fR gI)(D:cb K mg cR x wd C f fd):aE P w K mg base aY 2 f fd ["self", "why"] (cJ C wd):=by
 have GR:aE P w K mg base aY 1 fR gI _ (T8 K):=T_ T
 obtain⟨q,st,F,p0,p1,p2,p3,p4,p5,p6,p7,p8,p9,T9,rfl,hw,pl,ht⟩:=D.F
 refine F.ok0 (⟨rfl,rfl,rfl,by left,rfl,by left,by left⟩:au ["self", "why"] ["self", "why"] (⟨.function,[(Str.ofString "self",.local),(Str.ofString "why",.local),(Str.ofString "RoundError",.globalImplicit)],false,false,[]⟩:Scope)) (fun vs H Q E h=>?_) (fun bJ A outer s H vs Q E hr h=>?_)
 ·obtain⟨e,z,rfl,_⟩:=h
  rfl
 ·obtain⟨e,z,rfl,hz,he,k⟩:=h
  refine⟨_,ai (aK (K8 rfl T.mR T.sp T.rd T.fc T.F.kp GR hr T.b .nil aS (U (pv 0) (U (pv 1) (U aq ae))) (ht:=ht _))),?_⟩
  exact⟨_,rfl,_,rfl,e,C,z,_,rfl,hz,hw,he,D.cls,D.obj,D.na,k⟩
abbrev E1:Stmt:=inClass (top 3) 0
theorem E2:vg E1 "bad ring" := ⟨_,_,_,_,_,_,_,_,_,_,_,rfl,by left,_,fun _=>rfl⟩
abbrev E3:Stmt:=inClass (top 4) 0
theorem E4:vg E3 "bad name" := ⟨_,_,_,_,_,_,_,_,_,_,_,rfl,by left,_,fun _=>rfl⟩
abbrev LA:Stmt:=inClass (top 5) 0
theorem LB:vg LA "taken" := ⟨_,_,_,_,_,_,_,_,_,_,_,rfl,by left,_,fun _=>rfl⟩
abbrev By:Stmt:=inClass (top 6) 0
theorem Bz:vg By "no island" := ⟨_,_,_,_,_,_,_,_,_,_,_,rfl,by left,_,fun _=>rfl⟩
abbrev BA:Stmt:=inClass (top 7) 0
theorem BB:vg BA "no person" := ⟨_,_,_,_,_,_,_,_,_,_,_,rfl,by left,_,fun _=>rfl⟩
abbrev rG:Stmt:=inClass (top 8) 0
theorem rH:vg rG "not neighbours" := ⟨_,_,_,_,_,_,_,_,_,_,_,rfl,by left,_,fun _=>rfl⟩
abbrev LC:Stmt:=inClass (top 9) 0
theorem LD:vg LC "told twice" := ⟨_,_,_,_,_,_,_,_,_,_,_,rfl,by left,_,fun _=>rfl⟩
abbrev vx:Stmt:=inClass (top 10) 0
theorem vy:vg vx "not partners" := ⟨_,_,_,_,_,_,_,_,_,_,_,rfl,by left,_,fun _=>rfl⟩
abbrev LF:Stmt:=inClass (top 11) 0
theorem LG:vg LF "owing" := ⟨_,_,_,_,_,_,_,_,_,_,_,rfl,by left,_,fun _=>rfl⟩
abbrev E5:Stmt:=inClass (top 12) 0
theorem E6:vg E5 "bad kind" := ⟨_,_,_,_,_,_,_,_,_,_,_,rfl,by left,_,fun _=>rfl⟩
abbrev E7:Stmt:=inClass (top 13) 0
theorem E8:vg E7 "bad rank" := ⟨_,_,_,_,_,_,_,_,_,_,_,rfl,by left,_,fun _=>rfl⟩
abbrev E9:Stmt:=inClass (top 14) 0
theorem E_:vg E9 "no thing" := ⟨_,_,_,_,_,_,_,_,_,_,_,rfl,by left,_,fun _=>rfl⟩
abbrev BC:Stmt:=inClass (top 15) 0
theorem BD:vg BC "wrong way" := ⟨_,_,_,_,_,_,_,_,_,_,_,rfl,by left,_,fun _=>rfl⟩
abbrev Fb:Stmt:=inClass (top 16) 0
theorem Fd:vg Fb "no fleet" := ⟨_,_,_,_,_,_,_,_,_,_,_,rfl,by left,_,fun _=>rfl⟩
abbrev HM:Stmt:=inClass (top 17) 0
theorem HN:vg HM "bad way" := ⟨_,_,_,_,_,_,_,_,_,_,_,rfl,by left,_,fun _=>rfl⟩
abbrev O7:Stmt:=inClass (top 18) 0
theorem O8:vg O7 "away" := ⟨_,_,_,_,_,_,_,_,_,_,_,rfl,by left,_,fun _=>rfl⟩
abbrev Fe:Stmt:=inClass (top 19) 0
theorem Ff:vg Fe "not away" := ⟨_,_,_,_,_,_,_,_,_,_,_,rfl,by left,_,fun _=>rfl⟩
abbrev BE:Stmt:=inClass (top 20) 0
theorem BF:vg BE "promised" := ⟨_,_,_,_,_,_,_,_,_,_,_,rfl,by left,_,fun _=>rfl⟩
abbrev zK:Stmt:=inClass (top 21) 0
theorem zL:vg zK "bad season" := ⟨_,_,_,_,_,_,_,_,_,_,_,rfl,by left,_,fun _=>rfl⟩
abbrev Fg:Stmt:=inClass (top 24) 0
theorem Fh:vg Fg "bad text" := ⟨_,_,_,_,_,_,_,_,_,_,_,rfl,by left,_,fun _=>rfl⟩
abbrev Yp:Stmt:=top 37
abbrev Wf:Stmt:=top 39
theorem Yq:au ["kind"] ["kind"] (ao Yp):=by right
theorem Yr:au ["kind"] ["kind"] (ao Wf):=by right
structure zM(mg:Str->Option Value):Prop where
 O9:∃ t,mg "NECKLACE" = some (.str "necklace" t)
 arm:∃ t,mg "ARMRING" = some (.str "armring" t)
abbrev Nl(z:Str):Prop:=z = "necklace" \/ z = "armring"
def LH(cK:Addr):Sp:=fun vs H Q E=>∃ z:Str,vs=[.str z]/\(¬ Nl z->bX E H cK "bad kind")/\(Nl z->xv Q H .bY)
theorem Ua{cR fR cK fK f:Addr}{gI bc fd:FuncData}(F:oK K "check_kind" "check_kind" Yp f fd)(T:gC K mg cR fR gI)(D:cb K mg cR "BadKind" "bad kind" cK fK bc)(KT:zM mg):aE P w K mg base (bu P w) 4 f fd ["kind"] (LH cK):=by
 obtain⟨tN,hN⟩:=KT.O9
 obtain⟨tA,hA⟩:=KT.arm
 have GI:aE P w K mg base aY 2 fK bc _ (cJ cK "bad kind"):=g_ T D
 refine F.kQ Yq (fun vs H Q E h=>?_) (fun bJ A outer s H vs Q E hr h=>?_)
 ·obtain⟨n,rfl,_⟩:=h
  rfl
 ·obtain⟨z,rfl,h1,h2⟩:=h
  refine⟨_,ai (aP (aG oB (pv 0) (aQ (U (aX (v:=.str "necklace") rfl hN ⟨_,rfl⟩) (U (aX (v:=.str "armring") rfl hA ⟨_,rfl⟩) ae))) (by with_unfolding_all rfl))
   (ai (aW rfl D.m D.cls D.obj D.init D.fn GI hr D.b rfl av (U (c7 (aB aq (aB (bR (aX (v:=.str "necklace") rfl hN ⟨_,rfl⟩)) (aB aq (aB (bR (aX (v:=.str "armring") rfl hA ⟨_,rfl⟩)) eU))))) ae))) ay),?_⟩
  refine⟨_,rfl,by show 2<=sizeLine;decide,fun p hp=>⟨p,_,rfl,.inr (bV.of af),rfl,rfl,_,rfl,?_⟩⟩
  have e:Oa (.str z) [V.str "necklace",V.str "armring"]=decide (Nl z):=Tp _ _ _
  dsimp only
  rw[if_pos rfl,e]
  by_cases hz:Nl z
  ·rw[decide_eq_true hz]
   exact cx (h2 hz _ (ak.new hp))
  ·rw[decide_eq_false hz]
   refine cH ?_
   exact⟨_,rfl,by left,_,.str _ (by left),_,rfl,by left,_,rfl,by left,_,.str _ (by left),_,rfl,by left,by left,_,rfl,by left,(h1 hz).to (ak.new hp)⟩
def Ub:Sp:=fun vs H Q _=>∃ b:Bool,vs=[.str (kS b)]/\Q (.str (kS (!b))) H
theorem Uc{f:Addr}{fd:FuncData}(F:d_ K "other_kind" "other_kind" Wf f fd)(KT:zM mg):aE P w K mg base aY 1 f fd ["kind"] Ub:=by
 obtain⟨tN,hN⟩:=KT.O9
 obtain⟨tA,hA⟩:=KT.arm
 refine F.ok Yr (fun vs H Q E h=>?_) (fun bJ A outer s H vs Q E hr h=>?_)
 ·obtain⟨b,rfl,_⟩:=h
  rfl
 ·obtain⟨b,rfl,k⟩:=h
  refine⟨_,ai (aI (tE (aG dH (pv 0) (aX (v:=.str "necklace") rfl hN ⟨_,rfl⟩) (aN _)) (aX (v:=.str "armring") rfl hA ⟨_,rfl⟩) (aX (v:=.str "necklace") rfl hN ⟨_,rfl⟩))),?_⟩
  refine⟨_,rfl,rfl,_,rfl,?_⟩
  cases b with
  | true=>exact eg (fun _=>k) (fun h=>absurd (by left) h)
  | false=>exact eg (fun h=>absurd h (by left)) (fun _=>k)
structure lD(mg:Str->Option Value):Prop where
 len:mg "len" = none
 LI:mg "all" = none
 Ud:mg "abs" = none
 rJ:mg "isinstance" = none
 ui:mg "bool" = none
 Fi:mg "int" = none
 HP:mg "str" = none
 oU:mg "list" = none
 qj:mg "tuple" = none
 uj:mg "range" = none
theorem boot_all:bootBuiltins "all" = some (.builtin "all"):=by left
theorem boot_abs:bootBuiltins "abs" = some (.builtin "abs"):=by left
theorem a9:bootBuiltins "isinstance" = some (.builtin "isinstance"):=by left
theorem boot_bool:bootBuiltins "bool" = some (.type "bool"):=by left
theorem boot_int:bootBuiltins "int" = some (.type "int"):=by left
theorem boot_str:bootBuiltins "str" = some (.type "str"):=by left
theorem boot_list:bootBuiltins "list" = some (.type "list"):=by left
theorem boot_tuple:bootBuiltins "tuple" = some (.type "tuple"):=by left
theorem LJ{ds:List Int}{i:Nat}{d:Int}(h:ds[i]?=some d):vc (ds.map V.int) (i:Int)=some (V.int d):=aH (by rw[List.getElem?_map,h];rfl)
theorem HQ{L:List Int}{d:Int}(h0:0<=d)(h1:d<L.length):vc (L.map V.int) d=some (V.int (L.getD d.toNat 0)):=by
 have e:d=((d.toNat:Nat):Int):=by omega
 have h2:L[d.toNat]?=some (L.getD d.toNat 0):=by
  rw[List.getD_eq_getElem?_getD,List.getElem?_eq_getElem (by omega)]
  rfl
 have:=LJ h2
 rw[<- e] at this
 exact this
abbrev HR:Stmt:=top 95
theorem O_:au ["_law_script", "_law_k"] ["_law_script", "_law_k"] (ao HR):=by right
def HS(K:W.Frag):Sp:=fun vs H Q _=>∃ (a:Addr) (ns:List Int) (k:Int),vs=[.ref a,.int k]/\bx K H a (ns.map V.int)/\0<=k/\Q (.int (ns.getD k.toNat 0)) H
theorem LK{f:Addr}{fd:FuncData}(F:d_ K "_law_cell" "_law_cell" HR f fd)(T:lD mg):aE P w K mg base aY 1 f fd ["_law_script", "_law_k"] (HS K):=by
 refine F.ok O_ (fun vs H Q E h=>?_) (fun bJ A outer s H vs Q E hr h=>?_)
 ·obtain⟨a,ns,k,rfl,_⟩:=h
  rfl
 ·obtain⟨a,ns,k,rfl,hS,h0,q⟩:=h
  refine⟨_,aa (aP (aG qQ (pv 1) (aA aT rfl T.len PySem.boot_len (U (pv 0) ae)) (aN _)) (ai (aI (aV bh (pv 0) (pv 1) (fun _ _=>rfl)))) ay) (ai (aI az)),?_⟩
  refine⟨_,rfl,_,rfl,a,_,rfl,.inl hS,_,_,rfl,rfl,_,rfl,?_⟩
  refine eg (fun c=>?_) (fun c=>?_)
  ·have c':=of_decide_eq_true c
   rw[List.length_map] at c'
   exact⟨_,rfl,_,rfl,a,_,_,_,rfl,rfl,hS,HQ h0 c',q⟩
  ·have c':¬ k<((ns.map V.int).length:Nat):=fun z=>c (decide_eq_true z)
   rw[List.length_map] at c'
   have e:ns.getD k.toNat 0=0:=by rw[List.getD_eq_getElem?_getD,List.getElem?_eq_none (by omega)];rfl
   rw[e] at q
   exact q
theorem Du{xs:List V}{i:Nat}{x:V}(h:xs[i]?=some x):vc xs ((0:Int)+(i:Nat))=some x:=by
 rw[Int.zero_add]
 exact aH h
abbrev uk:Stmt:=top 97
abbrev oV:List Str:=["_law_found", "_law_due"]
theorem HU:au oV oV (ao uk):=by right
theorem LL{f:Addr}{fd:FuncData}(F:d_ K "_law_same" "_law_same" uk f fd)(T:lD mg)(mS:mg "_law_same" = some (.ref f))(bS:Binds K fd oV []):∀ n:Nat,aE P w K mg base aY (n+1) f fd oV (Hm n):=by
 have flat:∀ (x:V) (bJ:Value) (A:Around) (outer:List Env) (s:Shared) (H:Hp) (Q:VK) (E:XK),jL x=true->Q (.bl true) H ->
   ∃ t,vj (nv aY P w K mg base oV "_law_same" (ao uk) f bJ A outer s H E).NU (cV uk) t/\t { nx:=fun _ H'=>Q .bY H',rt:=Q } (start oV [x,x]) H:=by
  intro x bJ A outer s H Q E hx k
  cases x with
  | bY =>
   refine⟨_,aa (aP (cg (jC (pv 1))) (ai (aI (Gh (jC (pv 0))))) ay) aZ,?_⟩
   exact⟨_,rfl,_,rfl,cH ⟨_,rfl,k⟩⟩
  | bl b =>
   refine⟨_,aa (aP (cg (jC (pv 1))) aZ ay)
    (aa (aP (dQ (aA ba rfl T.rJ a9 (U (pv 1) (U (bF (v:=.ty "bool") rfl T.ui boot_bool rfl) ae))))
     (ai (aI (kX (aA ba rfl T.rJ a9 (U (pv 0) (U (bF (v:=.ty "bool") rfl T.ui boot_bool rfl) ae))) (j8 (gE dH (pv 0) (pv 1) (aN _)))))) ay)
    aZ),?_⟩
   refine⟨_,rfl,_,rfl,cx ?_⟩
   refine⟨_,rfl,_,_,_,_,_,rfl,rfl,dX.bl b,eu _ _,_,rfl,cH ?_⟩
   refine⟨_,rfl,_,_,_,_,_,rfl,rfl,dX.bl b,eu _ _,_,rfl,cH ?_⟩
   refine⟨_,rfl,_,rfl,rfl,?_⟩
   show Q (.bl (decide (V.bl b=V.bl b))) H
   rw[decide_eq_true rfl]
   exact k
  | int i =>
   refine⟨_,aa (aP (cg (jC (pv 1))) aZ ay)
    (aa (aP (dQ (aA ba rfl T.rJ a9 (U (pv 1) (U (bF (v:=.ty "bool") rfl T.ui boot_bool rfl) ae)))) aZ ay)
    (aa (aP (dQ (aA ba rfl T.rJ a9 (U (pv 1) (U (bF (v:=.ty "int") rfl T.Fi boot_int rfl) ae))))
     (ai (aI (kX (aA ba rfl T.rJ a9 (U (pv 0) (U (bF (v:=.ty "int") rfl T.Fi boot_int rfl) ae))) (kX (NT (aA ba rfl T.rJ a9 (U (pv 0) (U (bF (v:=.ty "bool") rfl T.ui boot_bool rfl) ae)))) (j8 (gE dH (pv 0) (pv 1) (aN _))))))) ay)
    aZ)),?_⟩
   refine⟨_,rfl,_,rfl,cx ?_⟩
   refine⟨_,rfl,_,_,_,_,_,rfl,rfl,dX.int i,oJ _,_,rfl,cx ?_⟩
   refine⟨_,rfl,_,_,_,_,_,rfl,rfl,dX.int i,eu _ _,_,rfl,cH ?_⟩
   refine⟨_,rfl,_,_,_,_,_,rfl,rfl,dX.int i,eu _ _,_,rfl,cH ?_⟩
   refine⟨_,rfl,_,_,_,_,_,rfl,rfl,dX.int i,oJ _,_,rfl,_,rfl,cH ?_⟩
   refine⟨_,rfl,_,rfl,rfl,?_⟩
   show Q (.bl (decide (V.int i=V.int i))) H
   rw[decide_eq_true rfl]
   exact k
  | str i =>
   refine⟨_,aa (aP (cg (jC (pv 1))) aZ ay)
    (aa (aP (dQ (aA ba rfl T.rJ a9 (U (pv 1) (U (bF (v:=.ty "bool") rfl T.ui boot_bool rfl) ae)))) aZ ay)
    (aa (aP (dQ (aA ba rfl T.rJ a9 (U (pv 1) (U (bF (v:=.ty "int") rfl T.Fi boot_int rfl) ae)))) aZ ay)
    (aa (aP (dQ (aA ba rfl T.rJ a9 (U (pv 1) (U (bF (v:=.ty "str") rfl T.HP boot_str rfl) ae))))
     (ai (aI (kX (aA ba rfl T.rJ a9 (U (pv 0) (U (bF (v:=.ty "str") rfl T.HP boot_str rfl) ae))) (j8 (gE dH (pv 0) (pv 1) (aN _)))))) ay)
    aZ))),?_⟩
   refine⟨_,rfl,_,rfl,cx ?_⟩
   refine⟨_,rfl,_,_,_,_,_,rfl,rfl,dX.str i,xh _,_,rfl,cx ?_⟩
   refine⟨_,rfl,_,_,_,_,_,rfl,rfl,dX.str i,y9 _,_,rfl,cx ?_⟩
   refine⟨_,rfl,_,_,_,_,_,rfl,rfl,dX.str i,eu _ _,_,rfl,cH ?_⟩
   refine⟨_,rfl,_,_,_,_,_,rfl,rfl,dX.str i,eu _ _,_,rfl,cH ?_⟩
   refine⟨_,rfl,_,rfl,rfl,?_⟩
   show Q (.bl (decide (V.str i=V.str i))) H
   rw[decide_eq_true rfl]
   exact k
  | _=>exact absurd hx Bool.false_ne_true
 intro n
 induction n with
 | zero =>
  refine F.ok HU (fun vs H Q E h=>?_) (fun bJ A outer s H vs Q E hr h=>?_)
  ·obtain⟨x,y,rfl,_⟩:=h
   rfl
  ·obtain⟨x,y,rfl,⟨rfl,hx⟩,k⟩:=h
   exact flat x bJ A outer s H Q E hx (k H (ak.refl H))
 | succ n ih =>
  refine F.ok HU (fun vs H Q E h=>?_) (fun bJ A outer s H vs Q E hr h=>?_)
  ·obtain⟨x,y,rfl,_⟩:=h
   rfl
  ·obtain⟨x,y,rfl,hE,k⟩:=h
   rcases(show(_/\_)\/_ from hE) with ⟨rfl,hx⟩ | ⟨p,q,xs,ys,rfl,rfl,hpq,hl,BG,hee⟩
   ·exact flat x bJ A outer s H Q E hx (k H (ak.refl H))
   ·rcases hpq with ⟨hp,hq⟩ | ⟨hp,hq⟩
    ·refine⟨_,aa (aP (cg (jC (pv 1))) aZ ay)
      (aa (aP (dQ (aA ba rfl T.rJ a9 (U (pv 1) (U (bF (v:=.ty "bool") rfl T.ui boot_bool rfl) ae)))) aZ ay)
      (aa (aP (dQ (aA ba rfl T.rJ a9 (U (pv 1) (U (bF (v:=.ty "int") rfl T.Fi boot_int rfl) ae)))) aZ ay)
      (aa (aP (dQ (aA ba rfl T.rJ a9 (U (pv 1) (U (bF (v:=.ty "str") rfl T.HP boot_str rfl) ae)))) aZ ay)
      (aa (aP (PW.pt (mQ (aG jK (aA ba rfl T.rJ a9 (U (pv 1) (U (bF (v:=.ty "list") rfl T.oU boot_list rfl) ae))) (aA ba rfl T.rJ a9 (U (pv 0) (U (bF (v:=.ty "list") rfl T.oU boot_list rfl) ae))) (aN _))
       (j7 (aG jK (aA ba rfl T.rJ a9 (U (pv 1) (U (bF (v:=.ty "tuple") rfl T.qj boot_tuple rfl) ae))) (aA ba rfl T.rJ a9 (U (pv 0) (U (bF (v:=.ty "tuple") rfl T.qj boot_tuple rfl) ae))) (aN _))))) aZ ay)
      (aa (aP (aG jK (aA aT rfl T.len PySem.boot_len (U (pv 0) ae)) (aA aT rfl T.len PySem.boot_len (U (pv 1) ae)) (aN _)) aZ ay)
      (ai (aI (aA (oG rfl) rfl T.LI boot_all (U (t9 (ao uk) oV rfl rfl (by left) rfl (lU rfl T.uj (U (aA aT rfl T.len PySem.boot_len (U (pv 1) ae)) ae))
       (fun C s H fp pins=>aw ih hr rfl mS F.kp bS .nil aS (U (aV (show Ec _ (Ed K) from bQ) (pv 1) (pv 0) (fun _ _=>rfl)) (U (aV (show Ec _ (Ed K) from bQ) (pv 2) (pv 0) (fun _ _=>rfl)) ae))) (fun _ _ _ _ _=>iQ)) ae))))))))),?_⟩
     have hz:ys.length<=sizeLine:=Nat.le_of_lt (dP (by omega))
     refine⟨_,rfl,_,rfl,cx ?_⟩
     refine⟨_,rfl,_,_,_,_,_,rfl,rfl,dX.tup hq,t_ _,_,rfl,cx ?_⟩
     refine⟨_,rfl,_,_,_,_,_,rfl,rfl,dX.tup hq,vo _,_,rfl,cx ?_⟩
     refine⟨_,rfl,_,_,_,_,_,rfl,rfl,dX.tup hq,vp _,_,rfl,cx ?_⟩
     refine⟨_,rfl,_,_,_,_,_,rfl,rfl,dX.tup hq,lq _,_,rfl,_,_,_,_,_,rfl,rfl,dX.tup hp,lq _,rfl,_,rfl,cx ?_⟩
     refine⟨_,rfl,_,_,_,_,_,rfl,rfl,dX.tup hq,eu _ _,_,rfl,_,_,_,_,_,rfl,rfl,dX.tup hp,eu _ _,rfl,_,rfl,cx ?_⟩
     refine⟨_,rfl,p,_,rfl,.inr (bV.of hp),_,rfl,q,_,rfl,.inr (bV.of hq),rfl,_,rfl,?_⟩
     refine eg (fun c=>absurd c (by rw[BG];simp)) (fun _=>?_)
     refine⟨_,rfl,q,_,rfl,.inr (bV.of hq),_,rfl,by omega,by rw[sizeLine_eq] at hz;omega,fun D hD=>?_⟩
     refine wt (fun _=>true) (fun _=>.bl true) hD (by rw[Int.toNat_natCast];exact hz) (fun i hi H2 R sm r=>r H2 (ak.refl H2)) (fun i hi _ H2 R sm r=>?_) (fun H2 sm F4=>?_)
     ·rw[Int.toNat_natCast] at hi
      have Ue:i<xs.length:=by omega
      refine⟨_,rfl,_,rfl,p,_,_,_,rfl,rfl,bV.of (sm _ _ hp),Du (i:=i) (List.getElem?_eq_getElem Ue),_,rfl,_,rfl,q,_,_,_,rfl,rfl,bV.of (sm _ _ hq),Du (i:=i) (List.getElem?_eq_getElem hi),_,_,rfl,?_,r⟩
      exact Eqv.same sm (hee i _ _ (List.getElem?_eq_getElem Ue) (List.getElem?_eq_getElem hi))
     ·refine⟨D,List.replicate (((ys.length:Nat):Int).toNat) true,rfl,bx.of ?_,?_⟩
      ·rw[F4,all_true]
      ·rw[zd]
       exact k H2 sm
    ·refine⟨_,aa (aP (cg (jC (pv 1))) aZ ay)
      (aa (aP (dQ (aA ba rfl T.rJ a9 (U (pv 1) (U (bF (v:=.ty "bool") rfl T.ui boot_bool rfl) ae)))) aZ ay)
      (aa (aP (dQ (aA ba rfl T.rJ a9 (U (pv 1) (U (bF (v:=.ty "int") rfl T.Fi boot_int rfl) ae)))) aZ ay)
      (aa (aP (dQ (aA ba rfl T.rJ a9 (U (pv 1) (U (bF (v:=.ty "str") rfl T.HP boot_str rfl) ae)))) aZ ay)
      (aa (aP (PW.pt (mQ (aG jK (aA ba rfl T.rJ a9 (U (pv 1) (U (bF (v:=.ty "list") rfl T.oU boot_list rfl) ae))) (aA ba rfl T.rJ a9 (U (pv 0) (U (bF (v:=.ty "list") rfl T.oU boot_list rfl) ae))) (aN _))
       (j7 (aG jK (aA ba rfl T.rJ a9 (U (pv 1) (U (bF (v:=.ty "tuple") rfl T.qj boot_tuple rfl) ae))) (aA ba rfl T.rJ a9 (U (pv 0) (U (bF (v:=.ty "tuple") rfl T.qj boot_tuple rfl) ae))) (aN _))))) aZ ay)
      (aa (aP (aG jK (aA aT rfl T.len PySem.boot_len (U (pv 0) ae)) (aA aT rfl T.len PySem.boot_len (U (pv 1) ae)) (aN _)) aZ ay)
      (ai (aI (aA (oG rfl) rfl T.LI boot_all (U (t9 (ao uk) oV rfl rfl (by left) rfl (lU rfl T.uj (U (aA aT rfl T.len PySem.boot_len (U (pv 1) ae)) ae))
       (fun C s H fp pins=>aw ih hr rfl mS F.kp bS .nil aS (U (aV (show Ec _ (GU K) from bh) (pv 1) (pv 0) (fun _ _=>rfl)) (U (aV (show Ec _ (GU K) from bh) (pv 2) (pv 0) (fun _ _=>rfl)) ae))) (fun _ _ _ _ _=>iQ)) ae))))))))),?_⟩
     have hz:ys.length<=sizeLine:=Nat.le_of_lt (dP (by omega))
     refine⟨_,rfl,_,rfl,cx ?_⟩
     refine⟨_,rfl,_,_,_,_,_,rfl,rfl,dX.lst hq,vq _,_,rfl,cx ?_⟩
     refine⟨_,rfl,_,_,_,_,_,rfl,rfl,dX.lst hq,xt _,_,rfl,cx ?_⟩
     refine⟨_,rfl,_,_,_,_,_,rfl,rfl,dX.lst hq,xu _,_,rfl,cx ?_⟩
     refine⟨_,rfl,_,_,_,_,_,rfl,rfl,dX.lst hq,eu _ _,_,rfl,_,_,_,_,_,rfl,rfl,dX.lst hp,eu _ _,rfl,_,rfl,cx ?_⟩
     refine⟨_,rfl,_,_,_,_,_,rfl,rfl,dX.lst hq,lx _,_,rfl,_,_,_,_,_,rfl,rfl,dX.lst hp,lx _,rfl,_,rfl,cx ?_⟩
     refine⟨_,rfl,p,_,rfl,.inl (bx.of hp),_,rfl,q,_,rfl,.inl (bx.of hq),rfl,_,rfl,?_⟩
     refine eg (fun c=>absurd c (by rw[BG];simp)) (fun _=>?_)
     refine⟨_,rfl,q,_,rfl,.inl (bx.of hq),_,rfl,by omega,by rw[sizeLine_eq] at hz;omega,fun D hD=>?_⟩
     refine wt (fun _=>true) (fun _=>.bl true) hD (by rw[Int.toNat_natCast];exact hz) (fun i hi H2 R sm r=>r H2 (ak.refl H2)) (fun i hi _ H2 R sm r=>?_) (fun H2 sm F4=>?_)
     ·rw[Int.toNat_natCast] at hi
      have Ue:i<xs.length:=by omega
      refine⟨_,rfl,_,rfl,p,_,_,_,rfl,rfl,bx.of (sm _ _ hp),Du (i:=i) (List.getElem?_eq_getElem Ue),_,rfl,_,rfl,q,_,_,_,rfl,rfl,bx.of (sm _ _ hq),Du (i:=i) (List.getElem?_eq_getElem hi),_,_,rfl,?_,r⟩
      exact Eqv.same sm (hee i _ _ (List.getElem?_eq_getElem Ue) (List.getElem?_eq_getElem hi))
     ·refine⟨D,List.replicate (((ys.length:Nat):Int).toNat) true,rfl,bx.of ?_,?_⟩
      ·rw[F4,all_true]
      ·rw[zd]
       exact k H2 sm
abbrev BH:Stmt:=top 96
theorem iR:au ["_law_cell_here", "_law_parts", "_law_one", "_law_two", "_law_six", "_law_found", "_law_part"] ["_law_cell_here", "_law_parts"] (ao BH):=by right
def Below(d p:Int):Prop:=0<=d/\d<p
def sG(K:W.Frag):Sp:=fun vs H Q _=>∃ (c:Int) (a:Addr) (ps:List Int),vs=[.int c,.ref a]/\bx K H a (ps.map V.int)/\ps.length<=1000/\(∀ p∈ps,0<p/\p<1073741824) /\
 ∀ (ds:List Int) (l:Addr) (H':Hp),Paired Below ds ps->ak H H'->H l=none->H' l=some (.lst (ds.map V.int))->Q (.ref l) H'
theorem HV{f:Addr}{fd:FuncData}(F:d_ K "_law_draws" "_law_draws" BH f fd)(T:lD mg):aE P w K mg base aY 1 f fd ["_law_cell_here", "_law_parts"] (sG K):=by
 refine F.ok iR (fun vs H Q E h=>?_) (fun bJ A outer s H vs Q E hr h=>?_)
 ·obtain⟨c,a,ps,rfl,_⟩:=h
  rfl
 ·obtain⟨c,a,ps,rfl,hS,hlen,hps,k⟩:=h
  refine⟨_,aa (aP (aG qQ (aA yL rfl T.Ud boot_abs (U (pv 0) ae)) (bb Gq az az) (aN _))
    (aa (aD (i:=2) iR.nd rfl (Or.inl rfl) (bb k7 (bb i0 (bb qb (pv 0) az) az) az))
    (aa (aD (i:=3) iR.nd rfl (Or.inl rfl) (bb k7 (bb i0 (bb i0 (bb qb (pv 2) (pv 2)) (bb qb az (pv 2))) (pv 0)) az))
    (aa (aD (i:=4) iR.nd rfl (Or.inl rfl) (bb k7 (bb i0 (bb qb (pv 3) az) (pv 2)) az))
    (ai (aD (i:=0) iR.nd rfl (Or.inl rfl) (bb i0 (pv 3) (bb qb az (bb i0 (pv 4) (bb qb az (pv 2))))))))))
    (ai (aD (i:=0) iR.nd rfl (Or.inl rfl) (bb AM (aA yL rfl T.Ud boot_abs (U (pv 0) ae)) (bb Gq az az)))))
   (aa (aD (i:=5) iR.nd rfl (Or.inl rfl) (cL ae))
   (aa (tI PassesOwn.never rfl (jq (pv 1)) (bz (i:=6) iR.nd rfl (Or.inl rfl))
    (aa (aK (mU PySem.F.plainAttrs_list PySem.F.slot_list_append PySem.F.type_list_append eS (pv 5) (U (bb k7 (pv 0) (pv 6)) ae)))
    (ai (aD (i:=0) iR.nd rfl (Or.inl rfl) (bb CZ (pv 0) (pv 6))))))
   (ai (aI (pv 5))))),?_⟩
  refine Hf (fun bf H'=>∃ (c':Int) (o1 o2 o3:Option V),bf=[some (.int c'),some (.ref a),o1,o2,o3,none,none]/\H'=H) ?_ (fun key=>?_)
  ·rintro bf H' ⟨c',o1,o2,o3,rfl,rfl⟩
   refine⟨Nat.zero_le _,fun l hl=>?_⟩
   have sm:∀ o,ak H' (upd H' l o):=fun o b u e=>by rw[aj (ah e hl)];exact e
   refine⟨_,rfl,a,rfl,⟨_,(sm _).seq hS⟩,tJ (K:=K) (a:=a) (xs:=ps.map V.int) (fun i kY H2=>∃ (c2:Int) (o1 o2 o3 v:Option V) (ds:List Int),kY=[some (.int c2),some (.ref a),o1,o2,o3,some (.ref l),v]/\Paired Below ds (ps.take i)/\H2=upd H' l (.lst (ds.map V.int)))
    ⟨c',o1,o2,o3,none,[],rfl,.nil,rfl⟩ (fun i kY H2 _ ⟨_,_,_,_,_,_,_,_,e⟩=>e▸(sm _).seq hS) ?_ ?_⟩
   ·rintro i y kY H2 hi ⟨c2,o1,o2,o3,v,ds,rfl,hd,rfl⟩
    obtain⟨p,hp,rfl⟩:∃ p,ps[i]?=some p/\y=V.int p:=by
     rw[List.getElem?_map] at hi
     cases e:ps[i]? with
     | none=>rw[e] at hi;cases hi
     | some p=>rw[e] at hi;exact⟨p,rfl,(Option.some.inj hi).symm⟩
    obtain⟨p0,p1⟩:=hps p (List.mem_of_getElem? hp)
    have F4:ds.length<=1000:=by
     have:=hd.length
     rw[List.length_take] at this
     omega
    refine⟨_,rfl,.inl ⟨rfl,_,bx.of af⟩,_,rfl,_,rfl,_,_,rfl,rfl,p0,l,_,_,rfl,rfl,af,dP (by rw[List.length_map];exact F4),?_⟩
    refine⟨_,rfl,_,rfl,_,_,rfl,rfl,⟨p0,p1⟩,?_⟩
    refine⟨_,o1,o2,o3,_,ds++[c2%p],rfl,?_,?_⟩
    ·rw[List.take_add_one,hp]
     exact hd.snoc ⟨Int.emod_nonneg _ (by omega),Int.emod_lt_of_pos _ p0⟩
    ·rw[lR,List.map_append]
     rfl
   ·rintro kY H2 ⟨c2,o1,o2,o3,v,ds,rfl,hd,rfl⟩
    rw[List.length_map,List.take_length] at hd
    exact⟨_,rfl,k ds l _ hd (sm _) hl af⟩
  ·refine⟨_,rfl,c,rfl,_,_,rfl,rfl,⟨by decide,by decide,by decide⟩,_,_,rfl,rfl,_,rfl,?_⟩
   refine eg (fun _=>?_) (fun _=>?_)
   ·refine⟨_,rfl,_,_,rfl,rfl,Or.inr ⟨by decide,by decide⟩,_,_,rfl,rfl,_,_,rfl,rfl,(by show(0:Int)<_;decide),?_⟩
    refine⟨_,rfl,_,rfl,_,_,rfl,rfl,Or.inl ⟨by omega,by omega⟩,_,rfl,_,_,rfl,rfl,Or.inl ⟨by decide,by decide⟩,_,_,rfl,rfl,_,rfl,_,_,rfl,rfl,_,_,rfl,rfl,(by show(0:Int)<_;decide),?_⟩
    refine⟨_,rfl,_,_,rfl,rfl,Or.inr ⟨by decide,by decide⟩,_,rfl,_,_,rfl,rfl,_,_,rfl,rfl,(by show(0:Int)<_;decide),?_⟩
    refine⟨_,rfl,_,rfl,_,rfl,_,_,rfl,rfl,Or.inl ⟨by decide,by decide⟩,_,_,rfl,rfl,_,_,rfl,rfl,Or.inl ⟨by decide,by decide⟩,_,_,rfl,rfl,?_⟩
    exact key _ _ ⟨_,_,_,_,rfl,rfl⟩
   ·refine⟨_,rfl,c,rfl,_,_,rfl,rfl,⟨by decide,by decide,by decide⟩,_,_,rfl,rfl,?_⟩
    exact key _ _ ⟨_,_,_,_,rfl,rfl⟩
structure HW(mg:Str->Option Value):Prop where
 LM:∃ t,mg "LETTERS" = some (.str Bo t)
 Dv:∃ t,mg "FIGURES" = some (.str qi t)
 longest:∃ t,mg "LONGEST_NAME" = some (.int 12 t)
 most:∃ t,mg "MOST_FIGURES" = some (.int 9 t)
abbrev Dw:Stmt:=top 35
abbrev nName:List Str:=["name"]
theorem Pa:au nName ["name"] (ao Dw):=by right
abbrev xI:List Str:=["name"]
def LN:Sp:=fun vs H Q _=>∃ z,vs=[.str z]/\z.length<=1000/\∀ H',ak H H'->Q (.bl (isNm z)) H'
def fSg:V->V
 | .str x=>.bl (xD (x.cps.getD 0 0))
 | v=>v
theorem Dx{z:Str}(h:z ≠ ""):vc z.cps.toList 0=some (z.cps.toList.headD 0):=by
 have h0:z.cps.toList≠[]:=fun e=>h (xB e)
 cases e:z.cps.toList with
 | nil=>exact absurd e h0
 | cons c r=>exact aH (j:=0) rfl
theorem LO{f:Addr}{fd:FuncData}(F:d_ K "is_name" "is_name" Dw f fd)(T:lD mg)(N:HW mg):aE P w K mg base aY 1 f fd xI LN:=by
 obtain⟨tL,hL⟩:=N.LM
 obtain⟨tF,hF⟩:=N.Dv
 obtain⟨tM,hM⟩:=N.longest
 refine F.ok Pa (fun vs H Q E h=>?_) (fun bJ A outer s H vs Q E hr h=>?_)
 ·obtain⟨z,rfl,_⟩:=h
  rfl
 ·obtain⟨z,rfl,hz,k⟩:=h
  refine⟨_,(aa (aP (PW.pt (mQ (aG dH (pv 0) aq (aN _)) (j7 (aG C4 (aA oC rfl T.len PySem.boot_len (U (pv 0) ae)) (aX (v:=.int 12) rfl hM ⟨_,rfl⟩) (aN _))))) (ai (aI CU)) ay) (ai (aI (kX (gE lV (aV GV (pv 0) az (fun _ _=>rfl)) (aX (v:=.str Bo) rfl hL ⟨_,rfl⟩) (by with_unfolding_all rfl)) (j8 (aA (oG rfl) rfl T.LI boot_all (U (t9 (ao Dw) nName rfl rfl (by left) rfl (He (pv 0)) (fun C s H fp pins=>(Si (gE lV (pv 0) (aX (v:=.str Bo) rfl hL ⟨_,rfl⟩) (by with_unfolding_all rfl)) (j8 (gE lV (pv 0) (aX (v:=.str qi) rfl hF ⟨_,rfl⟩) (by with_unfolding_all rfl))))) (fun C s H fp pins=>iQ)) ae))))))),?_⟩
  have fin:∀ b,isNm z=b->∀ H',ak H H'->Q (.bl b) H':=fun b e H' sm=>e▸k H' sm
  refine⟨_,rfl,rfl,_,rfl,?_⟩
  refine eg (fun h1=>?_) (fun h1=>?_)
  ·refine cH ?_
   have e:z = "" := by have:=of_decide_eq_true h1;injection this
   exact fin false (by unfold isNm;rw[if_pos (.inl e)]) H (ak.refl H)
  ·have ne:z ≠ "" := fun e=>h1 (by rw[e];exact decide_eq_true rfl)
   refine⟨_,rfl,z,rfl,big hz,_,_,rfl,rfl,_,rfl,?_⟩
   refine eg (fun h2=>?_) (fun h2=>?_)
   ·exact fin false (by unfold isNm;rw[if_pos (.inr (of_decide_eq_true h2))]) H (ak.refl H)
   ·have hle:¬ (12:Int)<z.length:=fun e=>h2 (decide_eq_true e)
    have e0:isNm z=(decide (z.cps.toList.headD 0∈Bo.cps.toList)&&z.cps.toList.all xD):=by unfold isNm;rw[if_neg (by rintro(e | e);exact ne e;exact hle e)]
    refine⟨_,rfl,z,0,_,rfl,rfl,big hz,Dx ne,_,_,rfl,rfl,_,rfl,?_⟩
    rw[StrLaws.found_one]
    refine eg (fun h3=>?_) (fun h3=>?_)
    ·refine⟨_,rfl,z,rfl,fun D hD=>?_⟩
     refine wq (fun _=>true) fSg hD (big hz) (fun c H1 R sm r=>r) (fun c H1 R sm r=>?_) ?_
     ·refine⟨_,rfl,_,_,rfl,rfl,_,rfl,?_⟩
      rw[StrLaws.found_one]
      have r':R (.bl (xD c)) H1:=r
      refine eg (fun h4=>?_) (fun h4=>?_)
      ·rw[show xD c=true by unfold xD;rw[h4];rfl] at r'
       exact r'
      ·refine⟨_,rfl,_,_,rfl,rfl,?_⟩
       rw[StrLaws.found_one]
       rw[show xD c=decide (c∈qi.cps.toList) by unfold xD;rw[Bool.not_eq_true _ |>.mp h4];rfl] at r'
       exact r'
     ·refine⟨D,z.cps.toList.map xD,rfl,bx.of (Eq.trans af ?_),?_⟩
      ·rw[nC,List.map_map,List.map_map]
       rfl
      ·refine fin _ ?_ _ (ak.new hD)
       rw[e0,h3,Bool.true_and,List.all_map]
       rfl
    ·exact fin false (by rw[e0,Bool.not_eq_true _ |>.mp h3];rfl) H (ak.refl H)
abbrev LP:Stmt:=top 93
abbrev HX:List Str:=["word", "figures"]
theorem Nm:au HX ["word"] (ao LP):=by right
abbrev HY:List Str:=["word"]
def HZ(cB:Addr):Sp:=fun vs H Q E=>∃ z,vs=[.str z]/\z.length<=1000/\(rE z=false->bX E H cB "bad text")/\(rE z=true->∀ H',ak H H'->Q (.int (TK z)) H')
def fFg:V->V
 | .str x=>.bl (decide (x.cps.getD 0 0∈qi.cps.toList))
 | v=>v
theorem Pb{cR fR cB fB f:Addr}{gI sI fd:FuncData}(F:d_ K "read_number" "read_number" LP f fd)(T:lD mg)(N:HW mg)(ET:gC K mg cR fR gI)(D:cb K mg cR "BadText" "bad text" cB fB sI):aE P w K mg base (bu P w) 4 f fd HY (HZ cB):=by
 obtain⟨tF,hF⟩:=N.Dv
 obtain⟨tM,hM⟩:=N.most
 have GI:aE P w K mg base aY 2 fB sI _ (cJ cB "bad text"):=g_ ET D
 refine F.d.kQ Nm (fun vs H Q E h=>?_) (fun bJ A outer s H vs Q E hr h=>?_)
 ·obtain⟨z,rfl,_⟩:=h
  rfl
 ·obtain⟨z,rfl,hz,k1,k2⟩:=h
  refine⟨_,(aa (aD (i:=1) Nm.nd rfl (Or.inl rfl) (kX (gE Gu (aA oC rfl T.len PySem.boot_len (U (pv 0) ae)) (aX (v:=.int 9) rfl hM ⟨_,rfl⟩) (aN _)) (j8 (aA (oG rfl) rfl T.LI boot_all (U (t9 (ao LP) HX rfl rfl (by left) rfl (He (pv 0)) (fun C s H fp pins=>(gE lV (pv 0) (aX (v:=.str qi) rfl hF ⟨_,rfl⟩) (by with_unfolding_all rfl))) (fun C s H fp pins=>iQ)) ae))))) (aa (aP (PW.pt (mQ (aG dH (pv 0) aq (aN _)) (mQ (wX (dQ (pv 1))) (j7 (PW.pt (wW (aG jK (pv 0) aq (aN _)) (r9 (aG dH (aV GV (pv 0) az (fun _ _=>rfl)) aq (aN _))))))))) (ai (aW rfl D.m D.cls D.obj D.init D.fn GI (hr.mono (by decide)) D.b rfl av (U aq ae))) ay) (ai (aI (dO EI rfl T.Fi boot_int (U (pv 0) ae)))))),?_⟩
  have hl:z.length<=sizeLine:=big hz
  have e9:decide (((z.length:Nat):Int)<=9)=decide (z.length<=9):=decide_eq_decide.mpr (by omega)
  generalize Ys:(decide (z.length<=9)&&z.cps.toList.all fun c=>decide (c∈qi.cps.toList))=fg
  have rest:∀ H1,ak H H1->Kv (Kx (WO (C5 (MT W0 (tw 0) (tC (V.str (Str.ofString ""))))) (WO (Sf (tB (tw 1))) (Se (C5 (MT rNe (tw 0) (tC (V.str (Str.ofString "0"))))) (C5 (MT W0 (MT SG (tw 0) (tC (V.int 0))) (tC (V.str (Str.ofString "0")))))))) (Bc cB "bad text" E (tQ (tC (V.str (Str.ofString "a number has one to nine figures, without a nought ahead"))) vk)) MP)
    (Kw (Sy (fun xs H Q=>∃ z n,xs=[V.str z]/\intText? z=some n/\z.length<=640/\Q (V.int n) H) (tQ (tw 0) vk))) { nx:=fun _ H'=>Q V.bY H',rt:=Q } (List.set (L2.start HX [V.str z]) 1 (some (V.bl fg))) H1:=fun H1 s1=>by
   have bad:rE z=false->Bc cB "bad text" E (tQ (tC (V.str (Str.ofString "a number has one to nine figures, without a nought ahead"))) vk) { nx:=Kw (Sy (fun xs H Q=>∃ z n,xs=[V.str z]/\intText? z=some n/\z.length<=640/\Q (V.int n) H) (tQ (tw 0) vk)) { nx:=fun _ H'=>Q V.bY H',rt:=Q },rt:=Q } (List.set (L2.start HX [V.str z]) 1 (some (V.bl fg))) H1:=fun h=>⟨_,rfl,by left,(k1 h).to s1⟩
   have eN:rE z=(fg&&!decide (z = "")&&(decide (z = "0")||!decide (z.cps.toList.headD 0=48))):=by rw[<- Ys];rfl
   have done:rE z=true->Kw (Sy (fun xs H Q=>∃ z n,xs=[V.str z]/\intText? z=some n/\z.length<=640/\Q (V.int n) H) (tQ (tw 0) vk)) { nx:=fun _ H'=>Q V.bY H',rt:=Q } (List.set (L2.start HX [V.str z]) 1 (some (V.bl fg))) H1:=fun h=>by
    have h':=h
    unfold rE at h'
    simp only[Bool.and_eq_true,decide_eq_true_eq,Bool.not_eq_true',decide_eq_false_iff_not] at h'
    obtain⟨⟨⟨h1,h2⟩,h3⟩,h4⟩:=h'
    exact⟨_,rfl,z,_,rfl,PySem.intText_digits (fun c hc=>OV (of_decide_eq_true (List.all_eq_true.mp h2 c hc))) (fun e=>h3 (xB e)) (by omega),by omega,k2 h _ s1⟩
   refine⟨_,rfl,rfl,_,rfl,?_⟩
   refine eg (fun q=>cH (bad ?_)) (fun q=>?_)
   ·have e:z = "" := V.str.inj (of_decide_eq_true q)
    rw[eN,decide_eq_true e]
    simp
   have ne:z ≠ "" := fun e=>q (by rw[e];exact decide_eq_true rfl)
   refine⟨_,rfl,_,rfl,?_⟩
   cases fg with
   | false=>exact cH (cH (bad (by rw[eN];rfl)))
   | true =>
    refine cx ?_
    refine⟨_,rfl,rfl,_,rfl,?_⟩
    refine eg (fun q2=>?_) (fun q2=>cx (done ?_))
    ·have n0:z ≠ "0" := fun e=>by rw[e,decide_eq_true rfl] at q2;cases q2
     refine⟨_,rfl,z,0,_,rfl,rfl,hl,Dx ne,rfl,_,rfl,?_⟩
     refine eg (fun q3=>bad ?_) (fun q3=>done ?_)
     ·have e:=congrArg cps (V.str.inj (of_decide_eq_true q3))
      rw[show cps (Str.ofString "0")=[48] by left] at e
      have e':z.cps.toList.headD 0=48:=(List.cons.inj e).1
      rw[eN,e',decide_eq_false n0]
      simp
     ·have e':z.cps.toList.headD 0≠48:=fun e=>q3 (decide_eq_true (by rw[e];left))
      rw[eN,decide_eq_false ne,decide_eq_false e']
      simp
    ·have e:z = "0" := by
      rw[Bool.not_eq_true,Bool.not_eq_false'] at q2
      exact V.str.inj (of_decide_eq_true q2)
     rw[eN,decide_eq_false ne,decide_eq_true e]
     simp
  refine⟨_,rfl,z,rfl,hl,_,_,rfl,rfl,_,rfl,?_⟩
  rw[e9]
  refine eg (fun c1=>?_) (fun c1=>?_)
  ·refine⟨_,rfl,z,rfl,fun Dd hD=>?_⟩
   refine wq (fun _=>true) fFg hD hl (fun c H1 R sm r=>r) (fun c H1 R sm r=>?_) ?_
   ·refine⟨_,rfl,_,_,rfl,rfl,?_⟩
    rw[StrLaws.found_one]
    exact r
   ·refine⟨Dd,z.cps.toList.map fun c=>decide (c∈qi.cps.toList),rfl,bx.of (Eq.trans af ?_),?_⟩
    ·rw[nC,List.map_map,List.map_map]
     rfl
    ·rw[List.all_map]
     have e:(z.cps.toList.all (id∘fun c=>decide (c∈qi.cps.toList)))=fg:=by
      rw[<- Ys,c1,Bool.true_and]
      rfl
     rw[e]
     exact rest _ (ak.new hD)
  ·have e:fg=false:=by rw[<- Ys,Bool.not_eq_true _ |>.mp c1,Bool.false_and]
   have:=rest H (ak.refl _)
   rw[e] at this
   exact this
abbrev oW:Str:=one 32
theorem e32:Str.ofString " " = oW:=by left
abbrev Yt:Stmt:=top 90
abbrev nFW:List Str:=["text"]
theorem Yu:au nFW ["text"] (ao Yt):=by right
abbrev LQ:List Str:=["text"]
def LR:Sp:=fun vs H Q _=>∃ z p r,vs=[.str z]/\z.length<=100000/\Txt.split z oW=p::r/\∀ H',ak H H'->Q (.str p) H'
theorem Ug{f:Addr}{fd:FuncData}(F:d_ K "first_word" "first_word" Yt f fd)(T:lD mg):aE P w K mg base aY 1 f fd LQ LR:=by
 refine F.ok Yu (fun vs H Q E h=>?_) (fun bJ A outer s H vs Q E hr h=>?_)
 ·obtain⟨z,p,r,rfl,_⟩:=h
  rfl
 ·obtain⟨z,p,r,rfl,hz,hs,k⟩:=h
  refine⟨_,(ai (aI (aV bh (mU PySem.F.plainAttrs_str PySem.F.slot_str_split PySem.F.type_str_split ue (pv 0) (U aq ae)) az (fun _ _=>rfl)))),?_⟩
  refine⟨_,rfl,rfl,z,_,rfl,rfl,by left,Nat.le_trans (Nat.add_le_add_right hz 2) (by decide),fun D hD=>?_⟩
  refine⟨D,_,0,_,rfl,rfl,bx.of af,?_,k _ (ak.new hD)⟩
  rw[e32,hs]
  exact aH (j:=0) rfl
abbrev Yv:Stmt:=top 92
abbrev nRW:List Str:=["word", "sort"]
theorem Yw:au nRW ["word", "sort"] (ao Yv):=by right
abbrev Pc:List Str:=["word", "sort"]
def H_(cB:Addr):Sp:=fun vs H Q E=>∃ z s,vs=[.str z,.str s]/\z.length<=1000/\(qZ z s=none->bX E H cB "bad text")/\∀ v,qZ z s=some v->∀ H',ak H H'->Q v H'
theorem Uh{cR fR cB fB f fN fU:Addr}{gI sI fd dN dU:FuncData}(F:d_ K "read_word" "read_word" Yv f fd)(T:lD mg)(ET:gC K mg cR fR gI)(D:cb K mg cR "BadText" "bad text" cB fB sI)(XN:Fc P w K mg base aY 1 "is_name" fN dN xI LN)(XU:Fc P w K mg base (bu P w) 4 "read_number" fU dU HY (HZ cB)):aE P w K mg base (bu P w) 5 f fd Pc (H_ cB):=by
 have GI:aE P w K mg base aY 2 fB sI _ (cJ cB "bad text"):=g_ ET D
 refine F.d.kQ Yw (fun vs H Q E h=>?_) (fun bJ A outer s H vs Q E hr h=>?_)
 ·obtain⟨z,s,rfl,_⟩:=h
  rfl
 ·obtain⟨z,s,rfl,hz,k1,k2⟩:=h
  refine⟨_,(aa (aP (aG dH (pv 1) aq (aN _)) (ai (aI (aw XU.G (hr.mono (by decide)) rfl XU.m XU.k XU.b .nil av.passes (U (pv 0) ae)))) ay) (aa (aP (wX (dQ (aw XN.G (hr.mono (by decide)) rfl XN.m XN.k XN.b .nil aS (U (pv 0) ae)))) (ai (aW rfl D.m D.cls D.obj D.init D.fn GI (hr.mono (by decide)) D.b rfl av (U aq ae))) ay) (ai (aI (pv 0))))),?_⟩
  refine⟨_,rfl,rfl,_,rfl,?_⟩
  refine eg (fun q=>?_) (fun q=>?_)
  ·have e:s = "number" := V.str.inj (of_decide_eq_true q)
   refine⟨_,rfl,z,rfl,hz,fun h=>k1 ?_,fun h=>k2 _ ?_⟩
   ·unfold qZ
    rw[if_pos e,if_neg (by rw[h];exact Bool.false_ne_true)]
   ·unfold qZ
    rw[if_pos e,if_pos h]
  ·have e:s ≠ "number" := fun e=>q (by rw[e];exact decide_eq_true rfl)
   refine⟨_,rfl,z,rfl,hz,fun H' sm=>⟨_,rfl,?_⟩⟩
   cases hN:isNm z with
   | true=>exact cx ⟨_,rfl,k2 (.str z) (by unfold qZ;rw[if_neg e,if_pos hN]) _ sm⟩
   | false=>exact cH ⟨_,rfl,by left,(k1 (by unfold qZ;rw[if_neg e,if_neg (by rw[hN];exact Bool.false_ne_true)])).to sm⟩
def RU:V->V->V
 | .str z,.str s=>(qZ z s).getD .bY
 | _,_=>.bY
theorem Ia:∀ (ws ss:List Str) (us:List V),List.zipWith qZ ws ss=us.map some->List.zipWith RU (ws.map V.str) (ss.map V.str)=us
 | [],_,us,h=>by
  have:us=[]:=by simpa using h.symm
  rw[this]
  rfl
 | _::_,[],us,h=>by
  have:us=[]:=by simpa using h.symm
  rw[this]
  rfl
 | z::ws,s::ss,us,h=>by
  cases us with
  | nil=>cases h
  | cons u us =>
   have h1:qZ z s=some u:=(List.cons.inj h).1
   have h2:List.zipWith qZ ws ss=us.map some:=(List.cons.inj h).2
   show(qZ z s).getD .bY::List.zipWith RU (ws.map V.str) (ss.map V.str)=_
   rw[h1,Ia ws ss us h2]
   rfl
theorem Pd{ws ss:List Str}{us:List V}(h:List.zipWith qZ ws ss=us.map some){i:Nat}{x y:V}(hx:(ws.map V.str)[i]?=some x)(hy:(ss.map V.str)[i]?=some y):∃ z s,x=.str z/\y=.str s/\z∈ws/\qZ z s=some (RU x y):=by
 rw[List.getElem?_map] at hx hy
 cases ez:ws[i]? with
 | none=>rw[ez] at hx;cases hx
 | some z =>
  cases es:ss[i]? with
  | none=>rw[es] at hy;cases hy
  | some s =>
   rw[ez] at hx
   rw[es] at hy
   cases hx
   cases hy
   refine⟨z,s,rfl,rfl,List.mem_of_getElem? ez,?_⟩
   have e:(List.zipWith qZ ws ss)[i]?=some (qZ z s):=by rw[List.getElem?_zipWith,ez,es]
   rw[h,List.getElem?_map] at e
   show _=some ((qZ z s).getD .bY)
   cases q:us[i]? with
   | none=>rw[q] at e;cases e
   | some u =>
    rw[q] at e
    rw[<- (Option.some.inj e:some u=qZ z s)]
    rfl
def BI:List (Option V)->Option (List V)
 | []=>some []
 | none::_=>none
 | some v::r=>(BI r).map (v::·)
theorem wD:∀ {l:List (Option V)} {us:List V},BI l=some us->l=us.map some
 | [],us,h=>by cases h;rfl
 | none::r,us,h=>by cases h
 | some v::r,us,h=>by
  obtain⟨vs,h1,rfl⟩:=Option.map_eq_some_iff.mp h
  rw[wD h1]
  rfl
theorem wF:∀ {l:List (Option V)},BI l=none->∃ b:Nat,l[b]?=some none/\∀ i:Nat,i<b->∃ v,l[i]?=some (some v)
 | [],h=>by cases h
 | none::r,h=>⟨0,rfl,fun i hi=>absurd hi (Nat.not_lt_zero i)⟩
 | some v::r,h=>by
  obtain⟨b,h1,h2⟩:=wF (Option.map_eq_none_iff.mp h)
  refine⟨b+1,h1,fun i hi=>?_⟩
  cases i with
  | zero=>exact⟨v,rfl⟩
  | succ i=>exact h2 i (by omega)
def Pe(ws ss:List Str):Option (List V):=if ws.length=ss.length then BI (List.zipWith qZ ws ss) else none
theorem Ib{ws ss:List Str}{i:Nat}{o:Option V}(h:(List.zipWith qZ ws ss)[i]?=some o){x y:V}(hx:(ws.map V.str)[i]?=some x)(hy:(ss.map V.str)[i]?=some y):∃ z s,x=.str z/\y=.str s/\z∈ws/\qZ z s=o:=by
 rw[List.getElem?_map] at hx hy
 cases ez:ws[i]? with
 | none=>rw[ez] at hx;cases hx
 | some z =>
  cases es:ss[i]? with
  | none=>rw[es] at hy;cases hy
  | some s =>
   rw[ez] at hx
   rw[es] at hy
   cases hx
   cases hy
   rw[List.getElem?_zipWith,ez,es] at h
   exact⟨z,s,rfl,rfl,List.mem_of_getElem? ez,Option.some.inj h⟩
abbrev Yx:Stmt:=top 91
abbrev nRR:List Str:=["text", "form", "words"]
theorem Ui:au nRR ["text", "form"] (ao Yx):=by right
abbrev LS:List Str:=["text", "form"]
def Dy(K:W.Frag)(cB:Addr):Sp:=fun vs H Q E=>∃ z t p ws ss,vs=[.str z,.ref t]/\z.length<=1000/\Txt.split z oW=p::ws/\bV K H t (ss.map V.str)/\(Pe ws ss=none->bX E H cB "bad text") /\
 ∀ us,Pe ws ss=some us->∀ l H',ak H H'->H l=none->H' l=some (.tup (.str p::us))->Q (.ref l) H'
theorem Uj{cR fR cB fB f fW:Addr}{gI sI fd dW:FuncData}(F:d_ K "read_row" "read_row" Yx f fd)(T:lD mg)(ET:gC K mg cR fR gI)(D:cb K mg cR "BadText" "bad text" cB fB sI)(hZ:mg "zip" = none)(XW:Fc P w K mg base (bu P w) 5 "read_word" fW dW Pc (H_ cB)):aE P w K mg base (bu P w) 6 f fd LS (Dy K cB):=by
 have GI:aE P w K mg base aY 2 fB sI _ (cJ cB "bad text"):=g_ ET D
 refine F.d.kQ Ui (fun vs H Q E h=>?_) (fun bJ A outer s H vs Q E hr h=>?_)
 ·obtain⟨z,t,p,ws,ss,rfl,_⟩:=h
  rfl
 ·obtain⟨z,t,p,ws,ss,rfl,hz,hs,hS,k1,k2⟩:=h
  refine⟨_,(aa (aD (i:=2) Ui.nd rfl (Or.inl rfl) (mU PySem.F.plainAttrs_str PySem.F.slot_str_split PySem.F.type_str_split ue (pv 0) (U aq ae))) (aa (aP (aG jK (aA aT rfl T.len PySem.boot_len (U (pv 2) ae)) (bb i0 (aA aT rfl T.len PySem.boot_len (U (pv 1) ae)) az) (aN _)) (ai (aW rfl D.m D.cls D.obj D.init D.fn GI (hr.mono (by decide)) D.b rfl av (U aq ae))) ay) (ai (aI (dO mT rfl T.qj boot_tuple (U (bb i4 (k9 oz (pv 2) sh (lX az)) (TV (by left) (OU rfl hZ (U (k9 oz (pv 2) (lX az) sh) (U (pv 1) ae))) (fun C s H fp pins EE ft=>(aw XW.G (hr.mono (by decide)) rfl XW.m XW.k XW.b .nil ft.passes (U (pv 0) (U (pv 1) ae)))) (fun C s H fp pins=>iQ))) ae)))))),?_⟩
  have small:∀ y∈ws,y.length<=1000:=fun y hy=>Nat.le_trans (PyProof.Rows.part_short (x:=z) (y:=oW) (by rw[hs];exact List.mem_cons_of_mem _ hy)) hz
  have many:ws.length+1<=1002:=by
   have:=PyProof.Rows.split_le z oW
   rw[hs,List.length_cons] at this
   omega
  refine⟨_,rfl,rfl,z,_,rfl,rfl,by left,Nat.le_trans (Nat.add_le_add_right hz 2) (by decide),fun Wq hW=>?_⟩
  rw[e32,hs]
  have s1:ak H (upd H Wq (.lst ((p::ws).map V.str))):=ak.new hW
  have gW:upd H Wq (.lst ((p::ws).map V.str)) Wq=some (.lst ((p::ws).map V.str)):=af
  generalize upd H Wq (.lst ((p::ws).map V.str))=H1 at s1 gW ⊢
  refine⟨_,rfl,Wq,_,rfl,.inl (bx.of gW),_,rfl,t,_,rfl,.inr (bV.same s1 hS),_,_,rfl,rfl,rfl,_,rfl,?_⟩
  by_cases hl:ws.length=ss.length
  ·refine eg (fun q=>?_) (fun _=>?_)
   ·exfalso
    rw[decide_eq_true (by rw[List.length_map,List.length_map,List.length_cons,hl];rfl)] at q
    cases q
   have er:Pe ws ss=BI (List.zipWith qZ ws ss):=if_pos hl
   rw[er] at k1 k2
   refine⟨_,rfl,1,rfl,Wq,_,rfl,bx.of gW,fun A1 hA=>?_⟩
   rw[show nA ((p::ws).map V.str) none (some 1)=[V.str p] from OW _ 1]
   have s2:ak H1 (upd H1 A1 (.lst [V.str p])):=ak.new hA
   have gA:upd H1 A1 (.lst [V.str p]) A1=some (.lst [V.str p]):=af
   generalize upd H1 A1 (.lst [V.str p])=H2 at s2 gA ⊢
   refine⟨_,rfl,1,rfl,Wq,_,rfl,bx.of (s2 _ _ gW),fun B hB=>?_⟩
   rw[show nA ((p::ws).map V.str) (some 1) none=ws.map V.str from zr _ 1]
   have s3:ak H2 (upd H2 B (.lst (ws.map V.str))):=ak.new hB
   have gB:upd H2 B (.lst (ws.map V.str)) B=some (.lst (ws.map V.str)):=af
   generalize upd H2 B (.lst (ws.map V.str))=H3 at s3 gB ⊢
   have Fj:ak H H3:=s1.trans (s2.trans s3)
   have lw:(ws.map V.str).length<=sizeLine:=by rw[List.length_map];exact Nat.le_trans (Nat.le_of_succ_le many) (by decide)
   refine⟨_,rfl,B,t,_,_,rfl,bx.of gB,bV.same Fj hS,fun Dd hD=>?_⟩
   cases ea:BI (List.zipWith qZ ws ss) with
   | some us =>
    have hu:=wD ea
    refine EJ RU (bx.of gB) (bV.same Fj hS) (by rw[List.length_map,List.length_map,hl]) hD lw HH (fun _ _ _ r=>r) (fun i x y hx hy H4 R s4 r=>?_) (fun H4 s4 g4=>?_)
    ·obtain⟨a,b,rfl,rfl,ha,F7⟩:=Pd hu hx hy
     exact⟨_,rfl,_,rfl,a,b,rfl,small a ha,(fun h=>by rw[F7] at h;cases h),(fun v hv=>by rw[F7] at hv;cases hv;exact r)⟩
    ·rw[Ia ws ss us hu] at g4
     refine⟨A1,Dd,_,_,rfl,rfl,s4 _ _ (s3 _ _ gA),g4,?_,fun L hL=>?_⟩
     ·have:=congrArg List.length hu
      rw[List.length_zipWith,List.length_map] at this
      exact Nat.le_trans (show 1+us.length<=1002 by omega) (by decide)
     ·refine⟨L,_,rfl,.inl ⟨bx.of af,fun l Kh=>?_⟩⟩
      have sz:ak H (upd (upd H4 L (.lst ([V.str p]++us))) l (.tup ([V.str p]++us))):=(Fj.trans s4).trans ((ak.new hL).trans (ak.new Kh))
      exact k2 us ea l _ sz (((Fj.trans s4).trans (ak.new hL)).free Kh) af
   | none =>
    obtain⟨b,Bq,Br⟩:=wF ea
    have hbz:b<(List.zipWith qZ ws ss).length:=(List.getElem?_eq_some_iff.mp Bq).1
    rw[List.length_zipWith] at hbz
    refine EM RU b (bx.of gB) (bV.same Fj hS) (by rw[List.length_map];omega) (by rw[List.length_map];omega) hD lw HH (fun _ _ _ r=>r) (fun i x y hi hx hy H4 R s4 r=>?_) (fun x y hx hy H4 R s4=>?_)
    ·obtain⟨v,hv⟩:=Br i hi
     obtain⟨a,c,rfl,rfl,ha,F7⟩:=Ib hv hx hy
     have e:RU (.str a) (.str c)=v:=by show(qZ a c).getD .bY=v;rw[F7];rfl
     rw[e] at r
     exact⟨_,rfl,_,rfl,a,c,rfl,small a ha,(fun h=>by rw[F7] at h;cases h),(fun v' Gw=>by rw[F7] at Gw;cases Gw;exact r)⟩
    ·obtain⟨a,c,rfl,rfl,ha,F7⟩:=Ib Bq hx hy
     exact⟨_,rfl,_,rfl,a,c,rfl,small a ha,fun _=>(k1 ea).mono (Fj.trans s4),fun v hv=>by rw[F7] at hv;cases hv⟩
  ·refine eg (fun _=>?_) (fun q=>?_)
   ·exact⟨_,rfl,by left,(k1 (if_neg hl)).to s1⟩
   ·exfalso
    refine q ?_
    rw[decide_eq_false]
    ·rfl
    ·intro e
     have:=V.int.inj e
     rw[List.length_map,List.length_map,List.length_cons] at this
     omega
def Ic:List (Str×List Str):=[("person",["name", "number"]),("partners",["name", "name"]),("part",["name", "name"]),("make",["name", "name", "number", "name"]),("sail",["number", "name"]),("home",["number"]),("give",["name", "name"]),("vow",["name", "name", "number"]),("season",[])]
def formOf(x:Str):Option (List Str):=(Ic.find? fun r=>decide (r.1=x)).map (·.2)
def Nn(K:W.Frag)(mg:Str->Option Value)(w:World):Prop:=∃ dF rows,mg "DEED_FORMS" = some (.ref dF)/\zo K w dF rows/\(∀ x ss,formOf x=some ss->∃ t,oQ rows x=some (.ref t)/\∀ H,bV K H t (ss.map V.str))/\∀ x,formOf x=none->oQ rows x=none
theorem Dz:∀ {rows:List (Str×Tok×Value)} {fs:List (Str×List Str)},Paired (fun (r:Str×Tok×Value) (f:Str×List Str)=>r.1=f.1/\∃ t,r.2.2=Value.ref t/\∀ H,bV K H t (f.2.map V.str)) rows fs ->
  ∀ x ss,(fs.find? fun r=>decide (r.1=x)).map (·.2)=some ss->∃ t,oQ rows x=some (.ref t)/\∀ H,bV K H t (ss.map V.str)
 | _,_,.nil,x,ss,h=>by cases h
 | r::rows,f::fs,.cons h1 h2,x,ss,h=>by
  obtain⟨e,t,et,hS⟩:=h1
  rw[List.find?_cons] at h
  unfold oQ
  rw[List.find?_cons,e]
  by_cases q:f.1=x
  ·rw[decide_eq_true q] at h ⊢
   cases h
   exact⟨t,congrArg some et,hS⟩
  ·rw[decide_eq_false q] at h ⊢
   exact Dz h2 x ss h
theorem DA:∀ {rows:List (Str×Tok×Value)} {fs:List (Str×List Str)},Paired (fun (r:Str×Tok×Value) (f:Str×List Str)=>r.1=f.1/\∃ t,r.2.2=Value.ref t/\∀ H,bV K H t (f.2.map V.str)) rows fs ->
  ∀ x,(fs.find? fun r=>decide (r.1=x)).map (·.2)=none->oQ rows x=none
 | _,_,.nil,x,h=>rfl
 | r::rows,f::fs,.cons h1 h2,x,h=>by
  rw[List.find?_cons] at h
  unfold oQ
  rw[List.find?_cons,h1.1]
  by_cases q:f.1=x
  ·rw[decide_eq_true q] at h
   cases h
  ·rw[decide_eq_false q] at h ⊢
   exact DA h2 x h
def Pf(p:Str)(ws:List Str):Option (List V):=match formOf p with
 | none=>none
 | some ss=>Pe ws ss
abbrev Yy:Stmt:=top 87
abbrev nRD:List Str:=["text", "word"]
theorem Uk:au nRD ["text"] (ao Yy):=by right
abbrev Pg:List Str:=["text"]
def Ie(cB:Addr):Sp:=fun vs H Q E=>∃ z p ws,vs=[.str z]/\z.length<=1000/\Txt.split z oW=p::ws/\(Pf p ws=none->bX E H cB "bad text")/\∀ us,Pf p ws=some us->∀ l H',ak H H'->H l=none->H' l=some (.tup (.str p::us))->Q (.ref l) H'
theorem Ul{cR fR cB fB f fF fW:Addr}{gI sI fd dF dW:FuncData}(F:d_ K "read_deed" "read_deed" Yy f fd)(NF:Nn K mg w)(ET:gC K mg cR fR gI)(D:cb K mg cR "BadText" "bad text" cB fB sI)(XF:Fc P w K mg base aY 1 "first_word" fF dF LQ LR)(XR:Fc P w K mg base (bu P w) 6 "read_row" fW dW LS (Dy K cB)):aE P w K mg base (bu P w) 7 f fd Pg (Ie cB):=by
 obtain⟨d,rows,hD,kd,hk,hk0⟩:=NF
 have GI:aE P w K mg base aY 2 fB sI _ (cJ cB "bad text"):=g_ ET D
 refine F.d.kQ Uk (fun vs H Q E h=>?_) (fun bJ A outer s H vs Q E hr h=>?_)
 ·obtain⟨z,p,ws,rfl,_⟩:=h
  rfl
 ·obtain⟨z,p,ws,rfl,hz,hs,k1,k2⟩:=h
  refine⟨_,(aa (aD (i:=1) Uk.nd rfl (Or.inl rfl) (aw XF.G (hr.mono (by decide)) rfl XF.m XF.k XF.b .nil aS (U (pv 0) ae))) (aa (aP (cg (EF (pv 1) (aX (v:=.ref d) rfl hD rfl))) (ai (aW rfl D.m D.cls D.obj D.init D.fn GI (hr.mono (by decide)) D.b rfl av (U aq ae))) ay) (ai (aI (aw XR.G (hr.mono (by decide)) rfl XR.m XR.k XR.b .nil av.passes (U (pv 0) (U (Li (aX (v:=.ref d) rfl hD rfl) (pv 1) (fun _ _=>rfl)) ae))))))),?_⟩
  refine⟨_,rfl,z,p,ws,rfl,Nat.le_trans hz (by decide),hs,fun H1 s1=>?_⟩
  refine⟨_,rfl,d,rows,p,rfl,kd,rfl,_,rfl,?_⟩
  cases ef:formOf p with
  | none =>
   rw[hk0 p ef]
   exact cH ⟨_,rfl,by left,(k1 (by unfold Pf;rw[ef])).to s1⟩
  | some ss =>
   obtain⟨t,ht,hS⟩:=hk p ss ef
   have er:Pf p ws=Pe ws ss:=by unfold Pf;rw[ef]
   rw[er] at k1 k2
   rw[ht]
   refine cx ?_
   refine⟨_,rfl,_,rfl,d,rows,p,_,.ref t,rfl,kd,rfl,ht,rfl,?_⟩
   exact⟨z,t,p,ws,ss,rfl,hz,hs,hS _,fun h=>(k1 h).mono s1,fun us hu l H' sm hn Kh=>k2 us hu l H' (s1.trans sm) (s1.free hn) Kh⟩
def bad(n:Int):Prop:=n<3\/20<n
def Ig(n i:Int):Prop:=0<=i/\i<n
def raises(E:XK)(H:Hp)(C:Addr)(wd:Str):Prop:=∀ dx,H dx=none->E (.ref C) (some dx) (upd H dx (.xd [("word",.str wd)]))
abbrev Ih:Stmt:=top 43
abbrev Ph:Stmt:=top 44
theorem Pj:au ["islands"] ["islands"] (ao Ih):=by right
theorem Um:au ["islands", "island"] ["islands", "island"] (ao Ph):=by right
def qk(cB:Addr):Sp:=fun vs H Q E=>∃ n:Int,vs=[.int n]/\(bad n->raises E H cB "bad ring")/\(¬ bad n->Q .bY H)
def um(cN:Addr):Sp:=fun vs H Q E=>∃ n i:Int,vs=[.int n,.int i]/\(¬ Ig n i->raises E H cN "no island")/\(Ig n i->Q .bY H)
theorem LU{cR fR cB fB f:Addr}{gI sI fd:FuncData}{tF tM:Tok}(F:oK K "check_ring" "check_ring" Ih f fd)(T:gC K mg cR fR gI)(D:cb K mg cR "BadRing" "bad ring" cB fB sI)
  (hF:mg "FEWEST_ISLANDS" = some (.int 3 tF)) (hM:mg "MOST_ISLANDS" = some (.int 20 tM)):aE P w K mg base (bu P w) 4 f fd ["islands"] (qk cB):=by
 have GI:aE P w K mg base aY 2 fB sI _ (cJ cB "bad ring"):=g_ T D
 refine F.kQ Pj (fun vs H Q E h=>?_) (fun bJ A outer s H vs Q E hr h=>?_)
 ·obtain⟨n,rfl,_⟩:=h
  rfl
 ·obtain⟨n,rfl,h1,h2⟩:=h
  refine⟨_,ai (aP (PW.pt (mQ (aG qQ (pv 0) (aX (v:=.int 3) rfl hF ⟨_,rfl⟩) (aN _)) (j7 (aG C4 (pv 0) (aX (v:=.int 20) rfl hM ⟨_,rfl⟩) (aN _)))))
   (ai (aW rfl D.m D.cls D.obj D.init D.fn GI hr D.b rfl av (U (c7 (aB aq (aB (bR (aX (v:=.int 3) rfl hF ⟨_,rfl⟩)) (aB aq (aB (bR (aX (v:=.int 20) rfl hM ⟨_,rfl⟩)) (aB aq eU)))))) ae))) ay),?_⟩
  refine⟨_,rfl,_,_,rfl,rfl,_,rfl,?_⟩
  refine eg (fun c1=>?_) (fun c1=>?_)
  ·refine cH ?_
   have hb:bad n:=.inl (of_decide_eq_true c1)
   exact⟨_,rfl,by left,_,.int 3 (by decide),_,rfl,by left,_,rfl,by left,_,.int 20 (by decide),_,rfl,by left,_,rfl,by left,by left,_,rfl,by left,h1 hb⟩
  ·refine⟨_,rfl,_,_,rfl,rfl,_,rfl,?_⟩
   refine eg (fun c2=>?_) (fun c2=>?_)
   ·have hb:bad n:=.inr (of_decide_eq_true c2)
    exact⟨_,rfl,by left,_,.int 3 (by decide),_,rfl,by left,_,rfl,by left,_,.int 20 (by decide),_,rfl,by left,_,rfl,by left,by left,_,rfl,by left,h1 hb⟩
   ·exact h2 fun z=>z.elim (fun q=>c1 (decide_eq_true q)) fun q=>c2 (decide_eq_true q)
theorem Pk{cR fR cN fN f:Addr}{gI yB fd:FuncData}(F:oK K "check_island" "check_island" Ph f fd)(T:gC K mg cR fR gI)(D:cb K mg cR "NoIsland" "no island" cN fN yB):aE P w K mg base (bu P w) 4 f fd ["islands", "island"] (um cN):=by
 have GI:aE P w K mg base aY 2 fN yB _ (cJ cN "no island"):=g_ T D
 refine F.kQ Um (fun vs H Q E h=>?_) (fun bJ A outer s H vs Q E hr h=>?_)
 ·obtain⟨n,i,rfl,_⟩:=h
  rfl
 ·obtain⟨n,i,rfl,h1,h2⟩:=h
  refine⟨_,ai (aP (PW.pt (mQ (aG qQ (pv 1) az (aN _)) (j7 (aG MW (pv 1) (pv 0) (aN _)))))
   (ai (aW rfl D.m D.cls D.obj D.init D.fn GI hr D.b rfl av (U aq ae))) ay),?_⟩
  refine⟨_,rfl,_,_,rfl,rfl,_,rfl,?_⟩
  refine eg (fun c1=>?_) (fun c1=>?_)
  ·refine cH ?_
   have TF:=of_decide_eq_true c1
   exact⟨_,rfl,by left,h1 fun z=>by have:=z.1;omega⟩
  ·refine⟨_,rfl,_,rfl,_,_,rfl,rfl,_,rfl,?_⟩
   refine eg (fun c2=>?_) (fun c2=>?_)
   ·have c2':=of_decide_eq_true c2
    exact⟨_,rfl,by left,h1 fun z=>by have:=z.2;omega⟩
   ·exact h2 ⟨by have:¬ i<0:=fun q=>c1 (decide_eq_true q);omega,by have:¬ n<=i:=fun q=>c2 (decide_eq_true q);omega⟩
abbrev Yz:Stmt:=top 45
theorem YA:au ["islands", "island", "steps"] ["islands", "island", "steps"] (ao Yz):=by right
def Pl(cB cN:Addr):Sp:=fun vs H Q E=>∃ n i t:Int,vs=[.int n,.int i,.int t]/\(bad n->raises E H cB "bad ring")/\(¬ bad n->¬ Ig n i->raises E H cN "no island")/\(¬ bad n->Ig n i->Q (.int ((i+t)%n)) H)
theorem Uo{cB cN f fG fL:Addr}{fd DC Fl:FuncData}(F:oK K "onward" "onward" Yz f fd)
  (GG:aE P w K mg base (bu P w) 4 fG DC ["islands"] (qk cB)) (mG:mg "check_ring" = some (.ref fG)) (kG:W.keepIn K (.ref fG)=true) (bG:Binds K DC ["islands"] [])
  (GL:aE P w K mg base (bu P w) 4 fL Fl ["islands", "island"] (um cN)) (mL:mg "check_island" = some (.ref fL)) (kL:W.keepIn K (.ref fL)=true) (bL:Binds K Fl ["islands", "island"] []):aE P w K mg base (bu P w) 5 f fd ["islands", "island", "steps"] (Pl cB cN):=by
 refine F.kQ YA (fun vs H Q E h=>?_) (fun bJ A outer s H vs Q E hr h=>?_)
 ·obtain⟨n,i,t,rfl,_⟩:=h
  rfl
 ·obtain⟨n,i,t,rfl,h1,h2,h3⟩:=h
  refine⟨_,aa (aK (aw GG hr rfl mG kG bG .nil av.passes (U (pv 0) ae)))
   (aa (aK (aw GL hr rfl mL kL bL .nil av.passes (U (pv 0) (U (pv 1) ae))))
   (ai (aI (bb k7 (bb i0 (pv 1) (pv 2)) (pv 0))))),?_⟩
  refine⟨_,rfl,n,rfl,h1,fun hb=>⟨_,rfl,_,rfl,n,i,rfl,h2 hb,fun hi=>?_⟩⟩
  exact⟨_,rfl,_,rfl,_,_,rfl,rfl,_,rfl,_,_,rfl,rfl,by have:=hi.1;have:=hi.2;omega,h3 hb hi⟩
abbrev YB:Stmt:=top 46
theorem YC:au ["islands", "island", "other"] ["islands", "island", "other"] (ao YB):=by right
def Pn(cB cN:Addr):Sp:=fun vs H Q E=>∃ n i j:Int,vs=[.int n,.int i,.int j]/\(bad n->raises E H cB "bad ring")/\(¬ bad n->¬ (Ig n i/\Ig n j)->raises E H cN "no island")/\(¬ bad n->Ig n i->Ig n j->Q (.int ((j - i)%n)) H)
theorem Up{cB cN f fG fL:Addr}{fd DC Fl:FuncData}(F:oK K "ahead_of" "ahead_of" YB f fd)
  (GG:aE P w K mg base (bu P w) 4 fG DC ["islands"] (qk cB)) (mG:mg "check_ring" = some (.ref fG)) (kG:W.keepIn K (.ref fG)=true) (bG:Binds K DC ["islands"] [])
  (GL:aE P w K mg base (bu P w) 4 fL Fl ["islands", "island"] (um cN)) (mL:mg "check_island" = some (.ref fL)) (kL:W.keepIn K (.ref fL)=true) (bL:Binds K Fl ["islands", "island"] []):aE P w K mg base (bu P w) 5 f fd ["islands", "island", "other"] (Pn cB cN):=by
 refine F.kQ YC (fun vs H Q E h=>?_) (fun bJ A outer s H vs Q E hr h=>?_)
 ·obtain⟨n,i,j,rfl,_⟩:=h
  rfl
 ·obtain⟨n,i,j,rfl,h1,h2,h3⟩:=h
  refine⟨_,aa (aK (aw GG hr rfl mG kG bG .nil av.passes (U (pv 0) ae)))
   (aa (aK (aw GL hr rfl mL kL bL .nil av.passes (U (pv 0) (U (pv 1) ae))))
   (aa (aK (aw GL hr rfl mL kL bL .nil av.passes (U (pv 0) (U (pv 2) ae))))
   (ai (aI (bb k7 (bb AM (pv 2) (pv 1)) (pv 0)))))),?_⟩
  refine⟨_,rfl,n,rfl,h1,fun hb=>⟨_,rfl,_,rfl,n,i,rfl,fun z=>h2 hb fun q=>z q.1,fun hi=>⟨_,rfl,_,rfl,n,j,rfl,fun z=>h2 hb fun q=>z q.2,fun hj=>?_⟩⟩⟩
  exact⟨_,rfl,_,rfl,_,_,rfl,rfl,_,rfl,_,_,rfl,rfl,by have:=hi.1;have:=hi.2;omega,h3 hb hi hj⟩
abbrev YD:Stmt:=top 47
theorem YE:au ["islands", "steps"] ["islands", "steps"] (ao YD):=by right
def Po(cB:Addr):Sp:=fun vs H Q E=>∃ n t:Int,vs=[.int n,.int t]/\(bad n->raises E H cB "bad ring")/\(¬ bad n->Q (.int (t / n)) H)
theorem Uq{cB f fG:Addr}{fd DC:FuncData}(F:oK K "rounds_in" "rounds_in" YD f fd)
  (GG:aE P w K mg base (bu P w) 4 fG DC ["islands"] (qk cB)) (mG:mg "check_ring" = some (.ref fG)) (kG:W.keepIn K (.ref fG)=true) (bG:Binds K DC ["islands"] []):aE P w K mg base (bu P w) 5 f fd ["islands", "steps"] (Po cB):=by
 refine F.kQ YE (fun vs H Q E h=>?_) (fun bJ A outer s H vs Q E hr h=>?_)
 ·obtain⟨n,t,rfl,_⟩:=h
  rfl
 ·obtain⟨n,t,rfl,h1,h3⟩:=h
  refine⟨_,aa (aK (aw GG hr rfl mG kG bG .nil av.passes (U (pv 0) ae)))
   (ai (aI (bb CZ (pv 1) (pv 0)))),?_⟩
  refine⟨_,rfl,n,rfl,h1,fun hb=>?_⟩
  have h3':¬ n<3:=fun z=>hb (.inl z)
  have h4':¬ 20<n:=fun z=>hb (.inr z)
  exact⟨_,rfl,_,rfl,_,_,rfl,rfl,⟨by omega,by omega⟩,h3 hb⟩
structure Pp(mg:Str->Option Value):Prop where
 fw:∃ t,mg "FORWARD" = some (.str "forward" t)
 bw:∃ t,mg "BACKWARD" = some (.str "backward" t)
abbrev Wg(z:Str):Prop:=z = "forward" \/ z = "backward"
abbrev YF:Stmt:=top 38
abbrev nCW:List Str:=["way"]
theorem YG:au nCW ["way"] (ao YF):=by right
abbrev Pq:List Str:=["way"]
def Pr(cW:Addr):Sp:=fun vs H Q E=>∃ z:Str,vs=[.str z]/\(¬ Wg z->bX E H cW "bad way")/\(Wg z->xv Q H .bY)
theorem Ur{cR fR cW fW f:Addr}{gI DD fd:FuncData}(F:oK K "check_way" "check_way" YF f fd)(T:gC K mg cR fR gI)(D:cb K mg cR "BadWay" "bad way" cW fW DD)(Wq:Pp mg):aE P w K mg base (bu P w) 4 f fd Pq (Pr cW):=by
 obtain⟨tN,hN⟩:=Wq.fw
 obtain⟨tA,hA⟩:=Wq.bw
 have GI:aE P w K mg base aY 2 fW DD _ (cJ cW "bad way"):=g_ T D
 refine F.kQ YG (fun vs H Q E h=>?_) (fun bJ A outer s H vs Q E hr h=>?_)
 ·obtain⟨n,rfl,_⟩:=h
  rfl
 ·obtain⟨z,rfl,h1,h2⟩:=h
  refine⟨_,(ai (aP (aG oB (pv 0) (aQ (U (aX (v:=.str "forward") rfl hN ⟨_,rfl⟩) (U (aX (v:=.str "backward") rfl hA ⟨_,rfl⟩) ae))) (by with_unfolding_all rfl)) (ai (aW rfl D.m D.cls D.obj D.init D.fn GI (hr.mono (by decide)) D.b rfl av (U (c7 (aB aq (aB (bR (aX (v:=.str "forward") rfl hN ⟨_,rfl⟩)) (aB aq (aB (bR (aX (v:=.str "backward") rfl hA ⟨_,rfl⟩)) eU))))) ae))) ay)),?_⟩
  refine⟨_,rfl,by show 2<=sizeLine;decide,fun p hp=>⟨p,_,rfl,.inr (bV.of af),rfl,rfl,_,rfl,?_⟩⟩
  have e:Oa (.str z) [V.str "forward",V.str "backward"]=decide (Wg z):=Tp _ _ _
  dsimp only
  rw[if_pos rfl,e]
  by_cases hz:Wg z
  ·rw[decide_eq_true hz]
   exact cx (h2 hz _ (ak.new hp))
  ·rw[decide_eq_false hz]
   refine cH ?_
   exact⟨_,rfl,by left,_,.str _ (by left),_,rfl,by left,_,rfl,by left,_,.str _ (by left),_,rfl,by left,by left,_,rfl,by left,(h1 hz).to (ak.new hp)⟩
theorem boot_dict:bootBuiltins "dict" = some (.type "dict"):=by left
abbrev Wh:Stmt:=top 54
abbrev nWR:List Str:=["rows", "key", "value", "changed"]
theorem LV:au nWR ["rows", "key", "value"] (ao Wh):=by right
abbrev vz:List Str:=["rows", "key", "value"]
def Fm:Sp:=fun vs H Q _=>∃ (d:Addr) (aJ:List (Key×V)) (k:Key) (v:V),vs=[.ref d,kV k,v]/\H d=some (.dK aJ)/\aJ.length<=1000/\∀ p H',ak H H'->H p=none->H' p=some (.dK (putK aJ k v))->Q (.ref p) H'
theorem Us{f:Addr}{fd:FuncData}(F:d_ K "with_row" "with_row" Wh f fd)(YH:mg "dict" = none):aE P w K mg base aY 1 f fd vz Fm:=by
 refine F.ok LV (fun vs H Q E h=>?_) (fun bJ A outer s H vs Q E hr h=>?_)
 ·obtain⟨d,aJ,k,v,rfl,_⟩:=h
  rfl
 ·obtain⟨d,aJ,k,v,rfl,hd,hl,q⟩:=h
  have hu:=gc hr
  refine⟨_,(aa (aD (i:=3) LV.nd rfl (Or.inl rfl) (dO xx rfl YH boot_dict (U (pv 0) ae))) (aa (xb hu (pv 3) (pv 1) (pv 2) rfl) (ai (aI (pv 3))))),?_⟩
  refine⟨_,rfl,d,aJ,rfl,.inl hd,fun p hp=>?_⟩
  refine⟨_,rfl,_,rfl,_,rfl,p,_,rfl,xa.k af (Nat.lt_of_le_of_lt hl (by decide)),_,rfl,q p _ ?_ hp af⟩
  exact(ak.new hp).put hp
def DE:Sp:=fun vs H Q _=>∃ (d b:Addr) (aJ:List (List Key×V)) (k:List Key) (v:V),vs=[.ref d,.ref b,v]/\H d=some (.dT aJ)/\H b=some (.tup (k.map kV))/\aJ.length<=1/\∀ p H',ak H H'->H p=none->H' p=some (.dT (putK aJ k v))->Q (.ref p) H'
theorem Pt{f:Addr}{fd:FuncData}(F:d_ K "with_row" "with_row" Wh f fd)(YH:mg "dict" = none):aE P w K mg base aY 1 f fd vz DE:=by
 refine F.ok LV (fun vs H Q E h=>?_) (fun bJ A outer s H vs Q E hr h=>?_)
 ·obtain⟨d,b,aJ,k,v,rfl,_⟩:=h
  rfl
 ·obtain⟨d,b,aJ,k,v,rfl,hd,hb,hl,q⟩:=h
  have hu:=gc hr
  refine⟨_,(aa (aD (i:=3) LV.nd rfl (Or.inl rfl) (dO vv rfl YH boot_dict (U (pv 0) ae))) (aa (xb hu (pv 3) (pv 1) (pv 2) rfl) (ai (aI (pv 3))))),?_⟩
  refine⟨_,rfl,d,aJ,rfl,.inl hd,hl,fun p hp=>?_⟩
  refine⟨_,rfl,_,rfl,_,rfl,p,_,rfl,xa.t af (by rw[aj (ah hb hp)];exact hb) (Nat.lt_of_le_of_lt hl (by decide)),_,rfl,q p _ ?_ hp af⟩
  exact(ak.new hp).put hp
structure Step(H:Hp)(x p:Addr)(o i:HO)(H':Hp):Prop where
 gx:H' x=some i
 gp:H' p=some o
 old:∀ b u,b≠x->H b=some u->H' b=some u
 fr:∀ b,H' b=none->H b=none
theorem Step.of{H:Hp}{x p:Addr}{o i u:HO}(hx:H x=some u)(hp:H p=none):Step H x p o i (upd (upd H p o) x i):=by
 have n:x≠p:=ah hx hp
 refine⟨af,by rw[aj n.symm];exact af,fun b v hb e=>by rw[aj hb,aj (ah e hp)];exact e,fun b e=>?_⟩
 by_cases q:b=x
 ·rw[q,af] at e;cases e
 ·rw[aj q] at e
  by_cases q2:b=p
  ·rw[q2];exact hp
  ·rw[aj q2] at e;exact e
structure iS(K:W.Frag)(mg:Str->Option Value)(C:Addr):Prop where
 m:mg "State" = some (.ref C)
 cl:C6 K C
 n1:bB K C "people"
 n2:bB K C "bonds"
 n3:bB K C "things"
 n4:bB K C "fleets"
 n5:bB K C "gifts"
 n6:bB K C "promises"
 n7:bB K C "now"
abbrev YI:Stmt:=inClass (top 53) 0
abbrev nSI:List Str:=["self"]
theorem YJ:au nSI ["self"] (ao YI):=by right
abbrev LW:List Str:=["self"]
structure S0(S:Addr)(H H':Hp)(x dx pe bo th fl gi pr:Addr):Prop where
 gx:H' x=some (.ins S dx (sF (.ref pe) (.ref bo) (.ref th) (.ref fl) (.ref gi) (.ref pr) (.int 0)))
 g1:H' pe=some (.dK [])
 g2:H' bo=some (.dT [])
 g3:H' th=some (.dK [])
 g4:H' fl=some (.dK [])
 g5:H' gi=some (.tup [])
 g6:H' pr=some (.tup [])
 new:∀ y∈[pe,bo,th,fl,gi,pr],H y=none
 sb:∀ b u,b≠x->H b=some u->H' b=some u
def LX(S:Addr):Sp:=fun vs H Q _=>∃ x dx,vs=[.ref x]/\H x=some (.ins S dx [])/\∀ H' pe bo th fl gi pr,S0 S H H' x dx pe bo th fl gi pr->Q .bY H'
theorem Ut{S f:Addr}{fd:FuncData}(F:d_ K "__init__" "State.__init__" YI f fd)(T:iS K mg S):aE P w K mg base aY 1 f fd LW (LX S):=by
 refine F.ok YJ (fun vs H Q E h=>?_) (fun bJ A outer s H vs Q E hr h=>?_)
 ·obtain⟨x,dx,rfl,_⟩:=h
  rfl
 ·obtain⟨x,dx,rfl,hx,k⟩:=h
  refine⟨_,(aa (a7 (pv 0) oF rfl) (aa (a7 (pv 0) G8 rfl) (aa (a7 (pv 0) oF rfl) (aa (a7 (pv 0) oF rfl) (aa (a7 (pv 0) (aQ ae) rfl) (aa (a7 (pv 0) (aQ ae) rfl) (ai (a7 (pv 0) az rfl)))))))),?_⟩
  refine fun p1 h1=>⟨_,rfl,x,S,dx,[],rfl,by rw[aj (ah hx h1)];exact hx,T.cl,T.n1,by show 0<1000;decide,?_⟩
  generalize Fo:upd (upd H p1 _) x _=H1
  have t1:Step H x p1 (.dK []) (.ins S dx [("people",.ref p1)]) H1:=by rw[<- Fo];exact Step.of hx h1
  clear Fo
  refine fun p2 h2=>⟨_,rfl,x,S,dx,[("people",.ref p1)],rfl,by rw[aj (ah t1.gx h2)];exact t1.gx,T.cl,T.n2,by show 1<1000;decide,?_⟩
  generalize hG2:upd (upd H1 p2 _) x _=H2
  have t2:Step H1 x p2 (.dT []) (.ins S dx [("people",.ref p1),("bonds",.ref p2)]) H2:=by rw[<- hG2];exact Step.of t1.gx h2
  clear hG2
  refine fun p3 h3=>⟨_,rfl,x,S,dx,[("people",.ref p1),("bonds",.ref p2)],rfl,by rw[aj (ah t2.gx h3)];exact t2.gx,T.cl,T.n3,by show 2<1000;decide,?_⟩
  generalize hG3:upd (upd H2 p3 _) x _=H3
  have t3:Step H2 x p3 (.dK []) (.ins S dx [("people",.ref p1),("bonds",.ref p2),("things",.ref p3)]) H3:=by rw[<- hG3];exact Step.of t2.gx h3
  clear hG3
  refine fun p4 h4=>⟨_,rfl,x,S,dx,[("people",.ref p1),("bonds",.ref p2),("things",.ref p3)],rfl,by rw[aj (ah t3.gx h4)];exact t3.gx,T.cl,T.n4,by show 3<1000;decide,?_⟩
  generalize hG4:upd (upd H3 p4 _) x _=H4
  have t4:Step H3 x p4 (.dK []) (.ins S dx [("people",.ref p1),("bonds",.ref p2),("things",.ref p3),("fleets",.ref p4)]) H4:=by rw[<- hG4];exact Step.of t3.gx h4
  clear hG4
  refine⟨Nat.zero_le _,fun p5 h5=>⟨_,rfl,x,S,dx,[("people",.ref p1),("bonds",.ref p2),("things",.ref p3),("fleets",.ref p4)],rfl,by rw[aj (ah t4.gx h5)];exact t4.gx,T.cl,T.n5,by show 4<1000;decide,?_⟩⟩
  generalize hG5:upd (upd H4 p5 _) x _=H5
  have t5:Step H4 x p5 (.tup []) (.ins S dx [("people",.ref p1),("bonds",.ref p2),("things",.ref p3),("fleets",.ref p4),("gifts",.ref p5)]) H5:=by rw[<- hG5];exact Step.of t4.gx h5
  clear hG5
  refine⟨Nat.zero_le _,fun p6 h6=>⟨_,rfl,x,S,dx,[("people",.ref p1),("bonds",.ref p2),("things",.ref p3),("fleets",.ref p4),("gifts",.ref p5)],rfl,by rw[aj (ah t5.gx h6)];exact t5.gx,T.cl,T.n6,by show 5<1000;decide,?_⟩⟩
  generalize hG6:upd (upd H5 p6 _) x _=H6
  have t6:Step H5 x p6 (.tup []) (.ins S dx [("people",.ref p1),("bonds",.ref p2),("things",.ref p3),("fleets",.ref p4),("gifts",.ref p5),("promises",.ref p6)]) H6:=by rw[<- hG6];exact Step.of t5.gx h6
  clear hG6
  refine⟨_,rfl,x,S,dx,_,rfl,t6.gx,T.cl,T.n7,by show 6<1000;decide,?_⟩
  have e:∀ b u,b≠x->H6 b=some u->upd H6 x (.ins S dx (sF (.ref p1) (.ref p2) (.ref p3) (.ref p4) (.ref p5) (.ref p6) (.int 0))) b=some u:=fun b u hb e=>by rw[aj hb];exact e
  have RV:p1≠x:=(ah hx h1).symm
  have Uu:p2≠x:=(ah t1.gx h2).symm
  have Wi:p3≠x:=(ah t2.gx h3).symm
  have YK:p4≠x:=(ah t3.gx h4).symm
  have nx5:p5≠x:=(ah t4.gx h5).symm
  have nx6:p6≠x:=(ah t5.gx h6).symm
  have g1:=e _ _ RV (t6.old _ _ RV (t5.old _ _ RV (t4.old _ _ RV (t3.old _ _ RV (t2.old _ _ RV t1.gp)))))
  have g2:=e _ _ Uu (t6.old _ _ Uu (t5.old _ _ Uu (t4.old _ _ Uu (t3.old _ _ Uu t2.gp))))
  have g3:=e _ _ Wi (t6.old _ _ Wi (t5.old _ _ Wi (t4.old _ _ Wi t3.gp)))
  have g4:=e _ _ YK (t6.old _ _ YK (t5.old _ _ YK t4.gp))
  have g5:=e _ _ nx5 (t6.old _ _ nx5 t5.gp)
  have g6:=e _ _ nx6 t6.gp
  refine k _ p1 p2 p3 p4 p5 p6 ⟨af,g1,g2,g3,g4,g5,g6,fun y hy=>?_,fun b u hb he=>e _ _ hb (t6.old _ _ hb (t5.old _ _ hb (t4.old _ _ hb (t3.old _ _ hb (t2.old _ _ hb (t1.old _ _ hb he))))))⟩
  simp only[List.mem_cons,List.not_mem_nil,or_false] at hy
  rcases hy with rfl | rfl | rfl | rfl | rfl | rfl
  ·exact h1
  ·exact t1.fr _ (h2)
  ·exact t1.fr _ (t2.fr _ (h3))
  ·exact t1.fr _ (t2.fr _ (t3.fr _ (h4)))
  ·exact t1.fr _ (t2.fr _ (t3.fr _ (t4.fr _ (h5))))
  ·exact t1.fr _ (t2.fr _ (t3.fr _ (t4.fr _ (t5.fr _ (h6)))))
abbrev YL:Stmt:=inClass (top 53) 1
abbrev nST:List Str:=["self", "other"]
theorem Uv:au nST ["self"] (ao YL):=by right
abbrev zN:List Str:=["self"]
def zO(S:Addr):Sp:=fun vs H Q _=>∃ x dx a b c d e f g,vs=[.ref x]/\H x=some (.ins S dx (sF a b c d e f g))/\∀ x' dx' H',ak H H'->H x'=none->H' x'=some (.ins S dx' (sF a b c d e f g))->Q (.ref x') H'
theorem Uw{S f fI:Addr}{fd Ii:FuncData}(F:d_ K "twin" "State.twin" YL f fd)(T:iS K mg S)(XI:Kc P w K mg base aY 1 "State" S fI Ii LW (LX S)):aE P w K mg base aY 3 f fd zN (zO S):=by
 refine F.ok Uv (fun vs H Q E h=>?_) (fun bJ A outer s H vs Q E hr h=>?_)
 ·obtain⟨x,dx,a,b,c,d,e,f,g,rfl,_⟩:=h
  rfl
 ·obtain⟨x,dx,a,b,c,d,e,f,g,rfl,hx,k⟩:=h
  refine⟨_,(aa (aD (i:=1) Uv.nd rfl (Or.inl rfl) (oy XI.M XI.G (hr.mono (by decide)) rfl XI.m XI.b .nil aS)) (aa (a7 (pv 1) (ar (pv 0) rfl) rfl) (aa (a7 (pv 1) (ar (pv 0) rfl) rfl) (aa (a7 (pv 1) (ar (pv 0) rfl) rfl) (aa (a7 (pv 1) (ar (pv 0) rfl) rfl) (aa (a7 (pv 1) (ar (pv 0) rfl) rfl) (aa (a7 (pv 1) (ar (pv 0) rfl) rfl) (aa (a7 (pv 1) (ar (pv 0) rfl) rfl) (ai (aI (pv 1))))))))))),?_⟩
  refine fun y dy hy Wj ny=>⟨y,dy,rfl,af,fun H1 pe bo th fl gi pr z=>⟨rfl,?_⟩⟩
  have s1:ak H H1:=fun b u e=>z.sb b u (ah e hy) (by rw[aj (ah e hy),aj (ah e Wj)];exact e)
  have YM:x≠y:=ah hx hy
  have x1:=s1 _ _ hx
  have y1:=z.gx
  refine⟨_,rfl,x,S,dx,_,_,rfl,x1,T.cl,T.n1,rfl,_,rfl,y,S,dy,_,rfl,y1,T.cl,T.n1,by show 7<1000;decide,?_⟩
  generalize Fo:upd H1 y _=H2
  have s2:ak H H2:=by rw[<- Fo];exact s1.put hy
  have y2:H2 y=some (.ins S dy (sF a (.ref bo) (.ref th) (.ref fl) (.ref gi) (.ref pr) (.int 0))):=by rw[<- Fo];exact af
  have x2:=s2 _ _ hx
  clear Fo
  refine⟨_,rfl,x,S,dx,_,_,rfl,x2,T.cl,T.n2,rfl,_,rfl,y,S,dy,_,rfl,y2,T.cl,T.n2,by show 7<1000;decide,?_⟩
  generalize hG2:upd H2 y _=H3
  have s3:ak H H3:=by rw[<- hG2];exact s2.put hy
  have y3:H3 y=some (.ins S dy (sF a b (.ref th) (.ref fl) (.ref gi) (.ref pr) (.int 0))):=by rw[<- hG2];exact af
  have x3:=s3 _ _ hx
  clear hG2
  refine⟨_,rfl,x,S,dx,_,_,rfl,x3,T.cl,T.n3,rfl,_,rfl,y,S,dy,_,rfl,y3,T.cl,T.n3,by show 7<1000;decide,?_⟩
  generalize hG3:upd H3 y _=H4
  have s4:ak H H4:=by rw[<- hG3];exact s3.put hy
  have y4:H4 y=some (.ins S dy (sF a b c (.ref fl) (.ref gi) (.ref pr) (.int 0))):=by rw[<- hG3];exact af
  have x4:=s4 _ _ hx
  clear hG3
  refine⟨_,rfl,x,S,dx,_,_,rfl,x4,T.cl,T.n4,rfl,_,rfl,y,S,dy,_,rfl,y4,T.cl,T.n4,by show 7<1000;decide,?_⟩
  generalize hG4:upd H4 y _=H5
  have s5:ak H H5:=by rw[<- hG4];exact s4.put hy
  have y5:H5 y=some (.ins S dy (sF a b c d (.ref gi) (.ref pr) (.int 0))):=by rw[<- hG4];exact af
  have x5:=s5 _ _ hx
  clear hG4
  refine⟨_,rfl,x,S,dx,_,_,rfl,x5,T.cl,T.n5,rfl,_,rfl,y,S,dy,_,rfl,y5,T.cl,T.n5,by show 7<1000;decide,?_⟩
  generalize hG5:upd H5 y _=H6
  have s6:ak H H6:=by rw[<- hG5];exact s5.put hy
  have y6:H6 y=some (.ins S dy (sF a b c d e (.ref pr) (.int 0))):=by rw[<- hG5];exact af
  have x6:=s6 _ _ hx
  clear hG5
  refine⟨_,rfl,x,S,dx,_,_,rfl,x6,T.cl,T.n6,rfl,_,rfl,y,S,dy,_,rfl,y6,T.cl,T.n6,by show 7<1000;decide,?_⟩
  generalize hG6:upd H6 y _=H7
  have s7:ak H H7:=by rw[<- hG6];exact s6.put hy
  have y7:H7 y=some (.ins S dy (sF a b c d e f (.int 0))):=by rw[<- hG6];exact af
  have x7:=s7 _ _ hx
  clear hG6
  refine⟨_,rfl,x,S,dx,_,_,rfl,x7,T.cl,T.n7,rfl,_,rfl,y,S,dy,_,rfl,y7,T.cl,T.n7,by show 7<1000;decide,?_⟩
  generalize hG7:upd H7 y _=H8
  have s8:ak H H8:=by rw[<- hG7];exact s7.put hy
  have y8:H8 y=some (.ins S dy (sF a b c d e f g)):=by rw[<- hG7];exact af
  have x8:=s8 _ _ hx
  clear hG7
  exact⟨_,rfl,k y dy _ s8 hy y8⟩
structure oX(K:W.Frag)(mg:Str->Option Value)(C:Addr):Prop where
 m:mg "House" = some (.ref C)
 cl:C6 K C
 n1:bB K C "islands"
 n2:bB K C "state"
 n3:bB K C "stood"
 n4:bB K C "undone"
abbrev YN:Stmt:=inClass (top 83) 0
abbrev nHI:List Str:=["self", "islands"]
theorem YO:au nHI ["self", "islands"] (ao YN):=by right
abbrev Pu:List Str:=["self", "islands"]
def Pw(c:Ct)(cB:Addr):Sp:=fun vs H Q E=>∃ x dx n,vs=[.ref x,.int n]/\H x=some (.ins c.H dx [])/\(bad n->bX E H cB "bad ring")/\(¬ bad n->∀ (a:HA) H',a.h=x->ug c H' a n Ni []->(∀ b u,b≠x->H b=some u->H' b=some u)->H a.sd=none->Q .bY H')
theorem Ux{c:Ct}{cB f fG fI:Addr}{fd DC Ii:FuncData}(F:d_ K "__init__" "House.__init__" YN f fd)(T:oX K mg c.H)(TS:iS K mg c.S)(XG:Fc P w K mg base (bu P w) 4 "check_ring" fG DC ["islands"] (qk cB))
  (XI:Kc P w K mg base aY 1 "State" c.S fI Ii LW (LX c.S)):aE P w K mg base (bu P w) 5 f fd Pu (Pw c cB):=by
 refine F.d.kQ YO (fun vs H Q E h=>?_) (fun bJ A outer s H vs Q E hr h=>?_)
 ·obtain⟨x,dx,n,rfl,_⟩:=h
  rfl
 ·obtain⟨x,dx,n,rfl,hx,k1,k⟩:=h
  refine⟨_,(aa (aK (aw XG.G (hr.mono (by decide)) rfl XG.m XG.k XG.b .nil av.passes (U (pv 1) ae))) (aa (a7 (pv 0) (pv 1) rfl) (aa (a7 (pv 0) (oy XI.M XI.G (hr.mono (by decide)) rfl XI.m XI.b .nil aS) rfl) (aa (a7 (pv 0) lZ rfl) (ai (a7 (pv 0) lZ rfl)))))),?_⟩
  refine⟨_,rfl,n,rfl,fun z=>(k1 z).to (ak.refl _),fun hb=>?_⟩
  refine⟨_,rfl,_,rfl,x,c.H,dx,[],rfl,hx,T.cl,T.n1,by show 0<1000;decide,?_⟩
  generalize Fo:upd H x _=H1
  have x1:H1 x=some (.ins c.H dx [("islands",.int n)]):=by rw[<- Fo];exact af
  have o1:∀ b u,b≠x->H b=some u->H1 b=some u:=fun b u hb e=>by rw[<- Fo,aj hb];exact e
  have f1:∀ b,H1 b=none->H b=none:=fun b e=>by
   by_cases q:b=x
   ·rw[q,x1] at e;cases e
   ·rw[<- Fo,aj q] at e;exact e
  clear Fo
  refine fun y dy hy Wj ny=>⟨y,dy,rfl,af,fun H2 pe bo th fl gi pr z=>⟨rfl,?_⟩⟩
  have s2:ak H1 H2:=fun b u e=>z.sb b u (ah e hy) (by rw[aj (ah e hy),aj (ah e Wj)];exact e)
  have YM:y≠x:=(ah x1 hy).symm
  have nn:∀ q∈[pe,bo,th,fl,gi,pr],q≠x:=fun q hq=>by
   have:=z.new q hq
   by_cases q1:q=y
   ·rw[q1];exact YM
   ·by_cases q2:q=dy
    ·rw[q2];exact(ah x1 Wj).symm
    ·rw[aj q1,aj q2] at this;exact(ah x1 this).symm
  refine⟨_,rfl,x,c.H,dx,_,rfl,s2 _ _ x1,T.cl,T.n2,by show 1<1000;decide,?_⟩
  generalize hG3:upd H2 x _=H3
  have x3:H3 x=some (.ins c.H dx [("islands",.int n),("state",.ref y)]):=by rw[<- hG3];exact af
  have o3:∀ b u,b≠x->H2 b=some u->H3 b=some u:=fun b u hb e=>by rw[<- hG3,aj hb];exact e
  have f3:∀ b,H3 b=none->H2 b=none:=fun b e=>by
   by_cases q:b=x
   ·rw[q,x3] at e;cases e
   ·rw[<- hG3,aj q] at e;exact e
  clear hG3
  refine⟨Nat.zero_le _,fun p4 h4=>⟨_,rfl,x,c.H,dx,_,rfl,by rw[aj (ah x3 h4)];exact x3,T.cl,T.n3,by show 2<1000;decide,?_⟩⟩
  generalize hG4:upd (upd H3 p4 _) x _=H4
  have t4:Step H3 x p4 (.lst []) (.ins c.H dx [("islands",.int n),("state",.ref y),("stood",.ref p4)]) H4:=by rw[<- hG4];exact Step.of x3 h4
  clear hG4
  refine⟨Nat.zero_le _,fun p5 h5=>⟨_,rfl,x,c.H,dx,_,rfl,by rw[aj (ah t4.gx h5)];exact t4.gx,T.cl,T.n4,by show 3<1000;decide,?_⟩⟩
  have t5:Step H4 x p5 (.lst []) (.ins c.H dx (hF n y p4 p5)) (upd (upd H4 p5 (.lst [])) x (.ins c.H dx (hF n y p4 p5))):=Step.of t4.gx h5
  have up:∀ b u,b≠x->H2 b=some u->upd (upd H4 p5 (.lst [])) x (.ins c.H dx (hF n y p4 p5)) b=some u:=fun b u hb e=>t5.old _ _ hb (t4.old _ _ hb (o3 _ _ hb e))
  refine k hb ⟨x,dx,p4,p5,⟨y,dy,pe,bo,th,fl,gi,pr⟩⟩ _ rfl ⟨t5.gx,⟨[],t5.old _ _ (ah x3 h4).symm t4.gp,.nil⟩,?_⟩ (fun b u hb e=>up _ _ hb (s2 _ _ (o1 _ _ hb e))) (f1 _ (s2.free (f3 _ h4)))
  exact⟨up _ _ YM z.gx,up _ _ (nn _ (by simp)) z.g1,⟨[],up _ _ (nn _ (by simp)) z.g2,.nil⟩,⟨[],up _ _ (nn _ (by simp)) z.g3,.nil⟩,up _ _ (nn _ (by simp)) z.g4,⟨[],up _ _ (nn _ (by simp)) z.g5,.nil⟩,⟨[],up _ _ (nn _ (by simp)) z.g6,.nil⟩⟩
abbrev YQ:Stmt:=inClass (top 83) 12
abbrev nSd:List Str:=["self", "deed", "after"]
theorem YR:au nSd ["self", "deed", "after"] (ao YQ):=by right
abbrev zP:List Str:=["self", "deed", "after"]
def zQ(c:Ct):Sp:=fun vs H Q _=>∃ (a:HA) (n:Int) (M:Hs) (so:List (List V)) (a2:SA) (M2:Hs) (D:Addr) (dv:List V),vs=[.ref a.h,.ref D,.ref a2.st]/\ug c H a n M so/\so.length<=1000/\l4 c a.sd H a2 M2/\H D=some (.tup dv)/\Done c H a n M2 so dv Q .bY
theorem Uy{c:Ct}{f:Addr}{fd:FuncData}(ok:c.Ok)(F:d_ K "stand" "House.stand" YQ f fd)(T:oX K mg c.H):aE P w K mg base aY 1 f fd zP (zQ c):=by
 refine F.ok YR (fun vs H Q E h=>?_) (fun bJ A outer s H vs Q E hr h=>?_)
 ·obtain⟨a,n,M,so,a2,M2,D,dv,rfl,_⟩:=h
  rfl
 ·obtain⟨a,n,M,so,a2,M2,D,dv,rfl,hh,hl,s2,gD,k⟩:=h
  obtain⟨ts,gd,past⟩:=hh.gd
  have gh:=hh.gh
  refine⟨_,(aa (aK (mU PySem.F.plainAttrs_list PySem.F.slot_list_append PySem.F.type_list_append eS (ar (pv 0) rfl) (U (aQ (U (pv 1) (U (ar (pv 0) rfl) ae))) ae))) (aa (a7 (pv 0) lZ rfl) (ai (a7 (pv 0) (pv 2) rfl)))),?_⟩
  refine⟨_,rfl,a.h,c.H,a.dx,_,_,rfl,gh,T.cl,T.n3,rfl,.inl ⟨rfl,_,bx.of gd⟩,?_⟩
  refine⟨_,rfl,_,rfl,a.h,c.H,a.dx,_,_,rfl,gh,T.cl,T.n2,rfl,by show 2<=sizeLine;decide,fun t ht=>?_⟩
  have nt:a.h≠t:=ah gh ht
  have nst:a.sd≠t:=ah gd ht
  have YS:a.h≠a.sd:=fun e=>by rw[e,gd] at gh;cases gh
  refine⟨a.sd,_,_,rfl,rfl,by rw[aj nst];exact gd,Nat.lt_of_le_of_lt (by rw[List.length_map,past.len];exact hl) (by decide),?_⟩
  generalize hG:upd (upd H t _) a.sd _=H1
  have d1:H1 a.sd=some (.lst (ts.map V.ref++[.ref t])):=by rw[<- hG];exact af
  have h1:H1 a.h=some (.ins c.H a.dx (hF n a.s.st a.sd a.un)):=by rw[<- hG,aj YS,aj nt];exact gh
  have t1:H1 t=some (.tup [.ref D,.ref a.s.st]):=by rw[<- hG,aj nst.symm];exact af
  have o1:∀ b u,b≠a.sd->H b=some u->H1 b=some u:=fun b u hb e=>by rw[<- hG,aj hb,aj (ah e ht)];exact e
  clear hG
  refine⟨Nat.zero_le _,fun un' hu=>⟨_,rfl,a.h,c.H,a.dx,_,rfl,by rw[aj (ah h1 hu)];exact h1,T.cl,T.n4,by show 4<1000;decide,?_⟩⟩
  have t2:Step H1 a.h un' (.lst []) (.ins c.H a.dx (hF n a.s.st a.sd un')) (upd (upd H1 un' (.lst [])) a.h (.ins c.H a.dx (hF n a.s.st a.sd un'))):=Step.of h1 hu
  generalize hG:upd (upd H1 un' (.lst [])) a.h (.ins c.H a.dx (hF n a.s.st a.sd un'))=H2 at t2
  have hG':upd (upd H1 un' (.lst [])) a.h (.ins c.H a.dx (kM "undone" (.ref un') (hF n a.s.st a.sd a.un)))=H2:=hG
  rw[hG']
  clear hG hG'
  refine⟨_,rfl,_,rfl,a.h,c.H,a.dx,_,rfl,t2.gx,T.cl,T.n2,by show 4<1000;decide,?_⟩
  have kp:mC a.h a.sd H (upd H2 a.h (.ins c.H a.dx (kM "state" (.ref a2.st) (hF n a.s.st a.sd un')))):=⟨fun b u Bq Br e=>by rw[aj Bq];exact t2.old _ _ Bq (o1 _ _ Br e)⟩
  refine k { a with s:=a2,un:=un' } _ rfl rfl (hh.stood (un':=un') (t:=t) ok s2 gD gd past af ?_ ?_ kp) kp
  ·rw[aj YS.symm]
   exact t2.old _ _ YS.symm d1
  ·rw[aj nt.symm]
   exact t2.old _ _ nt.symm t1
structure xJ(K:W.Frag)(mg:Str->Option Value)(C:Addr):Prop where
 m:mg "Thing" = some (.ref C)
 cl:C6 K C
 n1:bB K C "kind"
 n2:bB K C "made"
 n3:bB K C "line"
abbrev YT:Stmt:=inClass (top 52) 0
abbrev nTI:List Str:=["self", "kind", "made", "line"]
theorem YU:au nTI ["self", "kind", "made", "line"] (ao YT):=by right
abbrev LY:List Str:=["self", "kind", "made", "line"]
def LZ(C:Addr):Sp:=fun vs H Q _=>∃ x dx k m l,vs=[.ref x,k,m,l]/\H x=some (.ins C dx [])/\∀ H',H' x=some (.ins C dx [("kind",k),("made",m),("line",l)])->(∀ b u,b≠x->H b=some u->H' b=some u)->Q .bY H'
theorem Uz{C f:Addr}{fd:FuncData}(F:d_ K "__init__" "Thing.__init__" YT f fd)(T:xJ K mg C):aE P w K mg base aY 1 f fd LY (LZ C):=by
 refine F.ok YU (fun vs H Q E h=>?_) (fun bJ A outer s H vs Q E hr h=>?_)
 ·obtain⟨x,dx,k,m,l,rfl,_⟩:=h
  rfl
 ·obtain⟨x,dx,k,m,l,rfl,hx,q⟩:=h
  refine⟨_,(aa (a7 (pv 0) (pv 1) rfl) (aa (a7 (pv 0) (pv 2) rfl) (ai (a7 (pv 0) (pv 3) rfl)))),?_⟩
  refine⟨_,rfl,_,rfl,x,C,dx,[],rfl,hx,T.cl,T.n1,by show 0<1000;decide,?_⟩
  refine⟨_,rfl,_,rfl,x,C,dx,_,rfl,af,T.cl,T.n2,by show 1<1000;decide,?_⟩
  refine⟨_,rfl,_,rfl,x,C,dx,_,rfl,af,T.cl,T.n3,by show 2<1000;decide,?_⟩
  exact q _ af fun b u hb e=>by rw[aj hb,aj hb,aj hb];exact e
abbrev YV:Stmt:=inClass (top 52) 1
abbrev nTH:List Str:=["self"]
theorem YW:au nTH ["self"] (ao YV):=by right
abbrev Ij:List Str:=["self"]
def Ik(c:Ct):Sp:=fun vs H Q _=>∃ v t z,vs=[v]/\nH c H v t/\t.hold=some z/\Q (.str z) H
theorem Fp{α:Type}{R:Addr->α->Prop}:∀ {ts:List Addr} {l:List α} {x:α},Paired R ts l->l.getLast?=some x->∃ t,vc (ts.map V.ref) (-1)=some (.ref t)/\R t x:=fun {ts l x} h e=>by
 obtain⟨r,rfl⟩:=List.getLast?_eq_some_iff.mp e
 have key:∀ {ts:List Addr} {r:List α},Paired R ts (r++[x])->∃ t0 t,ts=t0++[t]/\R t x:=by
  intro ts r
  induction r generalizing ts with
  | nil=>intro h;cases h with | cons a b=>cases b;exact⟨[],_,rfl,a⟩
  | cons y r ih =>
   intro h
   cases h with
   | cons a b =>
    obtain⟨t0,t,rfl,q⟩:=ih b
    exact⟨_::t0,t,rfl,q⟩
 obtain⟨t0,t,rfl,q⟩:=key h
 exact⟨t,by rw[List.map_append];exact GJ _ _,q⟩
theorem UA{c:Ct}{f:Addr}{fd:FuncData}(F:d_ K "holder" "Thing.holder" YV f fd)(T:xJ K mg c.T):aE P w K mg base aY 1 f fd Ij (Ik c):=by
 refine F.ok YW (fun vs H Q E h=>?_) (fun bJ A outer s H vs Q E hr h=>?_)
 ·obtain⟨v,t,z,rfl,_⟩:=h
  rfl
 ·obtain⟨v,t,z,rfl,⟨a,dx,l,ts,rfl,g1,g2,g3⟩,hz,q⟩:=h
  obtain⟨p,hp,e⟩:∃ p,t.line.getLast?=some p/\p.2=z:=by
   unfold Th.hold at hz
   cases h:t.line.getLast? with
   | none=>rw[h] at hz;cases hz
   | some p=>rw[h] at hz;exact⟨p,rfl,Option.some.inj hz⟩
  have hl:(t.line.map fun q=>[V.int q.1,V.str q.2]).getLast?=some [V.int p.1,V.str p.2]:=by
   rw[List.getLast?_map,hp];rfl
  obtain⟨t1,h1,h2⟩:=Fp g3 hl
  refine⟨_,(ai (aI (aV bQ (aV bQ (ar (pv 0) rfl) (MV Gr az) (fun _ _=>rfl)) az (fun _ _=>rfl)))),?_⟩
  refine⟨_,rfl,a,c.T,dx,_,_,rfl,g1,T.cl,T.n3,rfl,1,rfl,l,_,_,_,rfl,rfl,bV.of g2,h1,t1,_,1,_,rfl,rfl,bV.of h2,aH (j:=1) rfl,?_⟩
  rw[e]
  exact q
abbrev YX:Stmt:=inClass (top 52) 2
abbrev nTS:List Str:=["self"]
theorem YY:au nTS ["self"] (ao YX):=by right
abbrev Px:List Str:=["self"]
def Py(c:Ct):Sp:=fun vs H Q _=>∃ v t,vs=[v]/\nH c H v t/\Q (.int ((t.line.length:Nat) - 1:Int)) H
theorem UB{c:Ct}{f:Addr}{fd:FuncData}(F:d_ K "steps" "Thing.steps" YX f fd)(T:xJ K mg c.T)(L:lD mg):aE P w K mg base aY 1 f fd Px (Py c):=by
 refine F.ok YY (fun vs H Q E h=>?_) (fun bJ A outer s H vs Q E hr h=>?_)
 ·obtain⟨v,t,rfl,_⟩:=h
  rfl
 ·obtain⟨v,t,rfl,⟨a,dx,l,ts,rfl,g1,g2,g3⟩,q⟩:=h
  have T:=T
  refine⟨_,(ai (aI (bb AM (aA aT rfl L.len PySem.boot_len (U (ar (pv 0) rfl) ae)) az))),?_⟩
  refine⟨_,rfl,a,c.T,dx,_,_,rfl,g1,T.cl,T.n3,rfl,l,_,rfl,.inr (bV.of g2),_,_,rfl,rfl,?_⟩
  rw[List.length_map,Paired.length g3,List.length_map]
  exact q
abbrev YZ:Stmt:=inClass (top 52) 3
abbrev nTP:List Str:=["self", "now", "receiver"]
theorem Y0:au nTP ["self", "now", "receiver"] (ao YZ):=by right
abbrev Pz:List Str:=["self", "now", "receiver"]
def PB(c:Ct):Sp:=fun vs H Q _=>∃ (v:V) (t:Th) (i:Int) (z:Str),vs=[v,.int i,.str z]/\nH c H v t/\t.line≠[]/\t.line.length<=1000/\∀ v' H',ak H H'->nH c H' v' { t with line:=t.line++[(i,z)] }->Q v' H'
theorem UC{c:Ct}{f fI:Addr}{fd Ii:FuncData}(F:d_ K "passed" "Thing.passed" YZ f fd)(T:xJ K mg c.T)(XI:Kc P w K mg base aY 1 "Thing" c.T fI Ii LY (LZ c.T)):aE P w K mg base aY 3 f fd Pz (PB c):=by
 refine F.ok Y0 (fun vs H Q E h=>?_) (fun bJ A outer s H vs Q E hr h=>?_)
 ·obtain⟨v,t,i,z,rfl,_⟩:=h
  rfl
 ·obtain⟨v,t,i,z,rfl,⟨a,dx,l,ts,rfl,g1,g2,g3⟩,Dh,hl,q⟩:=h
  refine⟨_,(ai (aI (w6 XI.M XI.G (hr.mono (by decide)) rfl XI.m XI.b .nil aS (U (ar (pv 0) rfl) (U (ar (pv 0) rfl) (U (bb uh (ar (pv 0) rfl) (aQ (U (aQ (U (pv 1) (U (pv 2) ae))) ae))) ae)))))),?_⟩
  refine⟨_,rfl,a,c.T,dx,_,_,rfl,g1,T.cl,T.n1,rfl,_,rfl,a,c.T,dx,_,_,rfl,g1,T.cl,T.n2,rfl,_,rfl,a,c.T,dx,_,_,rfl,g1,T.cl,T.n3,rfl,?_⟩
  refine⟨_,rfl,_,rfl,by show 2<=sizeLine;decide,fun p1 h1=>⟨by show 1<=sizeLine;decide,fun p2 h2=>?_⟩⟩
  have s1:ak H (upd H p1 (.tup [.int i,.str z])):=ak.new h1
  have s2:=s1.trans (ak.new (o:=.tup [.ref p1]) h2)
  have Il:ts.length=t.line.length:=by rw[Paired.length g3,List.length_map]
  refine⟨l,p2,_,_,rfl,rfl,bV.of (s2 _ _ g2),bV.of af,by rw[List.length_map,Il];exact Nat.le_trans (Nat.add_le_add_right hl 1) (by decide),List.cons_ne_nil _ _,fun z=>absurd (List.map_eq_nil_iff.mp z) (fun e=>Dh (List.length_eq_zero_iff.mp (by rw[<- Il,e];rfl))),fun _ p3 h3=>?_⟩
  have e3:ts.map V.ref++[V.ref p1]=(ts++[p1]).map V.ref:=by rw[List.map_append];rfl
  have s3:=s2.trans (ak.new (o:=.tup (ts.map V.ref++[.ref p1])) h3)
  have gp3:upd (upd (upd H p1 (HO.tup [V.int i,V.str z])) p2 (HO.tup [V.ref p1])) p3 (HO.tup (ts.map V.ref++[V.ref p1])) p3=some (.tup ((ts++[p1]).map V.ref)):=by rw[e3];exact af
  have gp1:upd (upd (upd H p1 (HO.tup [V.int i,V.str z])) p2 (HO.tup [V.ref p1])) p3 (HO.tup (ts.map V.ref++[V.ref p1])) p1=some (.tup [.int i,.str z]):=ak.new h3 _ _ (ak.new h2 _ _ af)
  generalize upd (upd (upd H p1 (HO.tup [V.int i,V.str z])) p2 (HO.tup [V.ref p1])) p3 (HO.tup (ts.map V.ref++[V.ref p1]))=H3 at s3 gp3 gp1
  refine fun x PD hx xq nx=>⟨x,PD,_,_,_,rfl,af,fun H4 g4 o4=>⟨rfl,?_⟩⟩
  have s4:ak H3 H4:=fun b u e=>o4 b u (ah e hx) (by rw[aj (ah e hx),aj (ah e xq)];exact e)
  refine q (.ref x) H4 (s3.trans s4) ⟨x,PD,p3,ts++[p1],rfl,g4,s4 _ _ gp3,?_⟩
  rw[List.map_append]
  exact PySem.Paired.snoc (g3.to fun b xs e=>(s3.trans s4) _ _ e) (s4 _ _ gp1)
abbrev BJ(j:Nat):Stmt:=inClass (top 79) j
abbrev Y1:Stmt:=BJ 0
abbrev L6:Stmt:=BJ 1
abbrev uq:Stmt:=BJ 2
abbrev UD:Stmt:=BJ 12
abbrev l6:Stmt:=BJ 13
abbrev zR:Stmt:=BJ 14
structure ur(K:W.Frag)(mg:Str->Option Value)(C:Addr):Prop where
 m:mg "Pairing" = some (.ref C)
 cl:C6 K C
 nk:bB K C "kinds"
 nr:bB K C "ranks"
 nm:bB K C "mates"
structure PM(K:W.Frag)(C:Addr)(x q:Str)(st:Stmt)(ps:List Str)(f:Addr)(fd:FuncData):Prop where
 me:Meth K C x f
 F:d_ K x q st f fd
 b:Binds K fd ps []
structure zS(mg:Str->Option Value):Prop where
 len:mg "len" = none
 UE:mg "min" = none
 Y2:mg "max" = none
 uj:mg "range" = none
 oU:mg "list" = none
theorem boot_min:bootBuiltins "min" = some (.builtin "min"):=by left
theorem boot_max:bootBuiltins "max" = some (.builtin "max"):=by left
theorem Y3:au ["self"] ["self"] (ao Y1):=by right
def L7(C:Addr):Sp:=fun vs H Q _=>∃ x dx,vs=[.ref x]/\H x=some (.ins C dx [])/\∀ (a:F5) H',a.x=x->vf C H' a ⟨[],[],[]⟩->bD [x] H H'->(∀ y∈[a.k,a.r,a.m],H y=none)->Q .bY H'
theorem ql{H:Hp}{l x y:Addr}{o o':HO}(h1:H l=none)(h:upd (upd H l o) x o' y=none):H y=none:=by
 cases q:H y with
 | none=>rfl
 | some u =>
  have e1:y≠x:=fun z=>by rw[z,af] at h;cases h
  have e2:y≠l:=fun z=>by rw[z,h1] at q;cases q
  rw[aj e1,aj e2,q] at h
  cases h
theorem UG{C f:Addr}{fd:FuncData}(F:d_ K "__init__" "Pairing.__init__" Y1 f fd)(T:ur K mg C):aE P w K mg base aY 1 f fd ["self"] (L7 C):=by
 refine F.ok Y3 (fun vs H Q E h=>?_) (fun bJ A outer s H vs Q E hr h=>?_)
 ·obtain⟨x,dx,rfl,_⟩:=h
  rfl
 ·obtain⟨x,dx,rfl,hx,k⟩:=h
  refine⟨_,aa (a7 (pv 0) (cL ae) rfl) (aa (a7 (pv 0) (cL ae) rfl) (ai (a7 (pv 0) (cL ae) rfl))),?_⟩
  refine⟨Nat.zero_le _,fun l1 h1=>?_⟩
  have n1:x≠l1:=ah hx h1
  refine⟨_,rfl,x,C,dx,[],rfl,by rw[aj n1];exact hx,T.cl,T.nk,by decide,?_⟩
  refine⟨Nat.zero_le _,fun l2 h2=>?_⟩
  have n2:x≠l2:=ah af h2
  have RW:l1≠l2:=ah (by rw[aj n1.symm];exact af) h2
  refine⟨_,rfl,x,C,dx,_,rfl,by rw[aj n2];exact af,T.cl,T.nr,by show 1<1000;decide,?_⟩
  refine⟨Nat.zero_le _,fun l3 h3=>?_⟩
  have n3:x≠l3:=ah af h3
  have UH:l1≠l3:=ah (by rw[aj n1.symm,aj RW,aj n1.symm];exact af) h3
  have UI:l2≠l3:=ah (by rw[aj n2.symm];exact af) h3
  refine⟨_,rfl,x,C,dx,_,rfl,by rw[aj n3];exact af,T.cl,T.nm,by show 2<1000;decide,?_⟩
  have z2:H l2=none:=ql h1 h2
  have z3:H l3=none:=ql h1 (ql h2 h3)
  refine k ⟨x,dx,l1,l2,l3⟩ _ rfl ⟨af,?_,?_,?_,RW,UH,UI⟩ ?_ (fun y hy=>by
   rcases List.mem_cons.mp hy with e | hy
   ·rw[e];exact h1
   ·rcases List.mem_cons.mp hy with e | hy
    ·rw[e];exact z2
    ·rw[List.mem_singleton.mp hy];exact z3)
  ·show upd _ x _ l1=_
   rw[aj n1.symm,aj UH,aj n1.symm,aj RW,aj n1.symm];exact af
  ·show upd _ x _ l2=_
   rw[aj n2.symm,aj UI,aj n2.symm];exact af
  ·show upd _ x _ l3=_
   rw[aj n3.symm];exact af
  ·have S:∀ {H1:Hp} {o},bD [x] H1 (upd H1 x o):=bD.upd (List.mem_singleton.mpr rfl)
   exact(bD.of (ak.new h1)).trans (S.trans ((bD.of (ak.new h2)).trans (S.trans ((bD.of (ak.new h3)).trans S))))
theorem PF:au ["self"] ["self"] (ao uq):=by right
def xK(C:Addr):Sp:=fun vs H Q _=>∃ a p,vs=[.ref a.x]/\vf C H a p/\Q (.int p.kinds.length) H
theorem xM{C f:Addr}{fd:FuncData}(F:d_ K "many" "Pairing.many" uq f fd)(T:ur K mg C)(M:zS mg):aE P w K mg base aY 1 f fd ["self"] (xK C):=by
 refine F.ok PF (fun vs H Q E h=>?_) (fun bJ A outer s H vs Q E hr h=>?_)
 ·obtain⟨a,p,rfl,_⟩:=h
  rfl
 ·obtain⟨a,p,rfl,hp,k⟩:=h
  refine⟨_,ai (aI (aA aT rfl M.len PySem.boot_len (U (ar (pv 0) rfl) ae))),?_⟩
  refine⟨_,rfl,a.x,C,a.dx,_,_,rfl,hp.x,T.cl,T.nk,rfl,_,_,rfl,.inl (bx.of hp.k),?_⟩
  rw[List.length_map]
  exact k
abbrev nCP:List Str:=["self", "one", "other", "earlier", "later"]
theorem PH:au nCP ["self", "one", "other"] (ao UD):=by right
def PK(C:Addr):Sp:=fun vs H Q _=>∃ (a:F5) (p:de) (n i j:Nat),vs=[.ref a.x,.int i,.int j]/\vf C H a p/\p.Len n/\i<n/\j<n/\Q (.bl (p.fit i j)) H
theorem UJ(a b:Bool):decide (V.str (kS a)=V.str (kS b))=(a == b):=by
 cases a<;>cases b<;>left
theorem UK{C f fO:Addr}{fd F8:FuncData}(F:d_ K "can_pair" "Pairing.can_pair" UD f fd)(T:ur K mg C)(M:zS mg)(KT:zM mg)(FO:d_ K "other_kind" "other_kind" Wf fO F8)(mO:mg "other_kind" = some (.ref fO))(bO:Binds K F8 ["kind"] []):aE P w K mg base aY 2 f fd ["self", "one", "other"] (PK C):=by
 have GO:aE P w K mg base aY 1 fO F8 _ Ub:=Uc FO KT
 refine F.ok PH (fun vs H Q E h=>?_) (fun bJ A outer s H vs Q E hr h=>?_)
 ·obtain⟨a,p,n,i,j,rfl,_⟩:=h
  rfl
 ·obtain⟨a,p,n,i,j,rfl,hp,hl,hi,hj,k⟩:=h
  refine⟨_,aa (aD (i:=3) PH.nd rfl (Or.inl rfl) (aA (D' rfl) rfl M.UE boot_min (U (pv 1) (U (pv 2) ae))))
   (aa (aD (i:=4) PH.nd rfl (Or.inl rfl) (aA (D_ rfl) rfl M.Y2 boot_max (U (pv 1) (U (pv 2) ae))))
   (ai (aI (kX (gE dH (aV bh (ar (pv 0) rfl) (pv 4) (fun _ _=>rfl)) (aw GO hr rfl mO FO.kp bO .nil aS (U (aV bh (ar (pv 0) rfl) (pv 3) (fun _ _=>rfl)) ae)) (aN _))
    (j8 (gE MW (aV bh (ar (pv 0) rfl) (pv 4) (fun _ _=>rfl)) (aV bh (ar (pv 0) rfl) (pv 3) (fun _ _=>rfl)) (aN _))))))),?_⟩
  have emin:(if (j:Int)<i then (j:Int) else i)=((min i j:Nat):Int):=by split<;>omega
  have emax:(if (j:Int)>i then (j:Int) else i)=((max i j:Nat):Int):=by split<;>omega
  have UL:min i j<n:=by omega
  have UM:max i j<n:=by omega
  refine⟨_,rfl,_,rfl,i,j,rfl,?_⟩
  rw[emin]
  refine⟨_,rfl,_,rfl,i,j,rfl,?_⟩
  rw[emax]
  refine⟨_,rfl,a.x,C,a.dx,_,_,rfl,hp.x,T.cl,T.nk,rfl,_,rfl,a.k,_,_,_,rfl,rfl,bx.of hp.k,jt (d:=false) (by rw[hl.k];exact UM),?_⟩
  refine⟨_,rfl,a.x,C,a.dx,_,_,rfl,hp.x,T.cl,T.nk,rfl,_,rfl,a.k,_,_,_,rfl,rfl,bx.of hp.k,jt (d:=false) (by rw[hl.k];exact UL),_,rfl,rfl,_,rfl,?_⟩
  rw[UJ]
  show if (p.kindAt (max i j) == !p.kindAt (min i j))=true then _ else _
  have ef:p.fit i j=((p.kindAt (max i j) == !p.kindAt (min i j))&&decide (p.qf (min i j)<=p.qf (max i j))):=rfl
  cases hk:(p.kindAt (max i j) == !p.kindAt (min i j)) with
  | false =>
   rw[hk,Bool.false_and] at ef
   rw[ef] at k
   exact cx k
  | true =>
   rw[hk,Bool.true_and] at ef
   rw[ef] at k
   refine cH ⟨_,rfl,a.x,C,a.dx,_,_,rfl,hp.x,T.cl,T.nr,rfl,_,rfl,a.r,_,_,_,rfl,rfl,bx.of hp.r,jt (d:=0) (by rw[hl.r];exact UM),?_⟩
   exact⟨_,rfl,a.x,C,a.dx,_,_,rfl,hp.x,T.cl,T.nr,rfl,_,rfl,a.r,_,_,_,rfl,rfl,bx.of hp.r,jt (d:=0) (by rw[hl.r];exact UL),_,_,rfl,rfl,k⟩
theorem kn:bootBuiltins "list" = some (.type "list"):=by left
abbrev UN:List Str:=["self", "starts", "origins", "waiting", "at", "one", "other"]
theorem nJ:au UN ["self", "starts"] (ao zR):=by right
def Im(K:W.Frag)(C:Addr):Sp:=fun vs H Q _=>∃ (a:F5) (p:de) (n:Nat) (l:Addr) (starts:List Nat),vs=[.ref a.x,.ref l]/\vf C H a p/\p.Len n/\n<=400/\bx K H l (starts.map nV)/\(∀ i∈starts,i<n)/\starts.length<=400/\(∀ i j,p.aR i=some j->j<n) /\
 ∀ d aC H',H d=none->ak H H'->H' d=some (.dK (oM aC))->Reach p n starts aC->Bf p n starts aC->Q (.ref d) H'
def Y4(m:Nat)(σ:St):Nat:=match σ[4]? with
 | some (some (V.int a))=>m - a.toNat
 | _=>0
theorem L8{C f fM fP:Addr}{fd Np oh:FuncData}(F:d_ K "come_to" "Pairing.come_to" zR f fd)(T:ur K mg C)(M:zS mg)(Io:PM K C "many" "Pairing.many" uq ["self"] fM Np)
  (GP:aE P w K mg base aY 2 fP oh ["self", "one", "other"] (PK C)) (PP:PM K C "can_pair" "Pairing.can_pair" UD ["self", "one", "other"] fP oh):aE P w K mg base aY 3 f fd ["self", "starts"] (Im K C):=by
 have GM:aE P w K mg base aY 1 fM Np _ (xK C):=xM Io.F T M
 refine F.ok nJ (fun vs H Q E h=>?_) (fun bJ A outer s H vs Q E hr h=>?_)
 ·obtain⟨a,p,n,l,starts,rfl,_⟩:=h
  rfl
 ·obtain⟨a,p,n,l,starts,rfl,hp,hl,hn,hS,tG,hsl,hm,k⟩:=h
  have hu:=gc hr
  refine⟨_,aa (aD (i:=2) nJ.nd rfl (Or.inl rfl) oF)
   (aa (aD (i:=3) nJ.nd rfl (Or.inl rfl) (dO iP rfl M.oU kn (U (pv 1) ae)))
   (aa (aD (i:=4) nJ.nd rfl (Or.inl rfl) az)
   (aa (yH PassesOwn.never (aG qQ (pv 4) (aA aT rfl M.len PySem.boot_len (U (pv 3) ae)) (aN _))
    (aa (aD (i:=5) nJ.nd rfl (Or.inl rfl) (aV bh (pv 3) (pv 4) (fun _ _=>rfl)))
    (aa (tI PassesOwn.never rfl (lU rfl M.uj (U (b_ (pv 0) T.cl Io.me GM (hr.mono (by decide)) Io.b .nil aS) ae)) (bz (i:=6) nJ.nd rfl (Or.inl rfl))
     (ai (aP (PW.pt (wW (cg (gf hu (pv 6) (pv 2))) (r9 (dQ (ck (pv 0) T.cl PP.me GP (hr.mono (by decide)) PP.b .nil aS (U (pv 5) (U (pv 6) ae)))))))
      (aa (xb hu (pv 2) (pv 6) (pv 5) rfl)
      (ai (aP (cg (rZ (aV bh (ar (pv 0) rfl) (pv 6) (fun _ _=>rfl))))
       (ai (aK (mU PySem.F.plainAttrs_list PySem.F.slot_list_append PySem.F.type_list_append eS (pv 3) (U (aV bh (ar (pv 0) rfl) (pv 6) (fun _ _=>rfl)) ae)))) ay))) ay)))
    (ai (NX (i:=4) nJ.nd rfl (Or.inl rfl) az NY)))))
   (ai (aI (pv 2)))))),?_⟩
  refine fun d hd=>?_
  refine⟨_,rfl,l,_,rfl,.inl ((ak.new hd).seq hS),fun l2 F4=>?_⟩
  have Y5:d≠l2:=ah af F4
  have UO:H l2=none:=by rw[aj Y5.symm] at F4;exact F4
  have sm0:∀ o o',ak H (upd (upd H d o) l2 o'):=fun o o'=>((ak.refl H).put hd).put UO
  refine yK (fun bf H'=>∃ (aC:List (Nat×Nat)) (wait:List Nat) (at_:Nat) (o1 o2:Option V),bf=[some (.ref a.x),some (.ref l),some (.ref d),some (.ref l2),some (.int (at_:Nat)),o1,o2]/\lA p n starts aC wait at_ 0/\ak H H'/\H' d=some (.dK (oM aC))/\H' l2=some (.lst (wait.map nV))) (fun bf _=>Y4 (starts.length+n+1) bf)
   ⟨[],starts,0,none,none,rfl,.start,sm0 _ _,(by rw[aj Y5];exact af),af⟩ ?_ ?_
  ·rintro bf H' ⟨aC,wait,at_,o1,o2,rfl,sr,sm,Dr,BG⟩
   refine⟨_,rfl,_,rfl,l2,_,rfl,.inl (bx.of BG),_,_,rfl,rfl,_,rfl,?_⟩
   rw[List.length_map]
   refine eg (fun c=>?_) (fun c=>?_)
   ·have lt:at_<wait.length:=by have:=of_decide_eq_true c;omega
    obtain⟨v,hv⟩:∃ v,wait[at_]?=some v:=⟨wait[at_],List.getElem?_eq_getElem lt⟩
    have hvn:v<n:=by
     have hvm:=List.mem_of_getElem? hv
     rw[sr.w] at hvm
     rcases List.mem_append.mp hvm with z | z
     ·exact tG v z
     ·obtain⟨q,_,e⟩:=List.mem_filterMap.mp z
      exact hm _ _ e
    refine⟨_,rfl,_,rfl,l2,_,_,_,rfl,rfl,bx.of BG,aH (j:=at_) (by rw[List.getElem?_map,hv];rfl),?_⟩
    refine⟨_,rfl,a.x,a.dx,_,rfl,sm _ _ hp.x,rfl,a,p,rfl,hp.same sm,_,rfl,by rw[hl.k];omega,by rw[hl.k];omega,?_⟩
    rw[hl.k,Int.toNat_natCast]
    have wl:=sr.len
    refine D9 (n:=n) (fun i kY H2=>∃ (aC:List (Nat×Nat)) (wait:List Nat) (o2:Option V),kY=[some (.ref a.x),some (.ref l),some (.ref d),some (.ref l2),some (.int (at_:Nat)),some (nV v),o2]/\wait[at_]?=some v/\lA p n starts aC wait at_ i/\ak H H2/\H2 d=some (.dK (oM aC))/\H2 l2=some (.lst (wait.map nV)))
     ⟨aC,wait,o2,rfl,hv,sr,sm,Dr,BG⟩ ?_ ?_
    ·rintro i kY H2 hi ⟨aC,wait,o2,rfl,hv,sr,sm,Dr,BG⟩
     have e0:(0:Int)+(i:Nat)=((i:Nat):Int):=Int.zero_add _
     rw[e0]
     have ol:=sr.r.len
     have lim:(oM aC).length<sizeLine:=by unfold oM;rw[List.length_map];exact dP (by omega)
     refine⟨_,rfl,_,rfl,d,_,rfl,fj.k (k:=Sum.inl ((i:Nat):Int)) Dr,_,rfl,?_⟩
     rw[zg]
     by_cases UP:i∈aC.map (·.1)
     ·rw[decide_eq_true UP]
      refine cx ?_
      exact cx ⟨aC,wait,_,rfl,hv,sr.skip hv (.inl UP),sm,Dr,BG⟩
     ·rw[decide_eq_false UP]
      refine cH ⟨_,rfl,a.x,a.dx,_,rfl,sm _ _ hp.x,rfl,_,rfl,_,rfl,a,p,n,v,i,rfl,hp.same sm,hl,hvn,hi,_,rfl,?_⟩
      cases hf:p.fit v i with
      | false=>exact cx ⟨aC,wait,_,rfl,hv,sr.skip hv (.inr hf),sm,Dr,BG⟩
      | true =>
       refine cH ⟨_,rfl,_,rfl,_,rfl,d,_,rfl,xa.k (k:=Sum.inl ((i:Nat):Int)) Dr lim,?_⟩
       have Wk:=sr.put hv hi UP hf
       have dl:d≠l2:=Y5
       have PL:ak H (upd H2 d (.dK (putK (oM aC) (Sum.inl ((i:Nat):Int)) (nV v)))):=sm.put hd
       have e3:upd H2 d (.dK (putK (oM aC) (Sum.inl ((i:Nat):Int)) (nV v))) d=some (.dK (oM (aC++[(i,v)]))):=by rw[af];exact congrArg (fun z=>some (HO.dK z)) (Le UP)
       have l3:upd H2 d (.dK (putK (oM aC) (Sum.inl ((i:Nat):Int)) (nV v))) l2=some (.lst (wait.map nV)):=by rw[aj dl.symm];exact BG
       generalize upd H2 d (.dK (putK (oM aC) (Sum.inl ((i:Nat):Int)) (nV v)))=H3 at PL e3 l3 ⊢
       have am:vc (p.gg.map mV) ((i:Nat):Int)=some (mV (p.aR i)):=jt (d:=none) (by rw[hl.m];exact hi)
       have P3:=hp.same PL
       refine⟨_,rfl,a.x,C,a.dx,_,_,rfl,P3.x,T.cl,T.nm,rfl,_,rfl,a.m,_,_,_,rfl,rfl,bx.of P3.m,am,_,rfl,?_⟩
       cases hmt:p.aR i with
       | none =>
        rw[hmt] at Wk
        refine cx ⟨aC++[(i,v)],wait,_,rfl,hv,?_,PL,e3,l3⟩
        simpa using Wk
       | some j =>
        rw[hmt] at Wk am
        have la:at_<wait.length:=(List.getElem?_eq_some_iff.mp hv).1
        have wl3:=sr.len
        refine cH ⟨_,rfl,.inl ⟨rfl,_,bx.of l3⟩,_,rfl,a.x,C,a.dx,_,_,rfl,P3.x,T.cl,T.nm,rfl,_,rfl,a.m,_,_,_,rfl,rfl,bx.of P3.m,am,l2,_,_,rfl,rfl,l3,by rw[List.length_map];exact dP (by omega),?_⟩
        refine⟨aC++[(i,v)],wait++[j],_,rfl,by rw[List.getElem?_append_left la];exact hv,Wk,PL.put UO,by rw[aj dl];exact e3,?_⟩
        rw[af,List.map_append]
        rfl
    ·rintro kY H2 ⟨aC,wait,o2,rfl,hv,sr,sm,Dr,BG⟩
     refine⟨_,rfl,_,_,rfl,rfl,?_⟩
     refine⟨⟨aC,wait,at_+1,_,_,rfl,sr.next,sm,Dr,BG⟩,?_⟩
     show starts.length+n+1 - ((at_:Int)+1).toNat<starts.length+n+1 - ((at_:Nat):Int).toNat
     have la:at_<wait.length:=(List.getElem?_eq_some_iff.mp hv).1
     have wl3:=sr.len
     omega
   ·have ge:wait.length<=at_:=by have:¬ (at_:Int)<(wait.length:Int):=fun z=>c (decide_eq_true z);omega
    exact⟨_,rfl,k d aC H' hd sm Dr sr.r (sr.closed ge)⟩
  ·rintro σ H Q Q' hq ⟨v,e1,v2,e2,p',ys,e3,h4,i,j,e5,e6,k,e7,q⟩
   exact⟨v,e1,v2,e2,p',ys,e3,h4,i,j,e5,e6,k,e7,hq _ _ q⟩
abbrev DG:List Str:=["self", "newest", "origins", "alone", "one", "left"]
theorem jO:au DG ["self", "newest"] (ao l6):=by right
def zU(C:Addr):Sp:=fun vs H Q _=>∃ (a:F5) (p:de) (n new:Nat),vs=[.ref a.x,.int (new:Nat)]/\vf C H a p/\Val p n/\n<=400/\new<n/\p.aR new=none /\
 ∀ p' H',bD [a.m] H H'->vf C H' a p'->ju p n new p'->Q .bY H'
def Y6(keys:List Nat)(σ:St):Nat:=match σ[3]? with
 | some (some (V.int a))=>keys.idxOf a.toNat+1
 | _=>0
theorem Fq{C f fC:Addr}{fd Wl:FuncData}(F:d_ K "settle" "Pairing.settle" l6 f fd)(T:ur K mg C)(M:zS mg)
  (GC:aE P w K mg base aY 3 fC Wl ["self", "starts"] (Im K C)) (PC:PM K C "come_to" "Pairing.come_to" zR ["self", "starts"] fC Wl):aE P w K mg base aY 4 f fd ["self", "newest"] (zU C):=by
 refine F.ok jO (fun vs H Q E h=>?_) (fun bJ A outer s H vs Q E hr h=>?_)
 ·obtain⟨a,p,n,new,rfl,_⟩:=h
  rfl
 ·obtain⟨a,p,n,new,rfl,hp,VV,hn,Bg,hm0,k⟩:=h
  have hu:=gc hr
  have hl:=VV.len
  refine⟨_,aa (aD (i:=2) jO.nd rfl (Or.inl rfl) (ck (pv 0) T.cl PC.me GC hr PC.b .nil aS (U (cL (U (pv 1) ae)) ae)))
   (aa (aD (i:=3) jO.nd rfl (Or.inl rfl) (Lc rfl rfl M.UE boot_min (U (t9 (ao l6) DG rfl rfl (by left) rfl (Ld (pv 2)) (fun C s H fp pins=>pv 0)
     (fun C s H fp pins=>xg (cg (jC (aV (show Ec _ (GU K) from bh) (show PE _ _ (N6 K (tw 1) "mates") from ar (pv 1) rfl) (pv 0) (fun _ _=>rfl)))))) ae) AJ))
   (ai (yH PassesOwn.never (cg (rZ (pv 3)))
    (aa (aD (i:=4) jO.nd rfl (Or.inl rfl) (ig hu (pv 2) (pv 3) (fun _ _=>rfl)))
    (aa (aD (i:=5) jO.nd rfl (Or.inl rfl) (aV bh (ar (pv 0) rfl) (pv 4) (fun _ _=>rfl)))
    (aa (tH (pv 4) (Gk (ar (pv 0) rfl) (pv 3) set_list))
    (aa (tH (pv 3) (Gk (ar (pv 0) rfl) (pv 4) set_list))
    (ai (aD (i:=3) jO.nd rfl (Or.inl rfl) (pv 5)))))))))),?_⟩
  refine⟨_,rfl,a.x,a.dx,_,rfl,hp.x,rfl,_,rfl,by show 1<=sizeLine;decide,fun l Kh=>?_⟩
  have Y7:ak H (upd H l (.lst [.int (new:Nat)])):=ak.new Kh
  refine⟨a,p,n,l,[new],rfl,hp.same Y7,hl,hn,bx.of af,(fun i hi=>by rw[List.mem_singleton.mp hi];exact Bg),by show 1<=400;decide,(fun i j e=>(VV.inv i j e).1),fun d aC H1 hd sm Dr R Cl=>?_⟩
  have smA:ak H H1:=Y7.trans sm
  have hd0:H d=none:=by
   cases q:H d with
   | none=>rfl
   | some o=>rw[Y7 _ _ q] at hd;cases hd
  have P1:=hp.same smA
  refine⟨_,rfl,d,oM aC,rfl,Dr,fun ob D hD=>?_⟩
  have ndm:∀ {x o},H x=some o->x≠d:=fun e z=>by rw[z,hd0] at e;cases e
  have smF:ak H (upd H1 d (.pX ob (.dK (oM aC)))):=fun b u e=>by rw[aj (ndm e)];exact smA b u e
  have ol:=R.len
  have lim:(oM aC).length<=sizeLine:=by unfold oM;rw[List.length_map];exact Nat.le_of_lt (dP (by omega))
  refine Be (Dl p) id af hD lim (fun x hx H2 Rr s2 q=>?_) (fun x hx _ H2 Rr s2 q=>⟨_,rfl,q⟩) ?_
  ·obtain⟨kv,hkv,rfl⟩:=List.mem_map.mp hx
   obtain⟨qq,hq,rfl⟩:=List.mem_map.mp hkv
   have P2:=hp.same (smF.trans s2)
   have lt:=R.lt qq hq
   have am:vc (p.gg.map mV) ((qq.1:Nat):Int)=some (mV (p.aR qq.1)):=jt (d:=none) (by rw[hl.m];exact lt)
   refine⟨_,rfl,a.x,C,a.dx,_,_,rfl,P2.x,T.cl,T.nm,rfl,_,rfl,a.m,_,_,_,rfl,rfl,bx.of P2.m,am,_,rfl,?_⟩
   have e:decide (mV (p.aR qq.1)=V.bY)=Dl p (kV (Sum.inl ((qq.1:Nat):Int))):=by
    show _=(p.aR ((qq.1:Nat):Int).toNat).isNone
    rw[Int.toNat_natCast]
    cases p.aR qq.1<;>rfl
   rw[e]
   exact q
  ·rw[EC]
   dsimp only[vk,tC]
   refine Lf (ks:=openK p aC) af fun al h0 h1=>?_
   have Y8:=smF.trans (ak.new hD (o:=.lst (((openK p aC).map fun o=>((o:Nat):Int)).map V.int)))
   have RJ:upd (upd H1 d (.pX ob (.dK (oM aC)))) D (.lst (((openK p aC).map fun o=>((o:Nat):Int)).map V.int)) d=some (.pX ob (.dK (oM aC))):=by rw[aj (ah af hD)];exact af
   generalize upd (upd H1 d (.pX ob (.dK (oM aC)))) D (.lst (((openK p aC).map fun o=>((o:Nat):Int)).map V.int))=H2 at Y8 RJ ⊢
   have nmd:a.m≠d:=ndm hp.m
   refine yK (fun bf H'=>∃ (m:List (Option Nat)) (al:Option Nat) (o1 o2:Option V),bf=[some (.ref a.x),some (nV new),some (.ref d),some (mV al),o1,o2]/\H' d=some (.pX ob (.dK (oM aC)))/\vf C H' a { p with gg:=m }/\bD [a.m] H H' /\
     ((al=none/\ju p n new { p with gg:=m })\/∃ u0 t u,al=some u/\u0∈aC.map (·.1)/\p.aR u0=none/\(∀ o∈aC.map (·.1),p.aR o=none->u0<=o)/\OM p n new u0 aC m t u)) (fun bf _=>Y6 (aC.map (·.1)) bf) ?_ ?_ ?_
   ·refine⟨p.gg,al,none,none,rfl,RJ,hp.same Y8,bD.of Y8,?_⟩
    have inO:∀ o∈aC.map (·.1),p.aR o=none->o∈openK p aC:=fun o ho e=>List.mem_filter.mpr ⟨ho,by rw[e];rfl⟩
    cases al with
    | none=>exact .inl ⟨rfl,aC,R,Cl,rfl,rfl,VV,.inl ⟨fun o ho e=>(by have:=inO o ho e;rw[h0 rfl] at this;cases this),rfl⟩⟩
    | some u =>
     obtain⟨m1,m2⟩:=h1 u rfl
     obtain⟨m3,m4⟩:=List.mem_filter.mp m1
     obtain⟨qq,hq,rfl⟩:=List.mem_map.mp m3
     obtain⟨t,ht⟩:=List.mem_iff_getElem?.mp hq
     have hno:p.aR qq.1=none:=Option.isNone_iff_eq_none.mp m4
     exact .inr ⟨qq.1,t,qq.1,rfl,m3,hno,fun o ho e=>m2 o (inO o ho e),OM.start (w:=qq.2) VV ht hm0 hno⟩
   ·rintro bf H' ⟨m,al,o1,o2,rfl,M0,P2,sb,tG⟩
    refine⟨_,rfl,_,rfl,?_⟩
    rcases tG with ⟨rfl,hS⟩ | ⟨u0,t,u,rfl,k1,k2,k3,ag⟩
    ·exact cx (k _ H' sb P2 hS)
    ·obtain⟨w,hw⟩:=ag.at_
     obtain⟨⟨wn,un,uw⟩,nxt⟩:=ag.step VV R Bg hm0 hw
     refine cH ⟨_,rfl,_,rfl,d,_,rfl,.inl ⟨oM aC,Sum.inl ((u:Nat):Int),.inr ⟨ob,M0⟩,rfl,(zj R.nd hw).symm⟩,?_⟩
     have am:vc (m.map mV) ((w:Nat):Int)=some (mV (m.getD w none)):=jt (d:=none) (by rw[ag.len];exact wn)
     refine⟨_,rfl,a.x,C,a.dx,_,_,rfl,P2.x,T.cl,T.nm,rfl,_,rfl,a.m,_,_,_,rfl,rfl,bx.of P2.m,am,?_⟩
     have xm:a.x≠a.m:=iq P2.x P2.m (by intro z;cases z)
     refine⟨_,rfl,_,rfl,a.x,C,a.dx,_,_,rfl,P2.x,T.cl,T.nm,rfl,_,rfl,a.m,_,_,u,rfl,rfl,P2.m,Dm (by rw[List.length_map,ag.len];exact un),?_⟩
     refine⟨_,rfl,_,rfl,a.x,C,a.dx,_,_,rfl,(by rw[aj xm];exact P2.x),T.cl,T.nm,rfl,_,rfl,a.m,_,_,w,rfl,rfl,af,Dm (by rw[List.length_set,List.length_map,ag.len];exact wn),?_⟩
     refine⟨_,rfl,?_⟩
     have Y9:((m.map mV).set u (nV w)).set w (nV u)=(rC m u w).map mV:=by
      rw[Hv,Hv]
      rfl
     rw[lR]
     refine⟨⟨rC m u w,m.getD w none,_,_,rfl,by rw[aj (Ne.symm nmd)];exact M0,⟨by rw[aj xm];exact P2.x,by rw[aj P2.km];exact P2.k,by rw[aj P2.rm];exact P2.r,?_,P2.kr,P2.km,P2.rm⟩,sb.trans (bD.upd (List.mem_singleton.mpr rfl)),?_⟩,?_⟩
     ·rw[af]
      exact congrArg (fun z=>some (HO.lst z)) Y9
     ·rcases nxt with ⟨q1,q2,q3⟩ | ⟨o,t',q1,q2,q3⟩
      ·exact .inl ⟨q1,aC,R,Cl,rfl,rfl,q2,.inr ⟨u0,k1,k2,k3,q3⟩⟩
      ·exact .inr ⟨u0,t',o,q2,k1,k2,k3,q3⟩
     ·have iu:(aC.map (·.1)).idxOf u=t:=Bh R.nd (by rw[List.getElem?_map,hw];rfl)
      rcases nxt with ⟨q1,q2,q3⟩ | ⟨o,t',q1,q2,q3⟩
      ·rw[q1]
       show 0<(aC.map (·.1)).idxOf ((u:Nat):Int).toNat+1
       omega
      ·obtain⟨w',hw'⟩:=q3.at_
       have io:(aC.map (·.1)).idxOf o=t':=Bh R.nd (by rw[List.getElem?_map,hw'];rfl)
       rw[q2]
       show(aC.map (·.1)).idxOf ((o:Nat):Int).toNat+1<(aC.map (·.1)).idxOf ((u:Nat):Int).toNat+1
       rw[Int.toNat_natCast,Int.toNat_natCast,iu,io]
       omega
   ·rintro σ H Q Q' hq ⟨v,e1,kk,e2,q⟩
    exact⟨v,e1,kk,e2,hq _ _ q⟩
abbrev Y_:List Str:=["self", "kind", "rank", "number"]
theorem Nq:au Y_ ["self", "kind", "rank"] (ao L6):=by right
def Ip(C cK cQ:Addr):Sp:=fun vs H Q E=>∃ (a:F5) (p:de) (n:Nat) (z:Str) (r:Int),vs=[.ref a.x,.str z,.int r]/\vf C H a p/\Val p n/\n<400/\(¬ Nl z->bX E H cK "bad kind")/\(Nl z->r<1->bX E H cQ "bad rank") /\
 ∀ b,z=kS b->1<=r->∀ p' H',bD [a.k,a.r,a.m] H H'->vf C H' a p'->ju (p.plus b r) (n+1) n p'->Q (.int (n:Nat)) H'
theorem PN{C cR fR cK cQ fQ f Y' fM fS:Addr}{gI Nr fd UQ Np rK:FuncData}{tL:Tok}(F:d_ K "add" "Pairing.add" L6 f fd)(T:ur K mg C)(M:zS mg)(TE:gC K mg cR fR gI)(DQ:cb K mg cR "BadRank" "bad rank" cQ fQ Nr)(hL:mg "LEAST_RANK" = some (.int 1 tL))
  (GK:aE P w K mg base (bu P w) 4 Y' UQ ["kind"] (LH cK)) (mK:mg "check_kind" = some (.ref Y')) (kK:W.keepIn K (.ref Y')=true) (bK:Binds K UQ ["kind"] [])
  (Io:PM K C "many" "Pairing.many" uq ["self"] fM Np) (GS:aE P w K mg base aY 4 fS rK ["self", "newest"] (zU C)) (PS_:PM K C "settle" "Pairing.settle" l6 ["self", "newest"] fS rK):aE P w K mg base (bu P w) 5 f fd ["self", "kind", "rank"] (Ip C cK cQ):=by
 have GI:aE P w K mg base aY 2 fQ Nr _ (cJ cQ "bad rank"):=g_ TE DQ
 have GM:aE P w K mg base aY 1 fM Np _ (xK C):=xM Io.F T M
 refine F.d.kQ Nq (fun vs H Q E h=>?_) (fun bJ A outer s H vs Q E hr h=>?_)
 ·obtain⟨a,p,n,z,r,rfl,_⟩:=h
  rfl
 ·obtain⟨a,p,n,z,r,rfl,hp,VV,hn,h1,h2,h3⟩:=h
  refine⟨_,aa (aK (aw GK hr rfl mK kK bK .nil av.passes (U (pv 1) ae)))
   (aa (aP (aG qQ (pv 2) (aX (v:=.int 1) rfl hL ⟨_,rfl⟩) (aN _)) (ai (aW rfl DQ.m DQ.cls DQ.obj DQ.init DQ.fn GI (hr.mono (by decide)) DQ.b rfl av (U aq ae))) ay)
   (aa (aD (i:=3) Nq.nd rfl (Or.inl rfl) (b_ (pv 0) T.cl Io.me GM (hr.mono (by decide)) Io.b .nil aS))
   (aa (aK (mU PySem.F.plainAttrs_list PySem.F.slot_list_append PySem.F.type_list_append eS (ar (pv 0) rfl) (U (pv 1) ae)))
   (aa (aK (mU PySem.F.plainAttrs_list PySem.F.slot_list_append PySem.F.type_list_append eS (ar (pv 0) rfl) (U (pv 2) ae)))
   (aa (aK (mU PySem.F.plainAttrs_list PySem.F.slot_list_append PySem.F.type_list_append eS (ar (pv 0) rfl) (U AJ ae)))
   (aa (aK (ck (pv 0) T.cl PS_.me GS hr PS_.b .nil aS (U (pv 3) ae)))
   (ai (aI (pv 3))))))))),?_⟩
  refine⟨_,rfl,z,rfl,h1,fun hz H1 sm=>?_⟩
  refine⟨_,rfl,_,_,rfl,rfl,_,rfl,?_⟩
  refine eg (fun c=>?_) (fun c=>?_)
  ·exact⟨_,rfl,by left,(h2 hz (of_decide_eq_true c)).to sm⟩
  ·have r1:1<=r:=by have:¬ r<1:=fun q=>c (decide_eq_true q);omega
   obtain⟨b,rfl⟩:=Tv hz
   have P1:=hp.same sm
   have hl:=VV.len
   have lim:∀ {α:Type} {l:List α} (f:α->V),l.length=n->(l.map f).length<sizeLine:=fun f e=>by rw[List.length_map,e];exact dP (by omega)
   have xk:a.x≠a.k:=iq P1.x P1.k (by intro z;cases z)
   have xr:a.x≠a.r:=iq P1.x P1.r (by intro z;cases z)
   have xm:a.x≠a.m:=iq P1.x P1.m (by intro z;cases z)
   refine⟨_,rfl,a.x,a.dx,_,rfl,P1.x,rfl,a,p,rfl,P1,?_⟩
   rw[hl.k]
   refine⟨_,rfl,a.x,C,a.dx,_,_,rfl,P1.x,T.cl,T.nk,rfl,.inl ⟨rfl,_,bx.of P1.k⟩,_,rfl,a.k,_,_,rfl,rfl,P1.k,lim _ hl.k,?_⟩
   have x2:upd H1 a.k (.lst ((p.kinds.map fun b=>V.str (kS b))++[V.str (kS b)])) a.x=_:=(aj xk).trans P1.x
   have r2:upd H1 a.k (.lst ((p.kinds.map fun b=>V.str (kS b))++[V.str (kS b)])) a.r=_:=(aj P1.kr.symm).trans P1.r
   refine⟨_,rfl,a.x,C,a.dx,_,_,rfl,x2,T.cl,T.nr,rfl,.inl ⟨rfl,_,bx.of r2⟩,_,rfl,a.r,_,_,rfl,rfl,r2,lim _ hl.r,?_⟩
   generalize hH2:upd H1 a.k (.lst ((p.kinds.map fun b=>V.str (kS b))++[V.str (kS b)]))=H2 at x2 r2 ⊢
   have k2:H2 a.k=some (.lst ((p.kinds.map fun b=>V.str (kS b))++[V.str (kS b)])):=by rw[<- hH2];exact af
   have m2:H2 a.m=some (.lst (p.gg.map mV)):=by rw[<- hH2];exact(aj P1.km.symm).trans P1.m
   have s2:bD [a.k,a.r,a.m] H1 H2:=by rw[<- hH2];exact bD.upd List.mem_cons_self
   generalize hH3:upd H2 a.r (.lst (p.ly.map V.int++[V.int r]))=H3
   have x3:H3 a.x=some (.ins C a.dx [("kinds",.ref a.k),("ranks",.ref a.r),("mates",.ref a.m)]):=by rw[<- hH3];exact(aj xr).trans x2
   have k3:H3 a.k=some (.lst ((p.kinds.map fun b=>V.str (kS b))++[V.str (kS b)])):=by rw[<- hH3];exact(aj P1.kr).trans k2
   have r3:H3 a.r=some (.lst (p.ly.map V.int++[V.int r])):=by rw[<- hH3];exact af
   have m3:H3 a.m=some (.lst (p.gg.map mV)):=by rw[<- hH3];exact(aj P1.rm.symm).trans m2
   have s3:bD [a.k,a.r,a.m] H2 H3:=by rw[<- hH3];exact bD.upd (List.mem_cons_of_mem _ List.mem_cons_self)
   refine⟨_,rfl,a.x,C,a.dx,_,_,rfl,x3,T.cl,T.nm,rfl,.inl ⟨rfl,_,bx.of m3⟩,a.m,_,_,rfl,rfl,m3,lim _ hl.m,?_⟩
   generalize hH4:upd H3 a.m (.lst (p.gg.map mV++[V.bY]))=H4
   have P4:vf C H4 a (p.plus b r):=by
    refine⟨by rw[<- hH4];exact(aj xm).trans x3,?_,?_,?_,P1.kr,P1.km,P1.rm⟩
    ·rw[<- hH4,aj P1.km,k3]
     show _=some (HO.lst ((p.kinds++[b]).map _))
     rw[List.map_append]
     rfl
    ·rw[<- hH4,aj P1.rm,r3]
     show _=some (HO.lst ((p.ly++[r]).map _))
     rw[List.map_append]
     rfl
    ·rw[<- hH4,af]
     show _=some (HO.lst ((p.gg++[none]).map _))
     rw[List.map_append]
     rfl
   have s4:bD [a.k,a.r,a.m] H3 H4:=by rw[<- hH4];exact bD.upd (by simp)
   refine⟨_,rfl,a.x,a.dx,_,rfl,P4.x,rfl,_,rfl,a,p.plus b r,n+1,n,rfl,P4,VV.plus b r,by omega,by omega,by rw[qh];exact VV.out (Nat.le_refl _),fun p' H' sb P5 hS=>?_⟩
   refine⟨_,rfl,h3 b rfl r1 p' H' ?_ P5 hS⟩
   exact(bD.of sm).trans (s2.trans (s3.trans (s4.trans fun x o hx e=>sb x o (fun q=>hx (by rw[List.mem_singleton.mp q];simp)) e)))
abbrev Iq:Stmt:=BJ 8
theorem UR:au ["self"] ["self"] (ao Iq):=by right
def BK(C:Addr)(g:de->Nat->List Nat):Sp:=fun vs H Q _=>∃ (a:F5) (p:de) (n:Nat),vs=[.ref a.x]/\vf C H a p/\p.Len n/\n<=400/\∀ D H',H D=none->ak H H'->H' D=some (.lst ((g p n).map nV))->Q (.ref D) H'
theorem PQ{C f fM:Addr}{fd Np:FuncData}(F:d_ K "unsettled" "Pairing.unsettled" Iq f fd)(T:ur K mg C)(M:zS mg)(Io:PM K C "many" "Pairing.many" uq ["self"] fM Np):aE P w K mg base aY 2 f fd ["self"] (BK C de.oP):=by
 have GM:aE P w K mg base aY 1 fM Np _ (xK C):=xM Io.F T M
 refine F.ok UR (fun vs H Q E h=>?_) (fun bJ A outer s H vs Q E hr h=>?_)
 ·obtain⟨a,p,n,rfl,_⟩:=h
  rfl
 ·obtain⟨a,p,n,rfl,hp,hl,hn,k⟩:=h
  refine⟨_,ai (aI (t9 (ao Iq) ["self"] rfl rfl (by left) rfl (lU rfl M.uj (U (b_ (pv 0) T.cl Io.me GM hr Io.b .nil aS) ae)) (fun C s H fp pins=>pv 0)
   (fun C s H fp pins=>xg (cg (jC (aV (show Ec _ (GU K) from bh) (show PE _ _ (N6 K (tw 1) "mates") from ar (pv 1) rfl) (pv 0) (fun _ _=>rfl))))))),?_⟩
  refine⟨_,rfl,a.x,a.dx,_,rfl,hp.x,rfl,a,p,rfl,hp,_,rfl,by rw[hl.k];omega,by rw[hl.k];omega,?_⟩
  rw[hl.k,Int.toNat_natCast]
  intro D hD
  refine Ey (fun i=>(p.aR i).isNone) nV hD (Nat.le_of_lt (dP (by omega))) (fun i hi H2 R s2 q=>?_) (fun i hi _ H2 R s2 q=>⟨_,rfl,by rw[Int.zero_add];exact q⟩) (k D _ hD (ak.new hD) af)
  have P2:=hp.same s2
  rw[Int.zero_add]
  refine⟨_,rfl,a.x,C,a.dx,_,_,rfl,P2.x,T.cl,T.nm,rfl,_,rfl,a.m,_,_,_,rfl,rfl,bx.of P2.m,jt (d:=none) (by rw[hl.m];exact hi),_,rfl,?_⟩
  have e:decide (mV (p.aR i)=V.bY)=(p.aR i).isNone:=by cases p.aR i<;>rfl
  show R (decide (mV (p.aR i)=V.bY)) H2
  rw[e]
  exact q
abbrev DH:Stmt:=inClass (top 79) 10
abbrev US:List Str:=["self", "other"]
theorem Ir:au US ["self"] (ao DH):=by right
def BL(C:Addr):Sp:=fun vs H Q _=>∃ (a:F5) (p:de),vs=[.ref a.x]/\vf C H a p/\∀ (a':F5) (H':Hp),ak H H'->vf C H' a' p->(∀ y∈[a'.x,a'.k,a'.r,a'.m],H y=none)->Q (.ref a'.x) H'
theorem L9{C f fI:Addr}{fd Ii:FuncData}(F:d_ K "twin" "Pairing.twin" DH f fd)(T:ur K mg C)(M:zS mg)
  (XI:Kc P w K mg base aY 1 "Pairing" C fI Ii ["self"] (L7 C)):aE P w K mg base aY 3 f fd ["self"] (BL C):=by
 refine F.ok Ir (fun vs H Q E h=>?_) (fun bJ A outer s H vs Q E hr h=>?_)
 ·obtain⟨a,p,rfl,_⟩:=h
  rfl
 ·obtain⟨a,p,rfl,hp,k⟩:=h
  refine⟨_,(aa (aD (i:=1) Ir.nd rfl (Or.inl rfl) (oy XI.M XI.G (hr.mono (by decide)) rfl XI.m XI.b .nil aS)) (aa (a7 (pv 1) (dO iP rfl M.oU kn (U (ar (pv 0) rfl) ae)) rfl) (aa (a7 (pv 1) (dO iP rfl M.oU kn (U (ar (pv 0) rfl) ae)) rfl) (aa (a7 (pv 1) (dO iP rfl M.oU kn (U (ar (pv 0) rfl) ae)) rfl) (ai (aI (pv 1))))))),?_⟩
  refine fun x dx hx xq nx=>⟨x,dx,rfl,af,fun b H1 ax P1 sb1 fr1=>⟨rfl,?_⟩⟩
  subst ax
  have Za:ak H H1:=fun y o e=>sb1 y o (by rw[List.mem_singleton];exact ah e hx) (by rw[aj (ah e hx),aj (ah e xq)];exact e)
  have p1:=hp.same Za
  refine⟨_,rfl,a.x,C,a.dx,_,_,rfl,p1.x,T.cl,T.nk,rfl,a.k,_,rfl,.inl (bx.of p1.k),fun l1 h1=>?_⟩
  have n1:b.x≠l1:=ah P1.x h1
  refine⟨_,rfl,b.x,C,b.dx,_,rfl,by rw[aj n1];exact P1.x,T.cl,T.nk,by show 3<1000;decide,?_⟩
  have z1:H l1=none:=Za.free h1
  generalize hH2:upd (upd H1 l1 _) b.x _=H2
  have L_:ak H H2:=by rw[<- hH2];exact(Za.trans (ak.new h1)).put hx
  have x2:H2 b.x=some (.ins C b.dx [("kinds",.ref l1),("ranks",.ref b.r),("mates",.ref b.m)]):=by rw[<- hH2];exact af
  have k2:H2 l1=some (.lst (p.kinds.map fun b=>V.str (kS b))):=by rw[<- hH2,aj n1.symm];exact af
  clear hH2
  have p2:=hp.same L_
  refine⟨_,rfl,a.x,C,a.dx,_,_,rfl,p2.x,T.cl,T.nr,rfl,a.r,_,rfl,.inl (bx.of p2.r),fun l2 h2=>?_⟩
  have n2:b.x≠l2:=ah x2 h2
  have RW:l1≠l2:=ah k2 h2
  refine⟨_,rfl,b.x,C,b.dx,_,rfl,by rw[aj n2];exact x2,T.cl,T.nr,by show 3<1000;decide,?_⟩
  have z2:H l2=none:=L_.free h2
  generalize hH3:upd (upd H2 l2 _) b.x _=H3
  have Fj:ak H H3:=by rw[<- hH3];exact(L_.trans (ak.new h2)).put hx
  have x3:H3 b.x=some (.ins C b.dx [("kinds",.ref l1),("ranks",.ref l2),("mates",.ref b.m)]):=by rw[<- hH3];exact af
  have k3:H3 l1=some (.lst (p.kinds.map fun b=>V.str (kS b))):=by rw[<- hH3,aj n1.symm,aj RW];exact k2
  have r3:H3 l2=some (.lst (p.ly.map V.int)):=by rw[<- hH3,aj n2.symm];exact af
  clear hH3
  have p3:=hp.same Fj
  refine⟨_,rfl,a.x,C,a.dx,_,_,rfl,p3.x,T.cl,T.nm,rfl,a.m,_,rfl,.inl (bx.of p3.m),fun l3 h3=>?_⟩
  have n3:b.x≠l3:=ah x3 h3
  have UH:l1≠l3:=ah k3 h3
  have UI:l2≠l3:=ah r3 h3
  refine⟨_,rfl,b.x,C,b.dx,_,rfl,by rw[aj n3];exact x3,T.cl,T.nm,by show 3<1000;decide,?_⟩
  refine⟨_,rfl,k ⟨b.x,b.dx,l1,l2,l3⟩ _ ((Fj.trans (ak.new h3)).put hx) ⟨af,?_,?_,?_,RW,UH,UI⟩ fun y hy=>?_⟩
  ·show upd _ b.x _ l1=_
   rw[aj n1.symm,aj UH];exact k3
  ·show upd _ b.x _ l2=_
   rw[aj n2.symm,aj UI];exact r3
  ·show upd _ b.x _ l3=_
   rw[aj n3.symm];exact af
  ·simp only[List.mem_cons,List.not_mem_nil,or_false] at hy
   rcases hy with e | e | e | e
   ·rw[e];exact hx
   ·rw[e];exact z1
   ·rw[e];exact z2
   ·rw[e];exact Fj.free h3
theorem Iu(x y:Str):(x++y).length=x.length+y.length:=by rw[<- oR,xC,List.length_append,oR,oR]
theorem l0:Str.empty.length<=100*0:=by left
theorem ml{x y:Str}{k:Nat}(h:x.length<=100*k)(hy:y.length<=100):(x++y).length<=100*(k+1):=by rw[Iu];omega
theorem BM{x:Str}{k:Nat}(h:x.length<=100*k)(hk:k<=10:=by decide):x.length<=1000:=by omega
theorem fV{x:Str}{k:Nat}(h:x.length<=100*k)(hk:k<=10:=by decide):x.length<=sizeLine:=big (BM h hk)
theorem wG{x:Str}(h:x.length<=100):x.length<=sizeLine:=big (by omega)
theorem iL{c A B:Prop}[Decidable c](e:c)(h:A):if c then A else B:=by rw[if_pos e];exact h
theorem jv{c A B:Prop}[Decidable c](e:¬ c)(h:B):if c then A else B:=by rw[if_neg e];exact h
structure DI(mg:Str->Option Value):Prop where
 lo:∃ t,mg "LEAST_RANK" = some (.int 1 t)
 hi:∃ t,mg "GREATEST_RANK" = some (.int 1000000 t)
 ls:∃ t,mg "LAST_SEASON" = some (.int 1000000 t)
 st:∃ t,mg "STANDING" = some (.str "standing" t)
abbrev Zb:Stmt:=top 36
abbrev nIR:List Str:=["rank"]
theorem Zc:au nIR ["rank"] (ao Zb):=by right
abbrev PR:List Str:=["rank"]
def PU:Sp:=fun vs H Q _=>∃ r:Int,vs=[.int r]/\Q (.bl (decide (1<=r/\r<=1000000))) H
theorem UT{f:Addr}{fd:FuncData}(F:d_ K "is_rank" "is_rank" Zb f fd)(R:DI mg):aE P w K mg base aY 1 f fd PR PU:=by
 obtain⟨tl,hl⟩:=R.lo
 obtain⟨tg,hg⟩:=R.hi
 refine F.ok Zc (fun vs H Q E h=>?_) (fun bJ A outer s H vs Q E hr h=>?_)
 ·obtain⟨r,rfl,_⟩:=h
  rfl
 ·obtain⟨r,rfl,q⟩:=h
  refine⟨_,(ai (aI (Gv Gu Gu (aX (v:=.int 1) rfl hl ⟨_,rfl⟩) (pv 0) (aX (v:=.int 1000000) rfl hg ⟨_,rfl⟩)))),?_⟩
  refine⟨_,rfl,_,_,rfl,rfl,_,rfl,?_⟩
  by_cases h1:1<=r
  ·refine iL (decide_eq_true h1) ⟨_,_,rfl,rfl,?_⟩
   have e:decide (r<=1000000)=decide (1<=r/\r<=1000000):=decide_eq_decide.mpr ⟨fun z=>⟨h1,z⟩,fun z=>z.2⟩
   show Q (V.bl (decide (r<=1000000))) H
   rw[e]
   exact q
  ·refine jv (by rw[decide_eq_false h1];exact Bool.false_ne_true) ?_
   rw[decide_eq_false (fun z=>h1 z.1)] at q
   exact q
abbrev PV:Stmt:=top 64
abbrev Zd:List Str:=["rows", "name"]
theorem UU:au Zd ["rows", "name"] (ao PV):=by right
abbrev DJ:List Str:=["rows", "name"]
def DK(cN cT:Addr):Sp:=fun vs H Q E=>∃ d aJ z,vs=[.ref d,.str z]/\H d=some (.dK aJ)/\z.length<=100/\(isNm z=false->bX E H cN "bad name")/\(isNm z=true->(iH aJ (Sum.inr z)).isSome=true->bX E H cT "taken")/\(isNm z=true->(iH aJ (Sum.inr z)).isSome=false->xv Q H .bY)
theorem PX{cR fR cN fN cT fT f fI:Addr}{gI yB xN fd dI:FuncData}(F:d_ K "check_new_name" "check_new_name" PV f fd)(ET:gC K mg cR fR gI)(DN:cb K mg cR "BadName" "bad name" cN fN yB)(DT:cb K mg cR "Taken" "taken" cT fT xN)(XN:Fc P w K mg base aY 1 "is_name" fI dI xI LN):aE P w K mg base (bu P w) 4 f fd DJ (DK cN cT):=by
 have GN:aE P w K mg base aY 2 fN yB _ (cJ cN "bad name"):=g_ ET DN
 have GT:aE P w K mg base aY 2 fT xN _ (cJ cT "taken"):=g_ ET DT
 refine F.d.kQ UU (fun vs H Q E h=>?_) (fun bJ A outer s H vs Q E hr h=>?_)
 ·obtain⟨d,aJ,z,rfl,_⟩:=h
  rfl
 ·obtain⟨d,aJ,z,rfl,hd,hz,k1,k2,k3⟩:=h
  have hu:=gc hr
  refine⟨_,(aa (aP (wX (dQ (aw XN.G (hr.mono (by decide)) rfl XN.m XN.k XN.b .nil aS (U (pv 1) ae)))) (ai (aW rfl DN.m DN.cls DN.obj DN.init DN.fn GN (hr.mono (by decide)) DN.b rfl av (U aq ae))) ay) (ai (aP (cg (A6 hu (pv 1) (pv 0))) (ai (aW rfl DT.m DT.cls DT.obj DT.init DT.fn GT (hr.mono (by decide)) DT.b rfl av (U (c7 (aB (bR (pv 1)) (aB aq eU))) ae))) ay))),?_⟩
  refine⟨_,rfl,z,rfl,by omega,fun H1 s1=>⟨_,rfl,?_⟩⟩
  cases hN:isNm z with
  | false=>exact cH ⟨_,rfl,by left,(k1 hN).to s1⟩
  | true =>
   refine cx ⟨_,rfl,_,rfl,d,_,rfl,fj.k (k:=Sum.inr z) (s1 _ _ hd),_,rfl,?_⟩
   refine eg (fun q=>?_) (fun q=>?_)
   ·have m1:=ml l0 hz
    have m2:=ml m1 (y := " is there already") (by left)
    exact⟨_,rfl,_,.str _ (wG hz),_,rfl,fV m1,_,rfl,fV m2,fV m2,_,rfl,BM m2,(k2 hN q).to s1⟩
   ·exact k3 hN (by simpa using q) _ s1
abbrev PY:Stmt:=top 65
abbrev Ze:List Str:=["state", "name"]
theorem UW:au Ze ["state", "name"] (ao PY):=by right
abbrev wH:List Str:=["state", "name"]
def wI(c:Ct)(cP:Addr):Sp:=fun vs H Q E=>∃ (a:SA) (sd:Addr) (M:Hs) (z:Str),vs=[.ref a.st,.str z]/\l4 c sd H a M/\((bc M.pe z).isSome=false->bX E H cP "no person")/\((bc M.pe z).isSome=true->Q .bY H)
theorem PZ{c:Ct}{cR fR cP fP f:Addr}{gI oh fd:FuncData}(F:d_ K "check_person" "check_person" PY f fd)(TS:iS K mg c.S)(ET:gC K mg cR fR gI)(D:cb K mg cR "NoPerson" "no person" cP fP oh):aE P w K mg base (bu P w) 4 f fd wH (wI c cP):=by
 have GI:aE P w K mg base aY 2 fP oh _ (cJ cP "no person"):=g_ ET D
 refine F.d.kQ UW (fun vs H Q E h=>?_) (fun bJ A outer s H vs Q E hr h=>?_)
 ·obtain⟨a,sd,M,z,rfl,_⟩:=h
  rfl
 ·obtain⟨a,sd,M,z,rfl,hs,k1,k2⟩:=h
  have hu:=gc hr
  refine⟨_,(ai (aP (cg (gf hu (pv 1) (ar (pv 0) rfl))) (ai (aW rfl D.m D.cls D.obj D.init D.fn GI (hr.mono (by decide)) D.b rfl av (U aq ae))) ay)),?_⟩
  refine⟨_,rfl,_,rfl,a.st,c.S,a.sx,_,_,rfl,hs.gs,TS.cl,TS.n1,rfl,a.pe,_,rfl,fj.k (k:=Sum.inr z) hs.ER,_,rfl,?_⟩
  rw[l5,map_some]
  cases e:(bc M.pe z).isSome with
  | false=>exact cH ⟨_,rfl,by left,(k1 e).to (ak.refl _)⟩
  | true=>exact cx (k2 e)
abbrev P6:Stmt:=top 66
abbrev Zf:List Str:=["islands", "state", "behind", "ahead"]
theorem UX:au Zf ["islands", "state", "behind", "ahead"] (ao P6):=by right
abbrev Iv:List Str:=["islands", "state", "behind", "ahead"]
def Iw(c:Ct)(cN:Addr):Sp:=fun vs H Q E=>∃ (n:Int) (a:SA) (sd:Addr) (M:Hs) (x y:Str) (i j:Int),vs=[.int n,.ref a.st,.str x,.str y]/\l4 c sd H a M/\x.length<=100/\y.length<=100/\bc M.pe x=some i/\bc M.pe y=some j/\¬ bad n/\Ig n i/\Ig n j/\((j - i)%n≠1->bX E H cN "not neighbours")/\((j - i)%n=1->Q .bY H)
theorem P9{c:Ct}{cR fR cN fN f fA cB cI:Addr}{gI yB fd Iy:FuncData}(F:d_ K "check_neighbours" "check_neighbours" P6 f fd)(TS:iS K mg c.S)(ET:gC K mg cR fR gI)(D:cb K mg cR "NotNeighbours" "not neighbours" cN fN yB)(XA:Fc P w K mg base (bu P w) 5 "ahead_of" fA Iy ["islands", "island", "other"] (Pn cB cI)):aE P w K mg base (bu P w) 6 f fd Iv (Iw c cN):=by
 have GI:aE P w K mg base aY 2 fN yB _ (cJ cN "not neighbours"):=g_ ET D
 refine F.d.kQ UX (fun vs H Q E h=>?_) (fun bJ A outer s H vs Q E hr h=>?_)
 ·obtain⟨n,a,sd,M,x,y,i,j,rfl,_⟩:=h
  rfl
 ·obtain⟨n,a,sd,M,x,y,i,j,rfl,hs,hx,hy,ei,ej,hb,h1,h2,k1,k2⟩:=h
  have hu:=gc hr
  have gi:fj H a.pe (.str x) (some (.int i)):=by
   have:=fj.k (k:=Sum.inr x) hs.ER
   rw[l5,ei] at this
   exact this
  have gj:fj H a.pe (.str y) (some (.int j)):=by
   have:=fj.k (k:=Sum.inr y) hs.ER
   rw[l5,ej] at this
   exact this
  refine⟨_,(ai (aP (aG jK (aw XA.G (hr.mono (by decide)) rfl XA.m XA.k XA.b .nil av.passes (U (pv 0) (U (ig hu (ar (pv 1) rfl) (pv 2) (fun _ _=>rfl)) (U (ig hu (ar (pv 1) rfl) (pv 3) (fun _ _=>rfl)) ae)))) az (aN _)) (ai (aW rfl D.m D.cls D.obj D.init D.fn GI (hr.mono (by decide)) D.b rfl av (U (c7 (aB (bR (pv 3)) (aB aq (aB (bR (pv 2)) eU)))) ae))) ay)),?_⟩
  refine⟨_,rfl,_,rfl,a.st,c.S,a.sx,_,_,rfl,hs.gs,TS.cl,TS.n1,rfl,_,rfl,a.pe,_,rfl,gi,_,rfl,a.st,c.S,a.sx,_,_,rfl,hs.gs,TS.cl,TS.n1,rfl,_,rfl,a.pe,_,rfl,gj,?_⟩
  refine⟨n,i,j,rfl,fun z=>absurd z hb,fun _ z=>absurd ⟨h1,h2⟩ z,fun _ _ _=>⟨rfl,_,rfl,?_⟩⟩
  by_cases e:(j - i)%n=1
  ·exact jv (by rw[e];decide) (k2 e)
  ·refine iL (by simpa using e) ?_
   have m1:=ml l0 hy
   have m2:=ml m1 (y := " doesn't live one island ahead of ") (by left)
   have m3:=ml m2 hx
   exact⟨_,rfl,_,.str _ (wG hy),_,rfl,fV m1,_,rfl,fV m2,_,rfl,_,.str _ (wG hx),_,rfl,fV m3,fV m3,_,rfl,BM m3,(k1 e).to (ak.refl _)⟩
theorem qm{c:Ct}{sd:Addr}{H:Hp}{a:SA}{M:Hs}{x y:Str}{p:Addr}(hs:l4 c sd H a M)(hp:H p=some (.tup [.str x,.str y])):∃ o,fj H a.bo (.ref p) o/\o.isSome=(bc M.bo (x,y)).isSome:=by
 obtain⟨rb,h1,h2⟩:=hs.Ke
 refine⟨_,fj.t (k:=bK (x,y)) h1 hp,h2.isSome xG (x,y)⟩
abbrev P_:Stmt:=top 67
abbrev Zg:List Str:=["state", "behind", "ahead"]
theorem UY:au Zg ["state", "behind", "ahead"] (ao P_):=by right
abbrev Iz:List Str:=["state", "behind", "ahead"]
def IA(c:Ct)(cP cQ:Addr):Sp:=fun vs H Q E=>∃ (a:SA) (sd:Addr) (M:Hs) (x y:Str),vs=[.ref a.st,.str x,.str y]/\l4 c sd H a M/\x.length<=100/\y.length<=100/\(((bc M.pe x).isSome&&(bc M.pe y).isSome)=false->bX E H cP "no person") /\
 (((bc M.pe x).isSome&&(bc M.pe y).isSome)=true->(bc M.bo (x,y)).isSome=false->bX E H cQ "not partners")/\(((bc M.pe x).isSome&&(bc M.pe y).isSome)=true->(bc M.bo (x,y)).isSome=true->xv Q H .bY)
theorem P'{c:Ct}{cR fR cP cQ fQ f fP:Addr}{gI Nr fd oh:FuncData}(F:d_ K "check_partners" "check_partners" P_ f fd)(TS:iS K mg c.S)(ET:gC K mg cR fR gI)(D:cb K mg cR "NotPartners" "not partners" cQ fQ Nr)(XP:Fc P w K mg base (bu P w) 4 "check_person" fP oh wH (wI c cP)):aE P w K mg base (bu P w) 5 f fd Iz (IA c cP cQ):=by
 have GI:aE P w K mg base aY 2 fQ Nr _ (cJ cQ "not partners"):=g_ ET D
 refine F.d.kQ UY (fun vs H Q E h=>?_) (fun bJ A outer s H vs Q E hr h=>?_)
 ·obtain⟨a,sd,M,x,y,rfl,_⟩:=h
  rfl
 ·obtain⟨a,sd,M,x,y,rfl,hs,hx,hy,k1,k2,k3⟩:=h
  have hu:=gc hr
  refine⟨_,(aa (aK (aw XP.G (hr.mono (by decide)) rfl XP.m XP.k XP.b .nil av.passes (U (pv 0) (U (pv 1) ae)))) (aa (aK (aw XP.G (hr.mono (by decide)) rfl XP.m XP.k XP.b .nil av.passes (U (pv 0) (U (pv 2) ae)))) (ai (aP (cg (gf hu (aQ (U (pv 1) (U (pv 2) ae))) (ar (pv 0) rfl))) (ai (aW rfl D.m D.cls D.obj D.init D.fn GI (hr.mono (by decide)) D.b rfl av (U (c7 (aB (bR (pv 1)) (aB aq (aB (bR (pv 2)) (aB aq eU))))) ae))) ay)))),?_⟩
  refine⟨_,rfl,_,rfl,a,sd,M,x,rfl,hs,fun z=>k1 (by rw[z];rfl),fun px=>?_⟩
  refine⟨_,rfl,_,rfl,a,sd,M,y,rfl,hs,fun z=>k1 (by rw[z,Bool.and_false]),fun py=>?_⟩
  have pq:((bc M.pe x).isSome&&(bc M.pe y).isSome)=true:=by rw[px,py];rfl
  refine⟨_,rfl,_,rfl,by show 2<=sizeLine;decide,fun p hp=>?_⟩
  have s1:ak H (upd H p (.tup [.str x,.str y])):=ak.new hp
  have tW:=hs.same s1
  obtain⟨o,go,eo⟩:=qm (x:=x) (y:=y) tW af
  refine⟨_,rfl,a.st,c.S,a.sx,_,_,rfl,tW.gs,TS.cl,TS.n2,rfl,a.bo,_,rfl,go,_,rfl,?_⟩
  rw[eo]
  cases e:(bc M.bo (x,y)).isSome with
  | true=>exact cx (k3 pq e _ s1)
  | false =>
   have m1:=ml l0 hx
   have m2:=ml m1 (y := " and ") (by left)
   have m3:=ml m2 hy
   have m4:=ml m3 (y := " are no partners") (by left)
   exact cH ⟨_,rfl,_,.str _ (wG hx),_,rfl,fV m1,_,rfl,fV m2,_,rfl,_,.str _ (wG hy),_,rfl,fV m3,_,rfl,fV m4,fV m4,_,rfl,BM m4,(k2 pq e).to s1⟩
abbrev Qa:Stmt:=top 68
abbrev Zh:List Str:=["state", "name"]
theorem UZ:au Zh ["state", "name"] (ao Qa):=by right
abbrev IB:List Str:=["state", "name"]
def IC(c:Ct)(cP:Addr):Sp:=fun vs H Q E=>∃ (a:SA) (sd:Addr) (M:Hs) (z:Str),vs=[.ref a.st,.str z]/\l4 c sd H a M/\((bc M.th z).isSome=false->bX E H cP "no thing")/\((bc M.th z).isSome=true->Q .bY H)
theorem L'{c:Ct}{sd:Addr}{H:Hp}{a:SA}{M:Hs}(hs:l4 c sd H a M)(z:Str):∃ o,fj H a.th (.str z) o/\o.isSome=(bc M.th z).isSome:=by
 obtain⟨rt,h1,h2⟩:=hs.Kf
 exact⟨_,fj.k (k:=tK z) h1,h2.isSome nI z⟩
theorem BN{c:Ct}{sd:Addr}{H:Hp}{a:SA}{M:Hs}(hs:l4 c sd H a M){z:Str}{t:Th}(e:bc M.th z=some t):∃ v,fj H a.th (.str z) (some v)/\nH c H v t:=by
 obtain⟨rt,h1,h2⟩:=hs.Kf
 obtain⟨v,h3,h4⟩:=h2.get nI e
 have:=fj.k (k:=tK z) h1
 rw[h3] at this
 exact⟨v,this,h4⟩
theorem Qb{c:Ct}{cR fR cP fP f:Addr}{gI oh fd:FuncData}(F:d_ K "check_thing" "check_thing" Qa f fd)(TS:iS K mg c.S)(ET:gC K mg cR fR gI)(D:cb K mg cR "NoThing" "no thing" cP fP oh):aE P w K mg base (bu P w) 4 f fd IB (IC c cP):=by
 have GI:aE P w K mg base aY 2 fP oh _ (cJ cP "no thing"):=g_ ET D
 refine F.d.kQ UZ (fun vs H Q E h=>?_) (fun bJ A outer s H vs Q E hr h=>?_)
 ·obtain⟨a,sd,M,z,rfl,_⟩:=h
  rfl
 ·obtain⟨a,sd,M,z,rfl,hs,k1,k2⟩:=h
  have hu:=gc hr
  obtain⟨o,go,eo⟩:=L' hs z
  refine⟨_,(ai (aP (cg (gf hu (pv 1) (ar (pv 0) rfl))) (ai (aW rfl D.m D.cls D.obj D.init D.fn GI (hr.mono (by decide)) D.b rfl av (U aq ae))) ay)),?_⟩
  refine⟨_,rfl,_,rfl,a.st,c.S,a.sx,_,_,rfl,hs.gs,TS.cl,TS.n3,rfl,a.th,_,rfl,go,_,rfl,?_⟩
  rw[eo]
  cases e:(bc M.th z).isSome with
  | false=>exact cH ⟨_,rfl,by left,(k1 e).to (ak.refl _)⟩
  | true=>exact cx (k2 e)
def gJ(kd:Bool)(z r:Str):Str×Str:=if kd=true then (z,r) else (r,z)
abbrev Zi:Stmt:=top 56
abbrev nBF:List Str:=["kind", "giver", "receiver"]
theorem Zj:au nBF ["kind", "giver", "receiver"] (ao Zi):=by right
abbrev Ma:List Str:=["kind", "giver", "receiver"]
def Mb:Sp:=fun vs H Q _=>∃ (kd:Bool) (z r:Str),vs=[.str (kS kd),.str z,.str r]/\∀ p H',ak H H'->H p=none->H' p=some (.tup [.str (gJ kd z r).1,.str (gJ kd z r).2])->Q (.ref p) H'
theorem U0{f:Addr}{fd:FuncData}(F:d_ K "bond_for" "bond_for" Zi f fd)(KT:zM mg):aE P w K mg base aY 1 f fd Ma Mb:=by
 obtain⟨tN,hN⟩:=KT.O9
 refine F.ok Zj (fun vs H Q E h=>?_) (fun bJ A outer s H vs Q E hr h=>?_)
 ·obtain⟨kd,z,r,rfl,_⟩:=h
  rfl
 ·obtain⟨kd,z,r,rfl,q⟩:=h
  refine⟨_,(ai (aI (tE (aG dH (pv 0) (aX (v:=.str "necklace") rfl hN ⟨_,rfl⟩) (aN _)) (aQ (U (pv 1) (U (pv 2) ae))) (aQ (U (pv 2) (U (pv 1) ae)))))),?_⟩
  refine⟨_,rfl,rfl,_,rfl,?_⟩
  cases kd with
  | true=>exact eg (fun _=>⟨_,rfl,_,rfl,by show 2<=sizeLine;decide,fun p hp=>q p _ (ak.new hp) hp af⟩) (fun h=>absurd (by left) h)
  | false=>exact eg (fun h=>absurd h (by left)) (fun _=>⟨_,rfl,_,rfl,by show 2<=sizeLine;decide,fun p hp=>q p _ (ak.new hp) hp af⟩)
abbrev Qc:Stmt:=top 69
abbrev Zk:List Str:=["state", "name", "receiver", "thing", "holder"]
theorem ID:au Zk ["state", "name", "receiver"] (ao Qc):=by right
abbrev DL:List Str:=["state", "name", "receiver"]
def gk(M:Hs)(x y:Str):Bool:=(bc M.bo (x,y)).isSome
def qo(M:Hs)(nm r:Str):Str:=match bc M.th nm with
 | none => "no thing"
 | some t=>if (bc M.pe r).isSome=false then "no person" else match t.hold with
  | none => ""
  | some z=>if (gk M z r||gk M r z)=false then "not partners" else if (bc M.bo (gJ t.kd z r)).isSome=false then "wrong way" else ""
def IE(M:Hs)(nm:Str):Prop:=∀ t,bc M.th nm=some t->∃ z,t.hold=some z/\z.length<=100
def DM(c:Ct)(cT cP cQ cW:Addr):Sp:=fun vs H Q E=>∃ (a:SA) (sd:Addr) (M:Hs) (nm r:Str),vs=[.ref a.st,.str nm,.str r]/\l4 c sd H a M/\nm.length<=100/\r.length<=100/\IE M nm/\(qo M nm r = "no thing" -> bX E H cT "no thing")/\(qo M nm r = "no person" -> bX E H cP "no person")/\(qo M nm r = "not partners" -> bX E H cQ "not partners")/\(qo M nm r = "wrong way" -> bX E H cW "wrong way")/\(qo M nm r = "" -> xv Q H .bY)
theorem Qd{c:Ct}{cR fR cT cP cQ fQ cW fW f fT fP fH fB:Addr}{gI Nr DD fd xN oh Qe sI:FuncData}(F:d_ K "check_passing" "check_passing" Qc f fd)(TS:iS K mg c.S)(TT:xJ K mg c.T)(ET:gC K mg cR fR gI)(DQ:cb K mg cR "NotPartners" "not partners" cQ fQ Nr)(DW:cb K mg cR "WrongWay" "wrong way" cW fW DD)
  (XT:Fc P w K mg base (bu P w) 4 "check_thing" fT xN IB (IC c cT)) (XP:Fc P w K mg base (bu P w) 4 "check_person" fP oh wH (wI c cP)) (XH:Mc P w K mg base aY 1 c.T "holder" fH Qe Ij (Ik c)) (XB:Fc P w K mg base aY 1 "bond_for" fB sI Ma Mb):aE P w K mg base (bu P w) 5 f fd DL (DM c cT cP cQ cW):=by
 have GQ:aE P w K mg base aY 2 fQ Nr _ (cJ cQ "not partners"):=g_ ET DQ
 have GW:aE P w K mg base aY 2 fW DD _ (cJ cW "wrong way"):=g_ ET DW
 refine F.d.kQ ID (fun vs H Q E h=>?_) (fun bJ A outer s H vs Q E hr h=>?_)
 ·obtain⟨a,sd,M,nm,r,rfl,_⟩:=h
  rfl
 ·obtain⟨a,sd,M,nm,r,rfl,hs,hn,IF,hold,k1,k2,k3,k4,k5⟩:=h
  have hu:=gc hr
  refine⟨_,(aa (aK (aw XT.G (hr.mono (by decide)) rfl XT.m XT.k XT.b .nil av.passes (U (pv 0) (U (pv 1) ae)))) (aa (aK (aw XP.G (hr.mono (by decide)) rfl XP.m XP.k XP.b .nil av.passes (U (pv 0) (U (pv 2) ae)))) (aa (aD (i:=3) ID.nd rfl (Or.inl rfl) (ig hu (ar (pv 0) rfl) (pv 1) (fun _ _=>rfl))) (aa (aD (i:=4) ID.nd rfl (Or.inl rfl) (b_ (pv 3) TT.cl XH.me XH.G (hr.mono (by decide)) XH.b .nil aS)) (aa (aP (PW.pt (wW (cg (gf hu (aQ (U (pv 4) (U (pv 2) ae))) (ar (pv 0) rfl))) (r9 (cg (gf hu (aQ (U (pv 2) (U (pv 4) ae))) (ar (pv 0) rfl)))))) (ai (aW rfl DQ.m DQ.cls DQ.obj DQ.init DQ.fn GQ (hr.mono (by decide)) DQ.b rfl av (U (c7 (aB (bR (pv 4)) (aB aq (aB (bR (pv 2)) (aB aq eU))))) ae))) ay) (ai (aP (cg (gf hu (aw XB.G (hr.mono (by decide)) rfl XB.m XB.k XB.b .nil aS (U (ar (pv 3) rfl) (U (pv 4) (U (pv 2) ae)))) (ar (pv 0) rfl))) (ai (aW rfl DW.m DW.cls DW.obj DW.init DW.fn GW (hr.mono (by decide)) DW.b rfl av (U (c7 (aB (bR (pv 1)) (aB aq (aB (bR (pv 4)) (aB aq (aB (bR (pv 2)) eU)))))) ae))) ay))))))),?_⟩
  refine⟨_,rfl,_,rfl,a,sd,M,nm,rfl,hs,fun z=>k1 ?_,fun pt=>?_⟩
  ·unfold qo
   cases e:bc M.th nm with
   | none=>rfl
   | some t=>rw[e] at z;cases z
  obtain⟨t,et⟩:=Option.isSome_iff_exists.mp pt
  refine⟨_,rfl,_,rfl,a,sd,M,r,rfl,hs,fun z=>k2 ?_,fun pr=>?_⟩
  ·unfold qo
   rw[et]
   exact if_pos z
  obtain⟨v,gv,tv⟩:=BN hs et
  obtain⟨z,ez,lz⟩:=hold t et
  have pw:qo M nm r=if (gk M z r||gk M r z)=false then ("not partners" : Str) else if (bc M.bo (gJ t.kd z r)).isSome=false then ("wrong way" : Str) else ("" : Str):=by
   unfold qo
   rw[et]
   show(if (bc M.pe r).isSome=false then _ else _)=_
   rw[if_neg (by rw[pr];exact fun z=>nomatch z),ez]
  obtain⟨ta,Bt,tl,Zl,rfl,Fs,Zm,Zn⟩:=id tv
  refine⟨_,rfl,a.st,c.S,a.sx,_,_,rfl,hs.gs,TS.cl,TS.n3,rfl,_,rfl,a.th,_,rfl,gv,?_⟩
  refine⟨_,rfl,ta,Bt,_,rfl,Fs,rfl,_,t,z,rfl,tv,ez,?_⟩
  refine⟨_,rfl,_,rfl,by show 2<=sizeLine;decide,fun p hp=>?_⟩
  have s1:ak H (upd H p (.tup [.str z,.str r])):=ak.new hp
  have tW:=hs.same s1
  obtain⟨o,go,eo⟩:=qm (x:=z) (y:=r) tW af
  generalize upd H p (.tup [.str z,.str r])=H1 at s1 tW go
  refine⟨_,rfl,a.st,c.S,a.sx,_,_,rfl,tW.gs,TS.cl,TS.n2,rfl,a.bo,_,rfl,go,_,rfl,?_⟩
  rw[eo]
  refine eg (fun q1=>?_) (fun q1=>?_)
  ·have e1:gk M z r=false:=by
    show(bc M.bo (z,r)).isSome=false
    rw[Bool.not_eq_true'] at q1
    exact q1
   refine⟨_,rfl,_,rfl,by show 2<=sizeLine;decide,fun p2 KS=>?_⟩
   have s2:ak H (upd H1 p2 (.tup [.str r,.str z])):=s1.trans (ak.new KS)
   have F3:=hs.same s2
   obtain⟨o2,go2,eo2⟩:=qm (x:=r) (y:=z) F3 af
   generalize upd H1 p2 (.tup [.str r,.str z])=H2 at s2 F3 go2
   refine⟨_,rfl,a.st,c.S,a.sx,_,_,rfl,F3.gs,TS.cl,TS.n2,rfl,a.bo,_,rfl,go2,_,rfl,?_⟩
   rw[eo2]
   refine eg (fun q2=>?_) (fun q2=>?_)
   ·have e2:gk M r z=false:=by
     show(bc M.bo (r,z)).isSome=false
     rw[Bool.not_eq_true'] at q2
     exact q2
    have m1:=ml l0 lz
    have m2:=ml m1 (y := " and ") (by left)
    have m3:=ml m2 IF
    have m4:=ml m3 (y := " are no partners") (by left)
    exact⟨_,rfl,_,.str _ (wG lz),_,rfl,fV m1,_,rfl,fV m2,_,rfl,_,.str _ (wG IF),_,rfl,fV m3,_,rfl,fV m4,fV m4,_,rfl,BM m4,(k3 (by rw[pw,e1,e2];rfl)).to s2⟩
   ·have hb:(gk M z r||gk M r z)=true:=by
     have:gk M r z=true:=by
      show(bc M.bo (r,z)).isSome=true
      cases h:(bc M.bo (r,z)).isSome with
      | true=>rfl
      | false=>rw[h] at q2;exact absurd rfl q2
     rw[this,Bool.or_true]
    refine⟨_,rfl,ta,c.T,Bt,_,_,rfl,s2 _ _ Fs,TT.cl,TT.n1,rfl,_,rfl,_,rfl,t.kd,z,r,rfl,fun p9 H9 s9 np9 Zo=>?_⟩
    have Nt:=F3.same s9
    obtain⟨o9,Zp,Zq⟩:=qm Nt Zo
    refine⟨_,rfl,a.st,c.S,a.sx,_,_,rfl,Nt.gs,TS.cl,TS.n2,rfl,a.bo,_,rfl,Zp,_,rfl,?_⟩
    rw[Zq]
    cases e9:(bc M.bo ((gJ t.kd z r).1,(gJ t.kd z r).2)).isSome with
    | true=>exact cx (k5 (by rw[pw,if_neg (by rw[hb];exact fun z=>nomatch z),if_neg (by rw[e9];exact fun z=>nomatch z)]) _ (s2.trans s9))
    | false =>
     have m1:=ml l0 hn
     have m2:=ml m1 (y := " doesn't go from ") (by left)
     have m3:=ml m2 lz
     have m4:=ml m3 (y := " to ") (by left)
     have m5:=ml m4 IF
     exact cH ⟨_,rfl,_,.str _ (wG hn),_,rfl,fV m1,_,rfl,fV m2,_,rfl,_,.str _ (wG lz),_,rfl,fV m3,_,rfl,fV m4,_,rfl,_,.str _ (wG IF),_,rfl,fV m5,fV m5,_,rfl,BM m5,(k4 (by rw[pw,if_neg (by rw[hb];exact fun z=>nomatch z),if_pos e9])).to (s2.trans s9)⟩
  ·have hb:(gk M z r||gk M r z)=true:=by
    have:gk M z r=true:=by
     show(bc M.bo (z,r)).isSome=true
     cases h:(bc M.bo (z,r)).isSome with
     | true=>rfl
     | false=>rw[h] at q1;exact absurd rfl q1
    rw[this,Bool.true_or]
   refine cx ?_
   refine⟨_,rfl,ta,c.T,Bt,_,_,rfl,s1 _ _ Fs,TT.cl,TT.n1,rfl,_,rfl,_,rfl,t.kd,z,r,rfl,fun p9 H9 s9 np9 Zo=>?_⟩
   have Nt:=tW.same s9
   obtain⟨o9,Zp,Zq⟩:=qm Nt Zo
   refine⟨_,rfl,a.st,c.S,a.sx,_,_,rfl,Nt.gs,TS.cl,TS.n2,rfl,a.bo,_,rfl,Zp,_,rfl,?_⟩
   rw[Zq]
   cases e9:(bc M.bo ((gJ t.kd z r).1,(gJ t.kd z r).2)).isSome with
   | true=>exact cx (k5 (by rw[pw,if_neg (by rw[hb];exact fun z=>nomatch z),if_neg (by rw[e9];exact fun z=>nomatch z)]) _ (s1.trans s9))
   | false =>
    have m1:=ml l0 hn
    have m2:=ml m1 (y := " doesn't go from ") (by left)
    have m3:=ml m2 lz
    have m4:=ml m3 (y := " to ") (by left)
    have m5:=ml m4 IF
    exact cH ⟨_,rfl,_,.str _ (wG hn),_,rfl,fV m1,_,rfl,fV m2,_,rfl,_,.str _ (wG lz),_,rfl,fV m3,_,rfl,fV m4,_,rfl,_,.str _ (wG IF),_,rfl,fV m5,fV m5,_,rfl,BM m5,(k4 (by rw[pw,if_neg (by rw[hb];exact fun z=>nomatch z),if_pos e9])).to (s1.trans s9)⟩
abbrev Qf:Stmt:=top 70
abbrev Zr:List Str:=["state", "holder", "receiver"]
theorem U1:au Zr ["state", "holder", "receiver"] (ao Qf):=by right
abbrev IG:List Str:=["state", "holder", "receiver"]
def IH(c:Ct)(cF:Addr):Sp:=fun vs H Q E=>∃ (a:SA) (sd:Addr) (M:Hs) (z r:Str) (i j:Int),vs=[.ref a.st,.str z,.str r]/\l4 c sd H a M/\z.length<=100/\r.length<=100/\bc M.pe r=some i/\bc M.pe z=some j/\(bc M.fl i≠some j->bX E H cF "no fleet")/\(bc M.fl i=some j->Q .bY H)
theorem II{c:Ct}{sd:Addr}{H:Hp}{a:SA}{M:Hs}(hs:l4 c sd H a M){x:Str}{i:Int}(e:bc M.pe x=some i):fj H a.pe (.str x) (some (.int i)):=by
 have:=fj.k (k:=Sum.inr x) hs.ER
 rw[l5,e] at this
 exact this
theorem BO{c:Ct}{sd:Addr}{H:Hp}{a:SA}{M:Hs}(hs:l4 c sd H a M)(i:Int):fj H a.fl (.int i) ((bc M.fl i).map V.int):=by
 have:=fj.k (k:=Sum.inl i) hs.Kg
 rw[Lv] at this
 exact this
theorem Qg{c:Ct}{cR fR cF fF f:Addr}{gI Wm fd:FuncData}(F:d_ K "check_fleet" "check_fleet" Qf f fd)(TS:iS K mg c.S)(ET:gC K mg cR fR gI)(D:cb K mg cR "NoFleet" "no fleet" cF fF Wm):aE P w K mg base (bu P w) 4 f fd IG (IH c cF):=by
 have GI:aE P w K mg base aY 2 fF Wm _ (cJ cF "no fleet"):=g_ ET D
 refine F.d.kQ U1 (fun vs H Q E h=>?_) (fun bJ A outer s H vs Q E hr h=>?_)
 ·obtain⟨a,sd,M,z,r,i,j,rfl,_⟩:=h
  rfl
 ·obtain⟨a,sd,M,z,r,i,j,rfl,hs,lz,lr,ei,ej,k1,k2⟩:=h
  have hu:=gc hr
  refine⟨_,(ai (aP (aG jK (G9 hu (ar (pv 0) rfl) (ig hu (ar (pv 0) rfl) (pv 2) (fun _ _=>rfl)) ⟨rfl,rfl,rfl,rfl⟩) (ig hu (ar (pv 0) rfl) (pv 1) (fun _ _=>rfl)) (aN _)) (ai (aW rfl D.m D.cls D.obj D.init D.fn GI (hr.mono (by decide)) D.b rfl av (U (c7 (aB aq (aB (bR (pv 2)) (aB aq (aB (bR (pv 1)) (aB aq eU)))))) ae))) ay)),?_⟩
  refine⟨_,rfl,a.st,c.S,a.sx,_,_,rfl,hs.gs,TS.cl,TS.n4,rfl,a.fl,rfl,.inl ⟨_,.inl hs.Kg⟩,_,rfl,a.st,c.S,a.sx,_,_,rfl,hs.gs,TS.cl,TS.n1,rfl,_,rfl,a.pe,_,rfl,II hs ei,_,BO hs i,?_⟩
  refine⟨_,rfl,a.st,c.S,a.sx,_,_,rfl,hs.gs,TS.cl,TS.n1,rfl,_,rfl,a.pe,_,rfl,II hs ej,?_,_,rfl,?_⟩
  ·cases bc M.fl i<;>rfl
  by_cases e:bc M.fl i=some j
  ·refine jv (fun q=>?_) (k2 e)
   rw[e] at q
   have q':(!decide (V.int j=V.int j))=true:=q
   rw[decide_eq_true rfl] at q'
   cases q'
  ·refine iL ?_ ?_
   ·rw[Bool.not_eq_true']
    refine decide_eq_false fun q=>e ?_
    cases h:bc M.fl i with
    | none=>rw[h] at q;cases q
    | some x=>rw[h] at q;exact congrArg some (V.int.inj q)
   ·have m1:=ml l0 (y := "the fleet of ") (by left)
    have m2:=ml m1 lr
    have m3:=ml m2 (y := " doesn't lie where ") (by left)
    have m4:=ml m3 lz
    have m5:=ml m4 (y := " lives") (by left)
    exact⟨_,rfl,fV m1,_,rfl,_,.str _ (wG lr),_,rfl,fV m2,_,rfl,fV m3,_,rfl,_,.str _ (wG lz),_,rfl,fV m4,_,rfl,fV m5,fV m5,_,rfl,BM m5,(k1 e).to (ak.refl _)⟩
theorem wJ{α β:Type}{R:α->β->Prop}{l1:List α}{l2:List β}(h:Paired R l1 l2):∀ {i:Nat} {a:α},l1[i]?=some a->∃ b,l2[i]?=some b/\R a b:=by
 induction h with
 | nil=>intro i a e;cases e
 | cons z _ ih =>
  intro i a e
  cases i with
  | zero=>cases e;exact⟨_,rfl,z⟩
  | succ i=>exact ih e
def zV(nm:Str)(p:Pm):Bool:=decide (p.HI=nm)&&decide (p.how = "standing")
def stN(pr:List Pm)(nm:Str):Option Nat:=pr.findIdx? (zV nm)
def stV:Option Nat->V
 | none=>.bY
 | some i=>.int i
abbrev Zs:Stmt:=top 58
abbrev nSP:List Str:=["state", "name", "number", "thing", "maker", "receiver", "last", "how"]
theorem BP:au nSP ["state", "name"] (ao Zs):=by right
abbrev IJ:List Str:=["state", "name"]
def IK(c:Ct):Sp:=fun vs H Q _=>∃ (a:SA) (sd:Addr) (M:Hs) (nm:Str),vs=[.ref a.st,.str nm]/\l4 c sd H a M/\xv Q H (stV (stN M.pr nm))
theorem U2{c:Ct}{f:Addr}{fd:FuncData}(F:d_ K "standing_promise" "standing_promise" Zs f fd)(TS:iS K mg c.S)(R:DI mg)(hEn:mg "enumerate" = none):aE P w K mg base aY 1 f fd IJ (IK c):=by
 obtain⟨tst,tG⟩:=R.st
 refine F.ok BP (fun vs H Q E h=>?_) (fun bJ A outer s H vs Q E hr h=>?_)
 ·obtain⟨a,sd,M,nm,rfl,_⟩:=h
  rfl
 ·obtain⟨a,sd,M,nm,rfl,hs,q⟩:=h
  obtain⟨ts,gp,gt⟩:=hs.Lo
  refine⟨_,(aa (tI PassesOwn.never rfl (Lp rfl hEn (U (ar (pv 0) rfl) ae)) (nj rfl (bC (bz (i:=2) BP.nd rfl (Or.inl rfl)) (bC (nj rfl (bC (bz (i:=3) BP.nd rfl (Or.inl rfl)) (bC (bz (i:=4) BP.nd rfl (Or.inl rfl)) (bC (bz (i:=5) BP.nd rfl (Or.inl rfl)) (bC (bz (i:=6) BP.nd rfl (Or.inl rfl)) (bC (bz (i:=7) BP.nd rfl (Or.inl rfl)) j9)))))) j9))) (ai (aP (PW.pt (wW (aG dH (pv 3) (pv 1) (aN _)) (r9 (aG dH (pv 7) (aX (v:=.str "standing") rfl tG ⟨_,rfl⟩) (aN _))))) (ai (aI (pv 2))) ay))) (ai (aI AJ))),?_⟩
  refine⟨_,rfl,a.st,c.S,a.sx,_,_,rfl,hs.gs,TS.cl,TS.n6,rfl,a.pr,_,rfl,bV.of gp,?_⟩
  refine HJ (xs:=ts.map V.ref) (fun i σ H'=>(∃ v2 v3 v4 v5 v6 v7:Option V,σ=[some (.ref a.st),some (.str nm),v2,v3,v4,v5,v6,v7])/\ak H H'/\∀ j p,j<i->M.pr[j]?=some p->zV nm p=false) ⟨⟨_,_,_,_,_,_,rfl⟩,ak.refl _,fun j p hj=>absurd hj (Nat.not_lt_zero _)⟩ (fun i σ H' _ z=>bV.of (z.2.1 _ _ gp)) (fun i x σ H' T hx z hT=>?_) (fun σ H' z=>?_)
  ·obtain⟨⟨v2,v3,v4,v5,v6,v7,rfl⟩,sm,no⟩:=z
   rw[List.getElem?_map] at hx
   obtain⟨t,et,ex⟩:=Option.map_eq_some_iff.mp hx
   subst ex
   obtain⟨vs,ev,gv⟩:=wJ gt et
   rw[List.getElem?_map] at ev
   obtain⟨p,ep,rfl⟩:=Option.map_eq_some_iff.mp ev
   have s2:ak H' (upd H' T (.tup [.int i,.ref t])):=ak.new hT
   have g2:=s2 _ _ (sm _ _ gv)
   refine⟨T,_,rfl,bV.of af,rfl,_,_,rfl,_,_,rfl,t,_,rfl,bV.of g2,rfl,_,_,rfl,_,_,rfl,_,_,rfl,_,_,rfl,_,_,rfl,rfl,rfl,?_⟩
   refine⟨_,rfl,_,rfl,rfl,_,rfl,?_⟩
   have no':zV nm p=false->∀ j p',j<i+1->M.pr[j]?=some p'->zV nm p'=false:=fun h0 j p' hj e=>by
    by_cases e1:j=i
    ·rw[e1,ep] at e
     cases e
     exact h0
    ·exact no j p' (by omega) e
   by_cases c1:p.HI=nm
   ·refine iL (decide_eq_true (by rw[c1])) ⟨_,rfl,rfl,_,rfl,?_⟩
    by_cases c2:p.how = "standing"
    ·refine iL (decide_eq_true (by rw[c2])) ⟨_,rfl,?_⟩
     have h1:zV nm p=true:=by unfold zV;rw[decide_eq_true c1,decide_eq_true c2];rfl
     have:stN M.pr nm=some i:=by
      unfold stN
      rw[List.findIdx?_eq_some_iff_getElem]
      obtain⟨hi,ei⟩:=List.getElem?_eq_some_iff.mp ep
      refine⟨hi,by rw[ei];exact h1,fun j hj=>?_⟩
      rw[no j _ hj (List.getElem?_eq_getElem (Nat.lt_trans hj hi))]
      exact Bool.false_ne_true
     rw[this] at q
     exact q _ (sm.trans s2)
    ·refine jv (fun z=>c2 (V.str.inj (of_decide_eq_true z))) ⟨⟨_,_,_,_,_,_,rfl⟩,sm.trans s2,no' ?_⟩
     unfold zV
     rw[decide_eq_false c2,Bool.and_false]
   ·refine jv (fun z=>c1 (V.str.inj (of_decide_eq_true z))) ?_
    refine cx ⟨⟨_,_,_,_,_,_,rfl⟩,sm.trans s2,no' ?_⟩
    unfold zV
    rw[decide_eq_false c1,Bool.false_and]
  ·obtain⟨⟨v2,v3,v4,v5,v6,v7,rfl⟩,sm,no⟩:=z
   have:stN M.pr nm=none:=by
    unfold stN
    rw[List.findIdx?_eq_none_iff]
    intro p hp
    obtain⟨j,hj⟩:=List.getElem?_of_mem hp
    refine no j p ?_ hj
    rw[List.length_map,Paired.length gt,List.length_map]
    exact(List.getElem?_eq_some_iff.mp hj).1
   rw[this] at q
   exact q _ sm
abbrev Zt:Stmt:=top 59
abbrev nFA:List Str:=["state", "name", "receiver", "number"]
theorem U3:au nFA ["state", "name", "receiver"] (ao Zt):=by right
abbrev Qh:List Str:=["state", "name", "receiver"]
def Qi(c:Ct):Sp:=fun vs H Q _=>∃ (a:SA) (sd:Addr) (M:Hs) (nm r:Str),vs=[.ref a.st,.str nm,.str r]/\l4 c sd H a M/\stN M.pr nm=none/\xv Q H (.bl false)
theorem U4{c:Ct}{f fS:Addr}{fd rK:FuncData}(F:d_ K "is_for_another" "is_for_another" Zt f fd)(TS:iS K mg c.S)(XS:Fc P w K mg base aY 1 "standing_promise" fS rK IJ (IK c)):aE P w K mg base aY 2 f fd Qh (Qi c):=by
 refine F.ok U3 (fun vs H Q E h=>?_) (fun bJ A outer s H vs Q E hr h=>?_)
 ·obtain⟨a,sd,M,nm,r,rfl,_⟩:=h
  rfl
 ·obtain⟨a,sd,M,nm,r,rfl,hs,e,q⟩:=h
  refine⟨_,(aa (aD (i:=3) U3.nd rfl (Or.inl rfl) (aw XS.G (hr.mono (by decide)) rfl XS.m XS.k XS.b .nil aS (U (pv 0) (U (pv 1) ae)))) (ai (aI (kX (Gh (rZ (pv 3))) (j8 (gE jK (aV bQ (aV bQ (ar (pv 0) rfl) (pv 3) (fun _ _=>rfl)) az (fun _ _=>rfl)) (pv 2) (aN _))))))),?_⟩
  refine⟨_,rfl,_,rfl,a,sd,M,nm,rfl,hs,fun H1 s1=>?_⟩
  rw[e]
  refine⟨_,rfl,_,rfl,?_⟩
  exact q _ s1
abbrev Zu:Stmt:=top 71
abbrev nNA:List Str:=["state", "name", "receiver"]
theorem Zv:au nNA ["state", "name", "receiver"] (ao Zu):=by right
abbrev Qj:List Str:=["state", "name", "receiver"]
def Qk(c:Ct):Sp:=fun vs H Q _=>∃ (a:SA) (sd:Addr) (M:Hs) (nm r:Str),vs=[.ref a.st,.str nm,.str r]/\l4 c sd H a M/\stN M.pr nm=none/\xv Q H .bY
theorem U5{c:Ct}{cR fR cP fP f fA:Addr}{gI oh fd Iy:FuncData}(F:d_ K "check_not_for_another" "check_not_for_another" Zu f fd)(ET:gC K mg cR fR gI)(D:cb K mg cR "Promised" "promised" cP fP oh)(XA:Fc P w K mg base aY 2 "is_for_another" fA Iy Qh (Qi c)):aE P w K mg base (bu P w) 4 f fd Qj (Qk c):=by
 have GI:aE P w K mg base aY 2 fP oh _ (cJ cP "promised"):=g_ ET D
 refine F.d.kQ Zv (fun vs H Q E h=>?_) (fun bJ A outer s H vs Q E hr h=>?_)
 ·obtain⟨a,sd,M,nm,r,rfl,_⟩:=h
  rfl
 ·obtain⟨a,sd,M,nm,r,rfl,hs,e,q⟩:=h
  refine⟨_,(ai (aP (dQ (aw XA.G (hr.mono (by decide)) rfl XA.m XA.k XA.b .nil aS (U (pv 0) (U (pv 1) (U (pv 2) ae))))) (ai (aW rfl D.m D.cls D.obj D.init D.fn GI (hr.mono (by decide)) D.b rfl av (U (c7 (aB (bR (pv 1)) (aB aq eU))) ae))) ay)),?_⟩
  refine⟨_,rfl,_,rfl,_,rfl,a,sd,M,nm,r,rfl,hs,e,fun H1 s1=>⟨_,rfl,?_⟩⟩
  exact cx (q _ s1)
abbrev Ql:Stmt:=top 72
abbrev Zw:List Str:=["state", "last"]
theorem U6:au Zw ["state", "last"] (ao Ql):=by right
abbrev IL:List Str:=["state", "last"]
def Nu(now l:Int):Prop:=l<now\/1000000<l
def IM(c:Ct)(cS:Addr):Sp:=fun vs H Q E=>∃ (a:SA) (sd:Addr) (M:Hs) (l:Int),vs=[.ref a.st,.int l]/\l4 c sd H a M/\(Nu M.now l->bX E H cS "bad season")/\(¬ Nu M.now l->Q .bY H)
theorem Qm{c:Ct}{cR fR cS fS f:Addr}{gI rK fd:FuncData}(F:d_ K "check_last_season" "check_last_season" Ql f fd)(TS:iS K mg c.S)(R:DI mg)(ET:gC K mg cR fR gI)(D:cb K mg cR "BadSeason" "bad season" cS fS rK):aE P w K mg base (bu P w) 4 f fd IL (IM c cS):=by
 obtain⟨tls,hls⟩:=R.ls
 have GI:aE P w K mg base aY 2 fS rK _ (cJ cS "bad season"):=g_ ET D
 refine F.d.kQ U6 (fun vs H Q E h=>?_) (fun bJ A outer s H vs Q E hr h=>?_)
 ·obtain⟨a,sd,M,l,rfl,_⟩:=h
  rfl
 ·obtain⟨a,sd,M,l,rfl,hs,k1,k2⟩:=h
  refine⟨_,(ai (aP (PW.pt (mQ (aG qQ (pv 1) (ar (pv 0) rfl) (aN _)) (j7 (aG C4 (pv 1) (aX (v:=.int 1000000) rfl hls ⟨_,rfl⟩) (aN _))))) (ai (aW rfl D.m D.cls D.obj D.init D.fn GI (hr.mono (by decide)) D.b rfl av (U (c7 (aB aq (aB (bR (aX (v:=.int 1000000) rfl hls ⟨_,rfl⟩)) eU))) ae))) ay)),?_⟩
  have f1:Tn (.int 1000000) (toString (1000000:Int)):=.int _ (by left)
  have m1:=ml l0 (y := "a promise lasts till a season from now on, at most till ") (by left)
  have m2:=ml m1 (y:=toString (1000000:Int)) (by left)
  refine⟨_,rfl,_,rfl,a.st,c.S,a.sx,_,_,rfl,hs.gs,TS.cl,TS.n7,rfl,_,_,rfl,rfl,_,rfl,?_⟩
  refine eg (fun c1=>?_) (fun c1=>?_)
  ·have TF:l<M.now:=of_decide_eq_true c1
   exact cH ⟨_,rfl,fV m1,_,f1,_,rfl,fV m2,fV m2,_,rfl,BM m2,(k1 (.inl TF)).to (ak.refl _)⟩
  ·refine⟨_,rfl,_,_,rfl,rfl,_,rfl,?_⟩
   refine eg (fun c2=>?_) (fun c2=>?_)
   ·have c2':1000000<l:=by simpa using c2
    exact⟨_,rfl,fV m1,_,f1,_,rfl,fV m2,fV m2,_,rfl,BM m2,(k1 (.inr c2')).to (ak.refl _)⟩
   ·refine k2 fun z=>z.elim (fun z=>c1 (decide_eq_true z)) (fun z=>c2 ?_)
    simpa using z
abbrev Qn:Stmt:=top 73
abbrev Zx:List Str:=["state", "name"]
theorem U7:au Zx ["state", "name"] (ao Qn):=by right
abbrev IP:List Str:=["state", "name"]
def IQ(c:Ct)(cP:Addr):Sp:=fun vs H Q E=>∃ (a:SA) (sd:Addr) (M:Hs) (nm:Str),vs=[.ref a.st,.str nm]/\l4 c sd H a M/\nm.length<=100/\((stN M.pr nm).isSome=true->bX E H cP "promised")/\((stN M.pr nm).isSome=false->xv Q H .bY)
theorem Qo{c:Ct}{cR fR cP fP f fS:Addr}{gI oh fd rK:FuncData}(F:d_ K "check_unpromised" "check_unpromised" Qn f fd)(ET:gC K mg cR fR gI)(D:cb K mg cR "Promised" "promised" cP fP oh)(XS:Fc P w K mg base aY 1 "standing_promise" fS rK IJ (IK c)):aE P w K mg base (bu P w) 4 f fd IP (IQ c cP):=by
 have GI:aE P w K mg base aY 2 fP oh _ (cJ cP "promised"):=g_ ET D
 refine F.d.kQ U7 (fun vs H Q E h=>?_) (fun bJ A outer s H vs Q E hr h=>?_)
 ·obtain⟨a,sd,M,nm,rfl,_⟩:=h
  rfl
 ·obtain⟨a,sd,M,nm,rfl,hs,ln,k1,k2⟩:=h
  refine⟨_,(ai (aP (cg (rZ (aw XS.G (hr.mono (by decide)) rfl XS.m XS.k XS.b .nil aS (U (pv 0) (U (pv 1) ae))))) (ai (aW rfl D.m D.cls D.obj D.init D.fn GI (hr.mono (by decide)) D.b rfl av (U (c7 (aB (bR (pv 1)) (aB aq eU))) ae))) ay)),?_⟩
  refine⟨_,rfl,_,rfl,a,sd,M,nm,rfl,hs,fun H1 s1=>⟨_,rfl,?_⟩⟩
  cases e:stN M.pr nm with
  | none=>exact jv (by decide) (k2 (by rw[e];rfl) _ s1)
  | some i =>
   have m1:=ml l0 ln
   have m2:=ml m1 (y := " is promised") (by left)
   exact iL (show(!decide (stV (some i)=V.bY))=true from by rw[decide_eq_false (fun z=>by cases z)];rfl) ⟨_,rfl,_,.str _ (wG ln),_,rfl,fV m1,_,rfl,fV m2,fV m2,_,rfl,BM m2,(k1 (by rw[e];rfl)).to s1⟩
def kO(n:Int)(M:Hs)(z:Str)(i:Int):Str:=if isNm z=false then "bad name" else if (bc M.pe z).isSome=true then "taken" else if ¬ (0<=i/\i<n) then "no island" else ""
abbrev Qp:Stmt:=inClass (top 83) 1
abbrev Zy:List Str:=["self", "name", "island", "after"]
theorem Nv:au Zy ["self", "name", "island"] (ao Qp):=by right
abbrev IS:List Str:=["self", "name", "island"]
def IT(c:Ct)(er:Str->Addr):Sp:=fun vs H Q E=>∃ (a:HA) (n:Int) (M:Hs) (so:List (List V)) (z:Str) (i:Int),vs=[.ref a.h,.str z,.int i]/\ug c H a n M so/\ES n M so/\z.length<=100/\(kO n M z i ≠ "" -> bX E H (er (kO n M z i)) (kO n M z i))/\(kO n M z i = "" -> Done c H a n { M with pe:=oS M.pe z i } so [.str "person",.str z,.int i] Q .bY)
theorem Qq{c:Ct}{er:Str->Addr}{f fN fL fT fW fS:Addr}{fd yB Fl xN DD rK:FuncData}(F:d_ K "person" "House.person" Qp f fd)(T:oX K mg c.H)(TS:iS K mg c.S)(XN:Fc P w K mg base (bu P w) 4 "check_new_name" fN yB DJ (DK (er "bad name") (er "taken")))(XL:Fc P w K mg base (bu P w) 4 "check_island" fL Fl ["islands", "island"] (um (er "no island")))(XT:Mc P w K mg base aY 3 c.S "twin" fT xN zN (zO c.S))(XR:Fc P w K mg base aY 1 "with_row" fW DD vz Fm)(XS:Mc P w K mg base aY 1 c.H "stand" fS rK zP (zQ c)):aE P w K mg base (bu P w) 6 f fd IS (IT c er):=by
 refine F.d.kQ Nv (fun vs H Q E h=>?_) (fun bJ A outer s H vs Q E hr h=>?_)
 ·obtain⟨a,n,M,so,z,i,rfl,_⟩:=h
  rfl
 ·obtain⟨a,n,M,so,z,i,rfl,hh,lm,hz,kE,kD⟩:=h
  have kw:∀ wd:Str,kO n M z i=wd->wd ≠ "" -> bX E H (er wd) wd:=fun wd e h=>by rw[<- e];exact kE (by rw[e];exact h)
  have hu:=gc hr
  refine⟨_,(aa (aK (aw XN.G (hr.mono (by decide)) rfl XN.m XN.k XN.b .nil av.passes (U (ar (ar (pv 0) rfl) rfl) (U (pv 1) ae)))) (aa (aK (aw XL.G (hr.mono (by decide)) rfl XL.m XL.k XL.b .nil av.passes (U (ar (pv 0) rfl) (U (pv 2) ae)))) (aa (aD (i:=3) Nv.nd rfl (Or.inl rfl) (b_ (ar (pv 0) rfl) TS.cl XT.me XT.G (hr.mono (by decide)) XT.b .nil aS)) (aa (a7 (pv 3) (aw XR.G (hr.mono (by decide)) rfl XR.m XR.k XR.b .nil aS (U (ar (pv 3) rfl) (U (pv 1) (U (pv 2) ae)))) rfl) (ai (aK (ck (pv 0) T.cl XS.me XS.G (hr.mono (by decide)) XS.b .nil aS (U (aQ (U aq (U (pv 1) (U (pv 2) ae)))) (U (pv 3) ae))))))))),?_⟩
  refine⟨_,rfl,a.h,c.H,a.dx,_,_,rfl,hh.gh,T.cl,T.n2,rfl,a.s.st,c.S,a.s.sx,_,_,rfl,hh.st.gs,TS.cl,TS.n1,rfl,_,rfl,a.s.pe,_,z,rfl,hh.st.ER,hz,fun e=>?_,fun e1 e2=>?_,fun e1 e2 H1 s1=>?_⟩
  ·exact kw _ (by unfold kO;rw[if_pos e]) (by left)
  ·rw[l5,map_some] at e2
   exact kw _ (by unfold kO;rw[if_neg (by rw[e1];exact fun z=>nomatch z),if_pos e2]) (by left)
  rw[l5,map_some] at e2
  have h1:=hh.same s1
  have pw:kO n M z i=if ¬ (0<=i/\i<n) then ("no island" : Str) else ("" : Str):=by
   unfold kO
   rw[if_neg (by rw[e1];exact fun z=>nomatch z),if_neg (by rw[e2];exact Bool.false_ne_true)]
  refine⟨_,rfl,a.h,c.H,a.dx,_,_,rfl,h1.gh,T.cl,T.n1,rfl,_,rfl,n,i,rfl,fun hi=>(kw _ (pw.trans (if_pos hi)) (by left)).to s1,fun hi=>?_⟩
  have kD:=(kD (pw.trans (if_neg (fun z=>z hi)))).from s1
  refine⟨_,rfl,a.h,c.H,a.dx,_,_,rfl,h1.gh,T.cl,T.n2,rfl,a.s.st,a.s.sx,_,rfl,h1.st.gs,rfl,a.s.st,a.s.sx,_,_,_,_,_,_,_,rfl,h1.st.gs,fun y dy H2 s2 ny gy=>?_⟩
  have h2:=h1.same s2
  refine⟨_,rfl,y,c.S,dy,_,_,rfl,gy,TS.cl,TS.n1,rfl,_,rfl,_,rfl,a.s.pe,O1 M.pe,Sum.inr z,.int i,rfl,h2.st.ER,by rw[Lx];exact Nat.le_trans lm.pe (by decide),fun p H3 s3 np gp=>?_⟩
  have Zz:y≠p:=ah gy np
  refine⟨_,rfl,y,c.S,dy,_,rfl,s3 _ _ gy,TS.cl,TS.n1,by show 7<1000;decide,?_⟩
  generalize hG:upd H3 y _=H4
  have Nw:ak H1 H4:=by rw[<- hG];exact(s2.trans s3).put ny
  have U8:H4 y=some (.ins c.S dy (sF (.ref p) (.ref a.s.bo) (.ref a.s.th) (.ref a.s.fl) (.ref a.s.gi) (.ref a.s.pr) (.int M.now))):=by rw[<- hG];exact af
  have ZA:H4 p=some (.dK (O1 (oS M.pe z i))):=by rw[<- hG,aj Zz.symm,gp,Lu]
  clear hG
  have h4:=h1.same Nw
  have ZC:l4 c a.sd H4 { a.s with st:=y,sx:=dy,pe:=p } { M with pe:=oS M.pe z i }:=⟨U8,ZA,h4.st.Ke,h4.st.Kf,h4.st.Kg,h4.st.Ln,h4.st.Lo⟩
  refine⟨_,rfl,a.h,a.dx,_,rfl,h4.gh,rfl,_,rfl,_,rfl,by show 3<=sizeLine;decide,fun L hL=>⟨_,rfl,?_⟩⟩
  have IU:ak H4 (upd H4 L (.tup [.str "person",.str z,.int i])):=ak.new hL
  exact⟨a,n,M,so,{ a.s with st:=y,sx:=dy,pe:=p },_,L,_,rfl,h4.same IU,Nat.le_trans lm.so (by decide),ZC.same IU,af,kD.from (Nw.trans IU)⟩
def Ki(n:Int)(M:Hs)(x y:Str):Bool:=match bc M.pe x,bc M.pe y with
 | some i,some j=>decide ((j - i)%n=1)
 | _,_=>false
def kP(n:Int)(M:Hs)(x y:Str):Str:=if (bc M.pe x).isSome=false then "no person" else if (bc M.pe y).isSome=false then "no person" else if Ki n M x y=false then "not neighbours" else if (bc M.bo (x,y)).isSome=true then "told twice" else ""
def ZD(n:Int)(M:Hs):Prop:=∀ x i,bc M.pe x=some i->0<=i/\i<n
def P0:de:=⟨[],[],[]⟩
abbrev Qr:Stmt:=inClass (top 83) 2
abbrev ZE:List Str:=["self", "behind", "ahead", "after"]
theorem Nx:au ZE ["self", "behind", "ahead"] (ao Qr):=by right
abbrev IV:List Str:=["self", "behind", "ahead"]
def IW(c:Ct)(er:Str->Addr):Sp:=fun vs H Q E=>∃ (a:HA) (n:Int) (M:Hs) (so:List (List V)) (x y:Str),vs=[.ref a.h,.str x,.str y]/\ug c H a n M so/\ES n M so/\ZD n M/\x.length<=100/\y.length<=100/\(kP n M x y ≠ "" -> bX E H (er (kP n M x y)) (kP n M x y))/\(kP n M x y = "" -> Done c H a n { M with bo:=oS M.bo (x,y) (P0,[]) } so [.str "partners",.str x,.str y] Q .bY)
theorem Qs{c:Ct}{er:Str->Addr}{cR fR f fP fB fT fW fS fI fw:Addr}{gI fd oh sI xN DD rK Ii fdw:FuncData}(F:d_ K "partners" "House.partners" Qr f fd)(T:oX K mg c.H)(TS:iS K mg c.S)(ET:gC K mg cR fR gI)(DW:cb K mg cR "Twice" "told twice" (er "told twice") fw fdw)(XP:Fc P w K mg base (bu P w) 4 "check_person" fP oh wH (wI c (er "no person")))(XB:Fc P w K mg base (bu P w) 6 "check_neighbours" fB sI Iv (Iw c (er "not neighbours")))(XT:Mc P w K mg base aY 3 c.S "twin" fT xN zN (zO c.S))(XR:Fc P w K mg base aY 1 "with_row" fW DD vz DE)(XS:Mc P w K mg base aY 1 c.H "stand" fS rK zP (zQ c))(XI:Kc P w K mg base aY 1 "Pairing" c.G fI Ii ["self"] (L7 c.G)):aE P w K mg base (bu P w) 7 f fd IV (IW c er):=by
 have GW:aE P w K mg base aY 2 fw fdw _ (cJ (er "told twice") "told twice"):=g_ ET DW
 refine F.d.kQ Nx (fun vs H Q E h=>?_) (fun bJ A outer s H vs Q E hr h=>?_)
 ·obtain⟨a,n,M,so,x,y,rfl,_⟩:=h
  rfl
 ·obtain⟨a,n,M,so,x,y,rfl,hh,lm,inr,hx,hy,kE,kD⟩:=h
  have kw:∀ wd:Str,kP n M x y=wd->wd ≠ "" -> bX E H (er wd) wd:=fun wd e h=>by rw[<- e];exact kE (by rw[e];exact h)
  have hu:=gc hr
  refine⟨_,(aa (aK (aw XP.G (hr.mono (by decide)) rfl XP.m XP.k XP.b .nil av.passes (U (ar (pv 0) rfl) (U (pv 1) ae)))) (aa (aK (aw XP.G (hr.mono (by decide)) rfl XP.m XP.k XP.b .nil av.passes (U (ar (pv 0) rfl) (U (pv 2) ae)))) (aa (aK (aw XB.G (hr.mono (by decide)) rfl XB.m XB.k XB.b .nil av.passes (U (ar (pv 0) rfl) (U (ar (pv 0) rfl) (U (pv 1) (U (pv 2) ae)))))) (aa (aP (cg (A6 hu (aQ (U (pv 1) (U (pv 2) ae))) (ar (ar (pv 0) rfl) rfl))) (ai (aW rfl DW.m DW.cls DW.obj DW.init DW.fn GW (hr.mono (by decide)) DW.b rfl av (U (c7 (aB (bR (pv 1)) (aB aq (aB (bR (pv 2)) (aB aq eU))))) ae))) ay) (aa (aD (i:=3) Nx.nd rfl (Or.inl rfl) (b_ (ar (pv 0) rfl) TS.cl XT.me XT.G (hr.mono (by decide)) XT.b .nil aS)) (aa (a7 (pv 3) (aw XR.G (hr.mono (by decide)) rfl XR.m XR.k XR.b .nil aS (U (ar (pv 3) rfl) (U (aQ (U (pv 1) (U (pv 2) ae))) (U (aQ (U (oy XI.M XI.G (hr.mono (by decide)) rfl XI.m XI.b .nil aS) (U (aQ ae) ae))) ae)))) rfl) (ai (aK (ck (pv 0) T.cl XS.me XS.G (hr.mono (by decide)) XS.b .nil aS (U (aQ (U aq (U (pv 1) (U (pv 2) ae)))) (U (pv 3) ae))))))))))),?_⟩
  refine⟨_,rfl,a.h,c.H,a.dx,_,_,rfl,hh.gh,T.cl,T.n2,rfl,_,rfl,a.s,a.sd,M,x,rfl,hh.st,fun e=>kw _ (by unfold kP;rw[if_pos e]) (by left),fun ex=>?_⟩
  refine⟨_,rfl,a.h,c.H,a.dx,_,_,rfl,hh.gh,T.cl,T.n2,rfl,_,rfl,a.s,a.sd,M,y,rfl,hh.st,fun e=>kw _ (by unfold kP;rw[if_neg (by rw[ex];exact fun z=>nomatch z),if_pos e]) (by left),fun ey=>?_⟩
  obtain⟨i,ei⟩:=Option.isSome_iff_exists.mp ex
  obtain⟨j,ej⟩:=Option.isSome_iff_exists.mp ey
  have pw:kP n M x y=if Ki n M x y=false then ("not neighbours" : Str) else if (bc M.bo (x,y)).isSome=true then ("told twice" : Str) else ("" : Str):=by
   unfold kP
   rw[if_neg (by rw[ex];exact fun z=>nomatch z),if_neg (by rw[ey];exact fun z=>nomatch z)]
  have nb:Ki n M x y=decide ((j - i)%n=1):=by unfold Ki;rw[ei,ej]
  have hb:¬ bad n:=fun z=>by have:=lm.n3;have:=lm.Wd;rcases z with z | z<;>omega
  refine⟨_,rfl,a.h,c.H,a.dx,_,_,rfl,hh.gh,T.cl,T.n1,rfl,_,rfl,a.h,c.H,a.dx,_,_,rfl,hh.gh,T.cl,T.n2,rfl,_,rfl,_,rfl,n,a.s,a.sd,M,x,y,i,j,rfl,hh.st,hx,hy,ei,ej,hb,inr _ _ ei,inr _ _ ej,fun e=>kw _ (by rw[pw,nb,decide_eq_false e];rfl) (by left),fun e=>?_⟩
  rw[if_neg (by rw[nb,decide_eq_true e];exact fun z=>nomatch z)] at pw
  refine⟨_,rfl,_,rfl,by show 2<=sizeLine;decide,fun p hp=>?_⟩
  have s1:ak H (upd H p (.tup [.str x,.str y])):=ak.new hp
  have h1:=hh.same s1
  obtain⟨o,go,eo⟩:=qm (x:=x) (y:=y) h1.st af
  generalize upd H p (.tup [.str x,.str y])=H1 at s1 h1 go
  refine⟨_,rfl,a.h,c.H,a.dx,_,_,rfl,h1.gh,T.cl,T.n2,rfl,a.s.st,c.S,a.s.sx,_,_,rfl,h1.st.gs,TS.cl,TS.n2,rfl,a.s.bo,_,rfl,go,_,rfl,?_⟩
  rw[eo]
  refine eg (fun q=>?_) (fun q=>?_)
  ·have m1:=ml l0 hx
   have m2:=ml m1 (y := " and ") (by left)
   have m3:=ml m2 hy
   have m4:=ml m3 (y := " are partners") (by left)
   exact⟨_,rfl,_,.str _ (wG hx),_,rfl,fV m1,_,rfl,fV m2,_,rfl,_,.str _ (wG hy),_,rfl,fV m3,_,rfl,fV m4,fV m4,_,rfl,BM m4,(kw _ (pw.trans (if_pos q)) (by left)).to s1⟩
  have kD:=(kD (pw.trans (if_neg q))).from s1
  refine⟨_,rfl,a.h,c.H,a.dx,_,_,rfl,h1.gh,T.cl,T.n2,rfl,a.s.st,a.s.sx,_,rfl,h1.st.gs,rfl,a.s.st,a.s.sx,_,_,_,_,_,_,_,rfl,h1.st.gs,fun y1 dy H2 s2 ny gy=>?_⟩
  have h2:=h1.same s2
  refine⟨_,rfl,y1,c.S,dy,_,_,rfl,gy,TS.cl,TS.n2,rfl,_,rfl,_,rfl,by show 2<=sizeLine;decide,fun p2 KS=>?_⟩
  have s3:ak H2 (upd H2 p2 (.tup [.str x,.str y])):=ak.new KS
  have gp2:upd H2 p2 (.tup [.str x,.str y]) p2=some (.tup ((bK (x,y)).map kV)):=af
  generalize upd H2 p2 (.tup [.str x,.str y])=H3 at s3 gp2
  refine fun q2 dq hq hdq nq=>⟨q2,dq,rfl,af,fun pa H4 ea Kj sb new=>⟨rfl,?_⟩⟩
  have s4:ak H3 H4:=fun b u e=>sb b u (fun z=>ah e hq (List.mem_singleton.mp z)) (by rw[aj (ah e hq),aj (ah e hdq)];exact e)
  refine⟨Nat.zero_le _,fun p5 hp5=>⟨by show 2<=sizeLine;decide,fun p6 ZF=>?_⟩⟩
  have s5:ak H4 (upd H4 p5 (.tup [])):=ak.new hp5
  have g5:upd H4 p5 (.tup []) p5=some (.tup []):=af
  generalize upd H4 p5 (.tup [])=H5 at s5 g5 ZF
  have s6:ak H5 (upd H5 p6 (.tup [.ref q2,.ref p5])):=ak.new ZF
  have g6:upd H5 p6 (.tup [.ref q2,.ref p5]) p6=some (.tup [.ref q2,.ref p5]):=af
  generalize upd H5 p6 (.tup [.ref q2,.ref p5])=H6 at s6 g6
  have RX:=s4.trans (s5.trans s6)
  have RY:=s3.trans RX
  have s16:=s2.trans RY
  obtain⟨rb,Bq,Br⟩:=h1.st.Ke
  refine⟨a.s.bo,p2,rb,bK (x,y),.ref p6,rfl,s16 _ _ Bq,RX _ _ gp2,by rw[Br.len];exact lm.bo,fun p7 H7 s7 ZG ZH=>?_⟩
  refine⟨_,rfl,y1,c.S,dy,_,rfl,s7 _ _ (RY _ _ gy),TS.cl,TS.n2,by show 7<1000;decide,?_⟩
  generalize hG:upd H7 y1 _=H8
  have ZI:ak H1 H8:=by rw[<- hG];exact(s16.trans s7).put ny
  have o8:∀ b u,b≠y1->H7 b=some u->H8 b=some u:=fun b u hb e=>by rw[<- hG,aj hb];exact e
  have ZJ:H8 y1=some (.ins c.S dy (sF (.ref a.s.pe) (.ref p7) (.ref a.s.th) (.ref a.s.fl) (.ref a.s.gi) (.ref a.s.pr) (.int M.now))):=by rw[<- hG];exact af
  clear hG
  have Wn:=s3 _ _ gy
  have ZK:p7≠y1:=(ah (RY _ _ gy) ZG).symm
  have ny6:p6≠y1:=(ah (s5 _ _ (s4 _ _ Wn)) ZF).symm
  have ny5:p5≠y1:=(ah (s4 _ _ Wn) hp5).symm
  have nyq:q2≠y1:=(ah Wn hq).symm
  have F9:∀ z∈[pa.k,pa.r,pa.m],z≠y1/\z≠a.sd:=fun z hz=>by
   have hn:=new z hz
   have up:∀ b u,H3 b=some u->upd (upd H3 dq (.own q2)) q2 (.ins c.G dq []) b=some u:=fun b u e=>by rw[aj (ah e hq),aj (ah e hdq)];exact e
   obtain⟨ts,gd,_⟩:=h1.gd
   exact⟨(ah (up _ _ Wn) hn).symm,(ah (up _ _ (s3 _ _ (s2 _ _ gd))) hn).symm⟩
  have Qt:=s5.trans (s6.trans s7)
  have k8:∀ b u,b≠y1->H4 b=some u->H8 b=some u:=fun b u hb e=>o8 _ _ hb (Qt _ _ e)
  have ZL:vf c.G H8 pa P0:=⟨k8 _ _ (by rw[ea];exact nyq) Kj.x,k8 _ _ (F9 _ (by simp)).1 Kj.k,k8 _ _ (F9 _ (by simp)).1 Kj.r,k8 _ _ (F9 _ (by simp)).1 Kj.m,Kj.kr,Kj.km,Kj.rm⟩
  have bd:Bs c a.sd H8 (.ref p6) (P0,[]):=⟨p6,pa,p5,rfl,by rw[ea];exact o8 _ _ ny6 (s7 _ _ g6),ZL,o8 _ _ ny5 (s7 _ _ (s6 _ _ g5)),(F9 _ (by simp)).2,(F9 _ (by simp)).2,(F9 _ (by simp)).2⟩
  have h8:=h1.same ZI
  have ZM:l4 c a.sd H8 { a.s with st:=y1,sx:=dy,bo:=p7 } { M with bo:=oS M.bo (x,y) (P0,[]) }:=⟨ZJ,h8.st.ER,⟨_,o8 _ _ ZK ZH,cY.put xG (Br.mono fun v t z=>z.same ZI) (x,y) bd⟩,h8.st.Kf,h8.st.Kg,h8.st.Ln,h8.st.Lo⟩
  refine⟨_,rfl,a.h,a.dx,_,rfl,h8.gh,rfl,_,rfl,_,rfl,by show 3<=sizeLine;decide,fun L hL=>⟨_,rfl,?_⟩⟩
  have s9:ak H8 (upd H8 L (.tup [.str "partners",.str x,.str y])):=ak.new hL
  exact⟨a,n,M,so,{ a.s with st:=y1,sx:=dy,bo:=p7 },_,L,_,rfl,h8.same s9,Nat.le_trans lm.so (by decide),ZM.same s9,af,kD.from (ZI.trans s9)⟩
def Md(k:Str):Bool:=decide (k = "necklace")
theorem Qu{k:Str}(h:Nl k):kS (Md k)=k:=by
 unfold Md kS
 rcases h with h | h
 ·rw[decide_eq_true h,if_pos rfl,h]
 ·rw[decide_eq_false (by rw[h];left),if_neg Bool.false_ne_true,h]
def jP(M:Hs)(z k:Str)(r:Int)(ho:Str):Str:=if isNm z=false then "bad name" else if (bc M.th z).isSome=true then "taken" else if ¬ (k = "necklace" \/ k = "armring") then "bad kind" else if ¬ (1<=r/\r<=1000000) then "bad rank" else if (bc M.pe ho).isSome=false then "no person" else ""
abbrev Qv:Stmt:=inClass (top 83) 4
abbrev ZN:List Str:=["self", "thing", "kind", "rank", "holder", "after"]
theorem Ny:au ZN ["self", "thing", "kind", "rank", "holder"] (ao Qv):=by right
abbrev IX:List Str:=["self", "thing", "kind", "rank", "holder"]
def IY(c:Ct)(er:Str->Addr):Sp:=fun vs H Q E=>∃ (a:HA) (n:Int) (M:Hs) (so:List (List V)) (z k:Str) (r:Int) (ho:Str),vs=[.ref a.h,.str z,.str k,.int r,.str ho]/\ug c H a n M so/\ES n M so/\z.length<=100/\(jP M z k r ho ≠ "" -> bX E H (er (jP M z k r ho)) (jP M z k r ho))/\(jP M z k r ho = "" -> Done c H a n { M with th:=oS M.th z ⟨Md k,r,[(M.now,ho)]⟩ } so [.str "make",.str z,.str k,.int r,.str ho] Q .bY)
theorem Qw{c:Ct}{er:Str->Addr}{cR fR f fN fK fI fP fT fW fS fG fb:Addr}{gI fd yB Qx Ii oh xN DD rK DC fdb:FuncData}(F:d_ K "make" "House.make" Qv f fd)(T:oX K mg c.H)(TS:iS K mg c.S)(ET:gC K mg cR fR gI)(DB:cb K mg cR "BadRank" "bad rank" (er "bad rank") fb fdb)(XN:Fc P w K mg base (bu P w) 4 "check_new_name" fN yB DJ (DK (er "bad name") (er "taken")))(XK:Fc P w K mg base (bu P w) 4 "check_kind" fK Qx ["kind"] (LH (er "bad kind")))(XI:Fc P w K mg base aY 1 "is_rank" fI Ii PR PU)(XP:Fc P w K mg base (bu P w) 4 "check_person" fP oh wH (wI c (er "no person")))(XT:Mc P w K mg base aY 3 c.S "twin" fT xN zN (zO c.S))(XR:Fc P w K mg base aY 1 "with_row" fW DD vz Fm)(XS:Mc P w K mg base aY 1 c.H "stand" fS rK zP (zQ c))(XG:Kc P w K mg base aY 1 "Thing" c.T fG DC LY (LZ c.T)):aE P w K mg base (bu P w) 6 f fd IX (IY c er):=by
 have GB:aE P w K mg base aY 2 fb fdb _ (cJ (er "bad rank") "bad rank"):=g_ ET DB
 refine F.d.kQ Ny (fun vs H Q E h=>?_) (fun bJ A outer s H vs Q E hr h=>?_)
 ·obtain⟨a,n,M,so,z,k,r,ho,rfl,_⟩:=h
  rfl
 ·obtain⟨a,n,M,so,z,k,r,ho,rfl,hh,lm,hz,kE,kD⟩:=h
  have kw:∀ wd:Str,jP M z k r ho=wd->wd ≠ "" -> bX E H (er wd) wd:=fun wd e h=>by rw[<- e];exact kE (by rw[e];exact h)
  have hu:=gc hr
  obtain⟨rt,RP,RZ⟩:=hh.st.Kf
  have vt:(iH rt (Sum.inr z)).isSome=(bc M.th z).isSome:=RZ.isSome nI z
  refine⟨_,(aa (aK (aw XN.G (hr.mono (by decide)) rfl XN.m XN.k XN.b .nil av.passes (U (ar (ar (pv 0) rfl) rfl) (U (pv 1) ae)))) (aa (aK (aw XK.G (hr.mono (by decide)) rfl XK.m XK.k XK.b .nil av.passes (U (pv 2) ae))) (aa (aP (wX (dQ (aw XI.G (hr.mono (by decide)) rfl XI.m XI.k XI.b .nil aS (U (pv 3) ae)))) (ai (aW rfl DB.m DB.cls DB.obj DB.init DB.fn GB (hr.mono (by decide)) DB.b rfl av (U aq ae))) ay) (aa (aK (aw XP.G (hr.mono (by decide)) rfl XP.m XP.k XP.b .nil av.passes (U (ar (pv 0) rfl) (U (pv 4) ae)))) (aa (aD (i:=5) Ny.nd rfl (Or.inl rfl) (b_ (ar (pv 0) rfl) TS.cl XT.me XT.G (hr.mono (by decide)) XT.b .nil aS)) (aa (a7 (pv 5) (aw XR.G (hr.mono (by decide)) rfl XR.m XR.k XR.b .nil aS (U (ar (pv 5) rfl) (U (pv 1) (U (w6 XG.M XG.G (hr.mono (by decide)) rfl XG.m XG.b .nil aS (U (pv 2) (U (pv 3) (U (aQ (U (aQ (U (ar (pv 5) rfl) (U (pv 4) ae))) ae)) ae)))) ae)))) rfl) (ai (aK (ck (pv 0) T.cl XS.me XS.G (hr.mono (by decide)) XS.b .nil aS (U (aQ (eA aq (eA (pv 1) (eA (pv 2) (eA (pv 3) (eA (pv 4) ae)))))) (U (pv 5) ae))))))))))),?_⟩
  refine⟨_,rfl,a.h,c.H,a.dx,_,_,rfl,hh.gh,T.cl,T.n2,rfl,a.s.st,c.S,a.s.sx,_,_,rfl,hh.st.gs,TS.cl,TS.n3,rfl,_,rfl,a.s.th,_,z,rfl,RP,hz,fun e=>?_,fun e1 e2=>?_,fun e1 e2 H1 s1=>?_⟩
  ·exact kw _ (by unfold jP;rw[if_pos e]) (by left)
  ·rw[vt] at e2
   exact kw _ (by unfold jP;rw[if_neg (by rw[e1];exact fun z=>nomatch z),if_pos e2]) (by left)
  rw[vt] at e2
  have pw:jP M z k r ho=if ¬ (k = "necklace" \/ k = "armring") then ("bad kind" : Str) else if ¬ (1<=r/\r<=1000000) then ("bad rank" : Str) else if (bc M.pe ho).isSome=false then ("no person" : Str) else ("" : Str):=by
   unfold jP
   rw[if_neg (by rw[e1];exact fun z=>nomatch z),if_neg (by rw[e2];exact Bool.false_ne_true)]
  refine⟨_,rfl,k,rfl,fun hk=>(kw _ (pw.trans (if_pos hk)) (by left)).mono s1,fun hk H2 s2=>?_⟩
  rw[if_neg (fun z=>z hk)] at pw
  have Nz:=s1.trans s2
  refine⟨_,rfl,r,rfl,_,rfl,?_⟩
  by_cases c1:1<=r/\r<=1000000
  case neg =>
   rw[decide_eq_false c1]
   exact cH ⟨_,rfl,by left,(kw _ (pw.trans (if_pos c1)) (by left)).to Nz⟩
  rw[decide_eq_true c1]
  rw[if_neg (fun z=>z c1)] at pw
  refine cx ?_
  have h2:=hh.same Nz
  refine⟨_,rfl,a.h,c.H,a.dx,_,_,rfl,h2.gh,T.cl,T.n2,rfl,_,rfl,a.s,a.sd,M,ho,rfl,h2.st,fun e=>(kw _ (pw.trans (if_pos e)) (by left)).mono Nz,fun e=>?_⟩
  have kD:=(kD (pw.trans (if_neg (by rw[e];exact fun z=>nomatch z)))).from Nz
  refine⟨_,rfl,a.h,c.H,a.dx,_,_,rfl,h2.gh,T.cl,T.n2,rfl,a.s.st,a.s.sx,_,rfl,h2.st.gs,rfl,a.s.st,a.s.sx,_,_,_,_,_,_,_,rfl,h2.st.gs,fun y dy H3 s3 ny gy=>?_⟩
  refine⟨_,rfl,y,c.S,dy,_,_,rfl,gy,TS.cl,TS.n3,rfl,_,rfl,_,rfl,_,rfl,_,rfl,y,c.S,dy,_,_,rfl,gy,TS.cl,TS.n7,rfl,_,rfl,by show 2<=sizeLine;decide,fun p1 Wo=>⟨by show 1<=sizeLine;decide,fun p2 KS=>?_⟩⟩
  have s4:ak H3 (upd H3 p1 (.tup [.int M.now,.str ho])):=ak.new Wo
  have g1:upd H3 p1 (.tup [.int M.now,.str ho]) p1=some (.tup [.int M.now,.str ho]):=af
  generalize upd H3 p1 (.tup [.int M.now,.str ho])=H4 at s4 g1 KS
  have s5:ak H4 (upd H4 p2 (.tup [.ref p1])):=ak.new KS
  have g2:upd H4 p2 (.tup [.ref p1]) p2=some (.tup [.ref p1]):=af
  generalize upd H4 p2 (.tup [.ref p1])=H5 at s5 g2
  refine fun x PD hx xq nx=>⟨x,PD,_,_,_,rfl,af,fun H6 g6 o6=>⟨rfl,?_⟩⟩
  have s6:ak H5 H6:=fun b u e=>o6 b u (ah e hx) (by rw[aj (ah e hx),aj (ah e xq)];exact e)
  have RX:=s4.trans (s5.trans s6)
  have RY:=s3.trans RX
  have s06:=Nz.trans RY
  refine⟨a.s.th,rt,Sum.inr z,.ref x,rfl,s06 _ _ RP,by rw[RZ.len];exact Nat.le_trans lm.th (by decide),fun p7 H7 s7 ZG ZH=>?_⟩
  refine⟨_,rfl,y,c.S,dy,_,rfl,s7 _ _ (RX _ _ gy),TS.cl,TS.n3,by show 7<1000;decide,?_⟩
  generalize hG:upd H7 y _=H8
  have ZO:ak H2 H8:=by rw[<- hG];exact(RY.trans s7).put ny
  have o8:∀ b u,b≠y->H7 b=some u->H8 b=some u:=fun b u hb e=>by rw[<- hG,aj hb];exact e
  have ZJ:H8 y=some (.ins c.S dy (sF (.ref a.s.pe) (.ref a.s.bo) (.ref p7) (.ref a.s.fl) (.ref a.s.gi) (.ref a.s.pr) (.int M.now))):=by rw[<- hG];exact af
  clear hG
  have ZK:p7≠y:=(ah (RX _ _ gy) ZG).symm
  have nyx:x≠y:=(ah (s5 _ _ (s4 _ _ gy)) hx).symm
  have ny2:p2≠y:=(ah (s4 _ _ gy) KS).symm
  have ny1:p1≠y:=(ah gy Wo).symm
  have s57:=s6.trans s7
  have tn:nH c H8 (.ref x) ⟨Md k,r,[(M.now,ho)]⟩:=⟨x,PD,p2,[p1],rfl,by rw[o8 _ _ nyx (s7 _ _ g6)];show some (HO.ins c.T PD [("kind",.str k),("made",.int r),("line",.ref p2)])=some (HO.ins c.T PD [("kind",.str (kS (Md k))),("made",.int r),("line",.ref p2)]);rw[Qu hk],o8 _ _ ny2 (s57 _ _ g2),.cons (o8 _ _ ny1 (s57 _ _ (s5 _ _ g1))) .nil⟩
  have h8:=h2.same ZO
  have s08:=Nz.trans ZO
  have ZM:l4 c a.sd H8 { a.s with st:=y,sx:=dy,th:=p7 } { M with th:=oS M.th z ⟨Md k,r,[(M.now,ho)]⟩ }:=⟨ZJ,h8.st.ER,h8.st.Ke,⟨_,o8 _ _ ZK ZH,cY.put nI (RZ.mono fun v t z=>z.same s08) z tn⟩,h8.st.Kg,h8.st.Ln,h8.st.Lo⟩
  refine⟨_,rfl,a.h,a.dx,_,rfl,h8.gh,rfl,_,rfl,_,rfl,_,rfl,_,rfl,by show 5<=sizeLine;decide,fun L hL=>⟨_,rfl,?_⟩⟩
  have s9:ak H8 (upd H8 L (.tup [.str "make",.str z,.str k,.int r,.str ho])):=ak.new hL
  exact⟨a,n,M,so,{ a.s with st:=y,sx:=dy,th:=p7 },_,L,_,rfl,h8.same s9,Nat.le_trans lm.so (by decide),ZM.same s9,af,kD.from (ZO.trans s9)⟩
theorem DO{n i:Int}(h1:n<=20)(hi:Ig n i):Tn (.int i) (Str.ofString (toString i))/\(Str.ofString (toString i)).length<=100:=by
 have h2:=hi.1
 have h3:=hi.2
 obtain⟨m,rfl⟩:=Int.eq_ofNat_of_zero_le h2
 refine⟨.int _ ?_,Nat.le_trans (PyProof.Rows.toString_length_le h2 (by decide) (show(m:Int)<10 ^ 2 by omega)) (by decide)⟩
 have:(m:Int).natAbs=m:=rfl
 rw[this]
 by_cases z:m=0
 ·subst z;left
 ·have:m.log2<6:=(Nat.log2_lt z).mpr (by omega)
  omega
theorem Qy{σ:St}{b:Bool}{Q:VK}{H:Hp}{t:Int}(h:Q (.int t) H)(e:t=if b=true then 1 else -1):if b=true then tC (.int 1) σ H Q else tUn (rU fun i=>V.int (-i)) (tC (.int 1)) σ H Q:=by
 cases b with
 | true=>subst e;exact cH h
 | false=>subst e;exact cx ⟨1,rfl,h⟩
def zW(z:Str):Int:=if z = "forward" then 1 else -1
def qp(n:Int)(M:Hs)(i:Int)(z:Str):Str:=if ¬ (0<=i/\i<n) then "no island" else if ¬ (z = "forward" \/ z = "backward") then "bad way" else if (bc M.fl i).isSome=true then "away" else ""
abbrev IZ:Stmt:=inClass (top 83) 5
abbrev U9:List Str:=["self", "island", "way", "after"]
theorem I0:au U9 ["self", "island", "way"] (ao IZ):=by right
abbrev BQ:List Str:=["self", "island", "way"]
def BR(c:Ct)(er:Str->Addr):Sp:=fun vs H Q E=>∃ (a:HA) (n:Int) (M:Hs) (so:List (List V)) (i:Int) (z:Str),vs=[.ref a.h,.int i,.str z]/\ug c H a n M so/\ES n M so/\(qp n M i z ≠ "" -> bX E H (er (qp n M i z)) (qp n M i z))/\(qp n M i z = "" -> Done c H a n { M with fl:=oS M.fl i ((i+zW z)%n) } so [.str "sail",.int i,.str z] Q .bY)
theorem Me{c:Ct}{er:Str->Addr}{cR fR cB fA f fL fC fT fO fRw fS:Addr}{gI Iy fd Fl Wl xN F8 ZP rK:FuncData}(F:d_ K "sail" "House.sail" IZ f fd)(T:oX K mg c.H)(TS:iS K mg c.S)(Wq:Pp mg)(ET:gC K mg cR fR gI)(D:cb K mg cR "Away" "away" (er "away") fA Iy)
  (XL:Fc P w K mg base (bu P w) 4 "check_island" fL Fl ["islands", "island"] (um (er "no island"))) (XC:Fc P w K mg base (bu P w) 4 "check_way" fC Wl Pq (Pr (er "bad way"))) (XT:Mc P w K mg base aY 3 c.S "twin" fT xN zN (zO c.S))
  (XO:Fc P w K mg base (bu P w) 5 "onward" fO F8 ["islands", "island", "steps"] (Pl cB (er "no island"))) (XR:Fc P w K mg base aY 1 "with_row" fRw ZP vz Fm) (XS:Mc P w K mg base aY 1 c.H "stand" fS rK zP (zQ c)):aE P w K mg base (bu P w) 6 f fd BQ (BR c er):=by
 obtain⟨tN,hN⟩:=Wq.fw
 have GI:aE P w K mg base aY 2 fA Iy _ (cJ (er "away") "away"):=g_ ET D
 refine F.d.kQ I0 (fun vs H Q E h=>?_) (fun bJ A outer s H vs Q E hr h=>?_)
 ·obtain⟨a,n,M,so,i,z,rfl,_⟩:=h
  rfl
 ·obtain⟨a,n,M,so,i,z,rfl,hh,lm,kE,kD⟩:=h
  have kw:∀ wd:Str,qp n M i z=wd->wd ≠ "" -> bX E H (er wd) wd:=fun wd e h=>by rw[<- e];exact kE (by rw[e];exact h)
  have hu:=gc hr
  have hb:¬ bad n:=fun z=>by have:=lm.n3;have:=lm.Wd;rcases z with z | z<;>omega
  refine⟨_,(aa (aK (aw XL.G (hr.mono (by decide)) rfl XL.m XL.k XL.b .nil av.passes (U (ar (pv 0) rfl) (U (pv 1) ae)))) (aa (aK (aw XC.G (hr.mono (by decide)) rfl XC.m XC.k XC.b .nil av.passes (U (pv 2) ae))) (aa (aP (cg (A6 hu (pv 1) (ar (ar (pv 0) rfl) rfl))) (ai (aW rfl D.m D.cls D.obj D.init D.fn GI (hr.mono (by decide)) D.b rfl av (U (c7 (aB aq (aB (bR (pv 1)) (aB aq eU)))) ae))) ay) (aa (aD (i:=3) I0.nd rfl (Or.inl rfl) (b_ (ar (pv 0) rfl) TS.cl XT.me XT.G (hr.mono (by decide)) XT.b .nil aS)) (aa (a7 (pv 3) (aw XR.G (hr.mono (by decide)) rfl XR.m XR.k XR.b .nil aS (U (ar (pv 3) rfl) (U (pv 1) (U (aw XO.G (hr.mono (by decide)) rfl XO.m XO.k XO.b .nil av.passes (U (ar (pv 0) rfl) (U (pv 1) (U (tE (aG dH (pv 2) (aX (v:=.str "forward") rfl hN ⟨_,rfl⟩) (aN _)) az (MV Gr az)) ae)))) ae)))) rfl) (ai (aK (ck (pv 0) T.cl XS.me XS.G (hr.mono (by decide)) XS.b .nil aS (U (aQ (U aq (U (pv 1) (U (pv 2) ae)))) (U (pv 3) ae)))))))))),?_⟩
  refine⟨_,rfl,a.h,c.H,a.dx,_,_,rfl,hh.gh,T.cl,T.n1,rfl,_,rfl,n,i,rfl,fun hi=>(kw _ (if_pos hi) (by left)).to (ak.refl _),fun hi=>?_⟩
  have pw:qp n M i z=if ¬ (z = "forward" \/ z = "backward") then ("bad way" : Str) else if (bc M.fl i).isSome=true then ("away" : Str) else ("" : Str):=if_neg (fun z=>z hi)
  refine⟨_,rfl,z,rfl,fun hz=>kw _ (pw.trans (if_pos hz)) (by left),fun hz H1 s1=>?_⟩
  rw[if_neg (fun q=>q hz)] at pw
  have h1:=hh.same s1
  refine⟨_,rfl,_,rfl,a.h,c.H,a.dx,_,_,rfl,h1.gh,T.cl,T.n2,rfl,a.s.st,c.S,a.s.sx,_,_,rfl,h1.st.gs,TS.cl,TS.n4,rfl,a.s.fl,_,rfl,BO h1.st i,_,rfl,?_⟩
  rw[map_some]
  refine eg (fun q=>?_) (fun q=>?_)
  ·obtain⟨f1,f2⟩:=DO lm.Wd hi
   have m1:=ml l0 (y := "the fleet of island ") (by left)
   have m2:=ml m1 f2
   have m3:=ml m2 (y := " is away") (by left)
   exact⟨_,rfl,fV m1,_,rfl,_,f1,_,rfl,fV m2,_,rfl,fV m3,fV m3,_,rfl,BM m3,(kw _ (pw.trans (if_pos q)) (by left)).to s1⟩
  have kD:=(kD (pw.trans (if_neg q))).from s1
  refine⟨_,rfl,a.h,c.H,a.dx,_,_,rfl,h1.gh,T.cl,T.n2,rfl,a.s.st,a.s.sx,_,rfl,h1.st.gs,rfl,a.s.st,a.s.sx,_,_,_,_,_,_,_,rfl,h1.st.gs,fun y dy H2 s2 ny gy=>?_⟩
  have h2:=h1.same s2
  refine⟨_,rfl,y,c.S,dy,_,_,rfl,gy,TS.cl,TS.n4,rfl,_,rfl,_,rfl,a.h,c.H,a.dx,_,_,rfl,h2.gh,T.cl,T.n1,rfl,_,rfl,_,rfl,rfl,_,rfl,Qy (t:=zW z) ?_ ?_⟩
  case refine_2 =>
   unfold zW
   by_cases hf:z = "forward"
   ·rw[if_pos hf,if_pos (decide_eq_true (by rw[hf]))]
   ·rw[if_neg hf,if_neg (fun e=>hf (V.str.inj (of_decide_eq_true e)))]
  refine⟨n,i,_,rfl,fun z=>absurd z hb,fun _ z=>absurd hi z,fun _ _=>⟨a.s.fl,O6 M.fl,Sum.inl i,.int ((i+zW z)%n),rfl,h2.st.Kg,by rw[Ly];exact Nat.le_trans lm.fl (by decide),fun p H3 s3 np gp=>?_⟩⟩
  have Zz:y≠p:=ah gy np
  refine⟨_,rfl,y,c.S,dy,_,rfl,s3 _ _ gy,TS.cl,TS.n4,by show 7<1000;decide,?_⟩
  generalize hG:upd H3 y _=H4
  have Nw:ak H1 H4:=by rw[<- hG];exact(s2.trans s3).put ny
  have U8:H4 y=some (.ins c.S dy (sF (.ref a.s.pe) (.ref a.s.bo) (.ref a.s.th) (.ref p) (.ref a.s.gi) (.ref a.s.pr) (.int M.now))):=by rw[<- hG];exact af
  have ZA:H4 p=some (.dK (O6 (oS M.fl i ((i+zW z)%n)))):=by rw[<- hG,aj Zz.symm,gp,Lw]
  clear hG
  have h4:=h1.same Nw
  have ZC:l4 c a.sd H4 { a.s with st:=y,sx:=dy,fl:=p } { M with fl:=oS M.fl i ((i+zW z)%n) }:=⟨U8,h4.st.ER,h4.st.Ke,h4.st.Kf,ZA,h4.st.Ln,h4.st.Lo⟩
  refine⟨_,rfl,a.h,a.dx,_,rfl,h4.gh,rfl,_,rfl,_,rfl,by show 3<=sizeLine;decide,fun L hL=>⟨_,rfl,?_⟩⟩
  have IU:ak H4 (upd H4 L (.tup [.str "sail",.int i,.str z])):=ak.new hL
  exact⟨a,n,M,so,{ a.s with st:=y,sx:=dy,fl:=p },_,L,_,rfl,h4.same IU,Nat.le_trans lm.so (by decide),ZC.same IU,af,kD.from (Nw.trans IU)⟩
def vA(n:Int)(M:Hs)(i:Int):Str:=if ¬ (0<=i/\i<n) then "no island" else if (bc M.fl i).isSome=false then "not away" else ""
abbrev I_:Stmt:=inClass (top 83) 6
abbrev U_:List Str:=["self", "island", "after"]
theorem Qz:au U_ ["self", "island"] (ao I_):=by right
abbrev BS:List Str:=["self", "island"]
def BU(c:Ct)(er:Str->Addr):Sp:=fun vs H Q E=>∃ (a:HA) (n:Int) (M:Hs) (so:List (List V)) (i:Int),vs=[.ref a.h,.int i]/\ug c H a n M so/\ES n M so/\vA n M i ≠ "" /\ bX E H (er (vA n M i)) (vA n M i)
theorem Mf{c:Ct}{er:Str->Addr}{cR fR fA f fL:Addr}{gI Iy fd Fl:FuncData}(F:d_ K "home" "House.home" I_ f fd)(T:oX K mg c.H)(TS:iS K mg c.S)(ET:gC K mg cR fR gI)(D:cb K mg cR "NotAway" "not away" (er "not away") fA Iy)
  (XL:Fc P w K mg base (bu P w) 4 "check_island" fL Fl ["islands", "island"] (um (er "no island"))):aE P w K mg base (bu P w) 5 f fd BS (BU c er):=by
 have GI:aE P w K mg base aY 2 fA Iy _ (cJ (er "not away") "not away"):=g_ ET D
 refine F.d.kQ Qz (fun vs H Q E h=>?_) (fun bJ A outer s H vs Q E hr h=>?_)
 ·obtain⟨a,n,M,so,i,rfl,_⟩:=h
  rfl
 ·obtain⟨a,n,M,so,i,rfl,h1,lm,hw,kE⟩:=h
  have kw:∀ wd:Str,vA n M i=wd->bX E H (er wd) wd:=fun wd e=>by rw[<- e];exact kE
  have hu:=gc hr
  refine⟨_,(aa (aK (aw XL.G (hr.mono (by decide)) rfl XL.m XL.k XL.b .nil av.passes (U (ar (pv 0) rfl) (U (pv 1) ae)))) (aa (aP (cg (gf hu (pv 1) (ar (ar (pv 0) rfl) rfl))) (ai (aW rfl D.m D.cls D.obj D.init D.fn GI (hr.mono (by decide)) D.b rfl av (U (c7 (aB aq (aB (bR (pv 1)) (aB aq eU)))) ae))) ay) (aa b9 (aa b9 (ai b9))))),?_⟩
  refine⟨_,rfl,a.h,c.H,a.dx,_,_,rfl,h1.gh,T.cl,T.n1,rfl,_,rfl,n,i,rfl,fun hi=>(kw _ (if_pos hi)).to (ak.refl _),fun hi=>?_⟩
  have pw:vA n M i=if (bc M.fl i).isSome=false then ("not away" : Str) else ("" : Str):=if_neg (fun z=>z hi)
  refine⟨_,rfl,_,rfl,a.h,c.H,a.dx,_,_,rfl,h1.gh,T.cl,T.n2,rfl,a.s.st,c.S,a.s.sx,_,_,rfl,h1.st.gs,TS.cl,TS.n4,rfl,a.s.fl,_,rfl,BO h1.st i,_,rfl,?_⟩
  rw[map_some]
  cases e:(bc M.fl i).isSome with
  | true=>exact absurd (pw.trans (if_neg (by rw[e];exact fun z=>nomatch z))) hw
  | false =>
   obtain⟨f1,f2⟩:=DO lm.Wd hi
   have m1:=ml l0 (y := "the fleet of island ") (by left)
   have m2:=ml m1 f2
   have m3:=ml m2 (y := " is at home") (by left)
   exact cH ⟨_,rfl,fV m1,_,rfl,_,f1,_,rfl,fV m2,_,rfl,fV m3,fV m3,_,rfl,BM m3,(kw _ (pw.trans (if_pos e))).to (ak.refl _)⟩
def uv(M:Hs)(x y:Str):Str:=if ((bc M.pe x).isSome&&(bc M.pe y).isSome)=false then "no person" else match bc M.bo (x,y) with
 | none => "not partners"
 | some b=>if (b.1.oP b.1.kinds.length).isEmpty=false then "owing" else ""
theorem Ja{c:Ct}{sd:Addr}{H:Hp}{a:SA}{M:Hs}{x y:Str}{p:Addr}{b:de×List Int}(hs:l4 c sd H a M)(hp:H p=some (.tup [.str x,.str y]))(e:bc M.bo (x,y)=some b):∃ v,fj H a.bo (.ref p) (some v)/\Bs c sd H v b:=by
 obtain⟨rb,h1,h2⟩:=hs.Ke
 obtain⟨v,h3,h4⟩:=h2.get xG e
 have:=fj.t (k:=bK (x,y)) h1 hp
 rw[h3] at this
 exact⟨v,this,h4⟩
abbrev Mg:Stmt:=inClass (top 83) 3
abbrev ZQ:List Str:=["self", "behind", "ahead", "pairing", "numbers", "after"]
theorem Jb:au ZQ ["self", "behind", "ahead"] (ao Mg):=by right
abbrev Jc:List Str:=["self", "behind", "ahead"]
def Jd(c:Ct)(er:Str->Addr):Sp:=fun vs H Q E=>∃ (a:HA) (n:Int) (M:Hs) (so:List (List V)) (x y:Str),vs=[.ref a.h,.str x,.str y]/\ug c H a n M so/\ES n M so/\x.length<=100/\y.length<=100/\(∀ b,bc M.bo (x,y)=some b->∃ k,b.1.Len k/\k<=400)/\uv M x y ≠ "" /\ bX E H (er (uv M x y)) (uv M x y)
theorem QA{c:Ct}{er:Str->Addr}{cR fR fO f fP fU:Addr}{gI F8 fd oh ZR:FuncData}(F:d_ K "part" "House.part" Mg f fd)(T:oX K mg c.H)(TS:iS K mg c.S)(TP:ur K mg c.G)(ET:gC K mg cR fR gI)(D:cb K mg cR "Owing" "owing" (er "owing") fO F8)
  (XP:Fc P w K mg base (bu P w) 5 "check_partners" fP oh Iz (IA c (er "no person") (er "not partners"))) (XU:Mc P w K mg base aY 2 c.G "unsettled" fU ZR ["self"] (BK c.G de.oP)):aE P w K mg base (bu P w) 6 f fd Jc (Jd c er):=by
 have GI:aE P w K mg base aY 2 fO F8 _ (cJ (er "owing") "owing"):=g_ ET D
 refine F.d.kQ Jb (fun vs H Q E h=>?_) (fun bJ A outer s H vs Q E hr h=>?_)
 ·obtain⟨a,n,M,so,x,y,rfl,_⟩:=h
  rfl
 ·obtain⟨a,n,M,so,x,y,rfl,hh,lm,hx,hy,hlen,hw,kE⟩:=h
  have kw:∀ wd:Str,uv M x y=wd->bX E H (er wd) wd:=fun wd e=>by rw[<- e];exact kE
  have hu:=gc hr
  have ZS:(A.deeper (PyProof.Rows.envOfC "House.part" (ao Mg) s.heap.objs.size f bJ)).units<cLine:=by omega
  refine⟨_,(aa (aK (aw XP.G (hr.mono (by decide)) rfl XP.m XP.k XP.b .nil av.passes (U (ar (pv 0) rfl) (U (pv 1) (U (pv 2) ae))))) (aa (tH (ig hu (ar (ar (pv 0) rfl) rfl) (aQ (U (pv 1) (U (pv 2) ae))) (fun _ _=>rfl)) (nj rfl (bC (bz (i:=3) Jb.nd rfl (Or.inl rfl)) (bC (bz (i:=4) Jb.nd rfl (Or.inl rfl)) j9)))) (aa (aP (aG (wu ZS) (b_ (pv 3) TP.cl XU.me XU.G (hr.mono (by decide)) XU.b .nil aS) lZ (aN _)) (ai (aW rfl D.m D.cls D.obj D.init D.fn GI (hr.mono (by decide)) D.b rfl av (U (c7 (aB aq (aB (bR (pv 1)) (aB aq (aB (bR (pv 2)) (aB aq eU)))))) ae))) ay) (aa b9 (aa b9 (ai b9)))))),?_⟩
  refine⟨_,rfl,a.h,c.H,a.dx,_,_,rfl,hh.gh,T.cl,T.n2,rfl,_,rfl,_,rfl,a.s,a.sd,M,x,y,rfl,hh.st,hx,hy,fun e=>kw _ (if_pos e),fun e1 e2=>kw _ ?_,fun e1 e2 H1 s1=>?_⟩
  ·unfold uv
   rw[if_neg (by rw[e1];exact fun z=>nomatch z)]
   cases e:bc M.bo (x,y) with
   | none=>rfl
   | some b=>rw[e] at e2;cases e2
  obtain⟨b,eb⟩:=Option.isSome_iff_exists.mp e2
  have pw:uv M x y=if (b.1.oP b.1.kinds.length).isEmpty=false then ("owing" : Str) else ("" : Str):=by
   unfold uv
   rw[if_neg (by rw[e1];exact fun z=>nomatch z),eb]
  obtain⟨k,pl,hk⟩:=hlen b eb
  have h1:=hh.same s1
  refine⟨_,rfl,a.h,c.H,a.dx,_,_,rfl,h1.gh,T.cl,T.n2,rfl,a.s.st,c.S,a.s.sx,_,_,rfl,h1.st.gs,TS.cl,TS.n2,rfl,_,rfl,_,rfl,by show 2<=sizeLine;decide,fun p hp=>?_⟩
  have s2:ak H1 (upd H1 p (.tup [.str x,.str y])):=ak.new hp
  have h2:=h1.same s2
  obtain⟨v,gv,t,pa,nt,rfl,g1,g2,g3,_⟩:=Ja (x:=x) (y:=y) h2.st af eb
  generalize upd H1 p (.tup [.str x,.str y])=H2 at s2 h2 gv g1 g2 g3
  refine⟨a.s.bo,_,rfl,gv,t,_,rfl,bV.of g1,rfl,_,_,rfl,_,_,rfl,rfl,?_⟩
  refine⟨_,rfl,pa.x,pa.dx,_,rfl,g2.x,rfl,pa,b.1,k,rfl,g2,pl,hk,fun D H3 fr s3 gD=>⟨Nat.zero_le _,fun q hq=>?_⟩⟩
  refine⟨D,q,_,rfl,rfl,bx.of (ak.new hq _ _ gD),bx.of af,_,rfl,?_⟩
  cases e:(b.1.oP k).isEmpty with
  | true=>exact absurd (pw.trans (if_neg (by rw[pl.k,e];exact fun z=>nomatch z))) hw
  | false =>
   have m1:=ml l0 (y := "a gift between ") (by left)
   have m2:=ml m1 hx
   have m3:=ml m2 (y := " and ") (by left)
   have m4:=ml m3 hy
   have m5:=ml m4 (y := " is not answered") (by left)
   refine iL ?_ ⟨_,rfl,fV m1,_,rfl,_,.str _ (wG hx),_,rfl,fV m2,_,rfl,fV m3,_,rfl,_,.str _ (wG hy),_,rfl,fV m4,_,rfl,fV m5,fV m5,_,rfl,BM m5,(kw _ (pw.trans (if_pos (by rw[pl.k];exact e)))).to (s1.trans (s2.trans (s3.trans (ak.new hq))))⟩
   cases hq:b.1.oP k with
   | nil=>rw[hq] at e;cases e
   | cons z r=>rfl
def F_(n:Int)(t:Th):Int:=t.made+((t.line.length:Int) - 1) / n
abbrev ZT:Stmt:=top 57
abbrev nRN:List Str:=["islands", "thing"]
theorem ZU:au nRN ["islands", "thing"] (ao ZT):=by right
abbrev QB:List Str:=["islands", "thing"]
def QC(c:Ct):Sp:=fun vs H Q _=>∃ (n:Int) (v:V) (t:Th),vs=[.int n,v]/\nH c H v t/\¬ bad n/\Q (.int (F_ n t)) H
theorem U'{c:Ct}{cB f fO fS:Addr}{fd F8 rK:FuncData}(F:d_ K "rank_now" "rank_now" ZT f fd)(TT:xJ K mg c.T)(XO:Fc P w K mg base (bu P w) 5 "rounds_in" fO F8 ["islands", "steps"] (Po cB))(XS:Mc P w K mg base aY 1 c.T "steps" fS rK Px (Py c)):aE P w K mg base (bu P w) 6 f fd QB (QC c):=by
 refine F.d.kQ ZU (fun vs H Q E h=>?_) (fun bJ A outer s H vs Q E hr h=>?_)
 ·obtain⟨n,v,t,rfl,_⟩:=h
  rfl
 ·obtain⟨n,v,t,rfl,tv,hb,q⟩:=h
  obtain⟨ta,Bt,tl,Zl,rfl,Fs,Zm,Zn⟩:=id tv
  refine⟨_,(ai (aI (bb i0 (ar (pv 1) rfl) (aw XO.G (hr.mono (by decide)) rfl XO.m XO.k XO.b .nil av.passes (U (pv 0) (U (b_ (pv 1) TT.cl XS.me XS.G (hr.mono (by decide)) XS.b .nil aS) ae)))))),?_⟩
  refine⟨_,rfl,ta,c.T,Bt,_,_,rfl,Fs,TT.cl,TT.n2,rfl,_,rfl,_,rfl,ta,Bt,_,rfl,Fs,rfl,_,t,rfl,tv,n,_,rfl,fun z=>absurd z hb,fun _=>⟨_,_,rfl,rfl,q⟩⟩
abbrev ZV:Stmt:=top 60
abbrev nPK:List Str:=["promises", "number", "thing", "maker", "receiver", "last", "how"]
theorem ZW:au nPK ["promises", "number"] (ao ZV):=by right
abbrev QD:List Str:=["promises", "number"]
def QE:Sp:=fun vs H Q _=>∃ p,vs=[p,.bY]/\Q p H
theorem Va{f:Addr}{fd:FuncData}(F:d_ K "with_promise_kept" "with_promise_kept" ZV f fd):aE P w K mg base aY 1 f fd QD QE:=by
 refine F.ok ZW (fun vs H Q E h=>?_) (fun bJ A outer s H vs Q E hr h=>?_)
 ·obtain⟨p,rfl,_⟩:=h
  rfl
 ·obtain⟨p,rfl,q⟩:=h
  refine⟨_,(aa (aP (cg (jC (pv 1))) (ai (aI (pv 0))) ay) (aa b9 (ai b9))),?_⟩
  refine⟨_,rfl,_,rfl,?_⟩
  exact iL (by decide) ⟨_,rfl,q⟩
def Je(n:Int)(M:Hs)(nm r z:Str)(t:Th)(b:de×List Int)(p':de):Hs:={ M with bo:=oS M.bo (gJ t.kd z r) (p',b.2++[(M.gi.length:Int)]),gi:=M.gi++[⟨M.gi.length,nm,z,r,M.now,F_ n t⟩],th:=oS M.th nm { t with line:=t.line++[(M.now,r)] } }
theorem Vb(b:Bool):Nl (kS b):=by
 cases b
 ·exact .inr rfl
 ·exact .inl rfl
abbrev ZX:Stmt:=top 81
abbrev nWG:List Str:=["islands", "state", "name", "receiver", "thing", "giver", "number", "rank", "bond", "earlier", "numbers", "pairing", "after"]
theorem vB:au nWG ["islands", "state", "name", "receiver"] (ao ZX):=by right
abbrev QF:List Str:=["islands", "state", "name", "receiver"]
structure R0(n:Int)(M:Hs)(nm r:Str)(t:Th)(z:Str)(b:de×List Int)(k:Nat):Prop where
 n3:¬ bad n
 bo:M.bo.length<=1
 th:M.th.length<=100
 gi:M.gi.length<=100
 et:bc M.th nm=some t
 ez:t.hold=some z
 tl:t.line.length<=100
 rk:1<=F_ n t
 eb:bc M.bo (gJ t.kd z r)=some b
 v:Val b.1 k
 hk:k<400
 bl:b.2.length<=100
 pr:stN M.pr nm=none
def QG(c:Ct):Sp:=fun vs H Q _=>∃ (n:Int) (a:SA) (sd:Addr) (M:Hs) (nm r:Str) (t:Th) (z:Str) (b:de×List Int) (k:Nat),vs=[.int n,.ref a.st,.str nm,.str r]/\l4 c sd H a M/\(H sd).isSome=true/\R0 n M nm r t z b k/\∀ p' a2 H',ju (b.1.plus t.kd (F_ n t)) (k+1) k p'->ak H H'->l4 c sd H' a2 (Je n M nm r z t b p')->Q (.ref a2.st) H'
theorem Vc{c:Ct}{cK cQ f fH fR fB fT fA fS fW fP fK fN:Addr}{fd Qe gI sI xN Iy rK DD oh Qx yB:FuncData}(ok2:c.We)(F:d_ K "with_gift" "with_gift" ZX f fd)(TS:iS K mg c.S)(TT:xJ K mg c.T)(TP:ur K mg c.G)(L:lD mg)
  (XH:Mc P w K mg base aY 1 c.T "holder" fH Qe Ij (Ik c)) (XR:Fc P w K mg base (bu P w) 6 "rank_now" fR gI QB (QC c)) (XB:Fc P w K mg base aY 1 "bond_for" fB sI Ma Mb) (XT:Mc P w K mg base aY 3 c.G "twin" fT xN ["self"] (BL c.G)) (XA:Mc P w K mg base (bu P w) 5 c.G "add" fA Iy ["self", "kind", "rank"] (Ip c.G cK cQ)) (XS:Mc P w K mg base aY 3 c.S "twin" fS rK zN (zO c.S))
  (XW:Fc P w K mg base aY 1 "with_row" fW DD vz Fm) (XV:Fc P w K mg base aY 1 "with_row" fW DD vz DE) (XP:Mc P w K mg base aY 3 c.T "passed" fP oh Pz (PB c)) (XK:Fc P w K mg base aY 1 "with_promise_kept" fK Qx QD QE) (XN:Fc P w K mg base aY 1 "standing_promise" fN yB IJ (IK c)):aE P w K mg base (bu P w) 7 f fd QF (QG c):=by
 refine F.d.kQ vB (fun vs H Q E h=>?_) (fun bJ A outer s H vs Q E hr h=>?_)
 ·obtain⟨n,a,sd,M,nm,r,t,z,b,k,rfl,_⟩:=h
  rfl
 ·obtain⟨n,a,sd,M,nm,r,t,z,b,k,rfl,hs,ZY,G,q⟩:=h
  have hu:=gc hr
  obtain⟨v,gv,tv⟩:=BN hs G.et
  obtain⟨ta,Bt,tl,Zl,rfl,Fs,Zm,Zn⟩:=id tv
  obtain⟨ts,Wr,Ws⟩:=hs.Ln
  have Il:ts.length=M.gi.length:=by rw[Paired.length Ws,List.length_map]
  refine⟨_,(aa (aD (i:=4) vB.nd rfl (Or.inl rfl) (ig hu (ar (pv 1) rfl) (pv 2) (fun _ _=>rfl))) (aa (aD (i:=5) vB.nd rfl (Or.inl rfl) (b_ (pv 4) TT.cl XH.me XH.G (hr.mono (by decide)) XH.b .nil aS)) (aa (aD (i:=6) vB.nd rfl (Or.inl rfl) (aA aT rfl L.len PySem.boot_len (U (ar (pv 1) rfl) ae))) (aa (aD (i:=7) vB.nd rfl (Or.inl rfl) (aw XR.G (hr.mono (by decide)) rfl XR.m XR.k XR.b .nil av.passes (U (pv 0) (U (pv 4) ae)))) (aa (aD (i:=8) vB.nd rfl (Or.inl rfl) (aw XB.G (hr.mono (by decide)) rfl XB.m XB.k XB.b .nil aS (U (ar (pv 4) rfl) (U (pv 5) (U (pv 3) ae))))) (aa (tH (ig hu (ar (pv 1) rfl) (pv 8) (fun _ _=>rfl)) (nj rfl (bC (bz (i:=9) vB.nd rfl (Or.inl rfl)) (bC (bz (i:=10) vB.nd rfl (Or.inl rfl)) j9)))) (aa (aD (i:=11) vB.nd rfl (Or.inl rfl) (b_ (pv 9) TP.cl XT.me XT.G (hr.mono (by decide)) XT.b .nil aS)) (aa (aK (ck (pv 11) TP.cl XA.me XA.G (hr.mono (by decide)) XA.b .nil av.passes (U (ar (pv 4) rfl) (U (pv 7) ae)))) (aa (aD (i:=12) vB.nd rfl (Or.inl rfl) (b_ (pv 1) TS.cl XS.me XS.G (hr.mono (by decide)) XS.b .nil aS)) (aa (a7 (pv 12) (aw XV.G (hr.mono (by decide)) rfl XV.m XV.k XV.b .nil aS (U (ar (pv 1) rfl) (U (pv 8) (U (aQ (U (pv 11) (U (bb uh (pv 10) (aQ (U (pv 6) ae))) ae))) ae)))) rfl) (aa (a7 (pv 12) (bb uh (ar (pv 1) rfl) (aQ (U (aQ (eA (pv 6) (eA (pv 2) (eA (pv 5) (eA (pv 3) (eA (ar (pv 1) rfl) (eA (pv 7) ae))))))) ae))) rfl) (aa (a7 (pv 12) (aw XW.G (hr.mono (by decide)) rfl XW.m XW.k XW.b .nil aS (U (ar (pv 1) rfl) (U (pv 2) (U (ck (pv 4) TT.cl XP.me XP.G (hr.mono (by decide)) XP.b .nil aS (U (ar (pv 1) rfl) (U (pv 3) ae))) ae)))) rfl) (aa (a7 (pv 12) (aw XK.G (hr.mono (by decide)) rfl XK.m XK.k XK.b .nil aS (U (ar (pv 1) rfl) (U (aw XN.G (hr.mono (by decide)) rfl XN.m XN.k XN.b .nil aS (U (pv 1) (U (pv 2) ae))) ae))) rfl) (ai (aI (pv 12)))))))))))))))),?_⟩
  refine⟨_,rfl,a.st,c.S,a.sx,_,_,rfl,hs.gs,TS.cl,TS.n3,rfl,_,rfl,a.th,_,rfl,gv,?_⟩
  refine⟨_,rfl,ta,Bt,_,rfl,Fs,rfl,_,t,z,rfl,tv,G.ez,?_⟩
  refine⟨_,rfl,a.st,c.S,a.sx,_,_,rfl,hs.gs,TS.cl,TS.n5,rfl,a.gi,_,rfl,.inr (bV.of Wr),?_⟩
  rw[List.length_map,Il]
  refine⟨_,rfl,_,rfl,n,_,t,rfl,tv,G.n3,?_⟩
  refine⟨_,rfl,ta,c.T,Bt,_,_,rfl,Fs,TT.cl,TT.n1,rfl,_,rfl,_,rfl,t.kd,z,r,rfl,fun pb H1 s1 npb gpb=>?_⟩
  have tW:=hs.same s1
  obtain⟨bv,gbv,t0,pa,nt,rfl,b1,b2,b3,b4⟩:=Ja tW gpb G.eb
  refine⟨_,rfl,a.st,c.S,a.sx,_,_,rfl,tW.gs,TS.cl,TS.n2,rfl,_,rfl,a.bo,_,rfl,gbv,t0,_,rfl,bV.of b1,rfl,_,_,rfl,_,_,rfl,rfl,?_⟩
  refine⟨_,rfl,pa.x,pa.dx,_,rfl,b2.x,rfl,pa,b.1,rfl,b2,fun Ft H2 s2 Kj new=>?_⟩
  have Nz:=s1.trans s2
  refine⟨_,rfl,Ft.x,Ft.dx,_,rfl,Kj.x,rfl,_,rfl,ta,c.T,Bt,_,_,rfl,Nz _ _ Fs,TT.cl,TT.n1,rfl,_,rfl,Ft,b.1,k,kS t.kd,F_ n t,rfl,Kj,G.v,G.hk,fun h=>absurd (Vb t.kd) h,fun _ h=>absurd G.rk (by omega),fun kb eb _ p' H3 sb Vd set=>?_⟩
  have ekb:kb=t.kd:=OO eb.symm
  subst ekb
  have Fj:ak H1 H3:=fun b u e=>sb b u (fun z=>by
   simp only[List.mem_cons,List.not_mem_nil,or_false] at z
   rcases z with z | z | z<;>exact ah e (new _ (by simp)) z) (s2 _ _ e)
  have NA:=s1.trans Fj
  have hs3:=hs.same NA
  refine⟨_,rfl,a.st,a.sx,_,rfl,hs3.gs,rfl,a.st,a.sx,_,_,_,_,_,_,_,rfl,hs3.gs,fun y dy H4 s4 ny gy=>?_⟩
  have Nw:=Fj.trans s4
  have R1:=NA.trans s4
  have QH:=hs.same R1
  have Wt:H y=none:=NA.free ny
  have x3:H3 Ft.x=some _:=Vd.x
  refine⟨_,rfl,a.st,c.S,a.sx,_,_,rfl,QH.gs,TS.cl,TS.n2,rfl,_,rfl,_,rfl,_,rfl,_,rfl,by show 1<=sizeLine;decide,fun p1 Wo=>?_⟩
  have s5:ak H4 (upd H4 p1 (.tup [.int (M.gi.length:Nat)])):=ak.new Wo
  have g1:upd H4 p1 (.tup [.int (M.gi.length:Nat)]) p1=some (.tup [.int (M.gi.length:Nat)]):=af
  generalize upd H4 p1 (.tup [.int (M.gi.length:Nat)])=H5 at s5 g1
  refine wC (s5 _ _ (Nw _ _ b3)) g1 (by rw[List.length_map];exact Nat.le_trans (Nat.add_le_add_right G.bl 1) (by decide)) (List.cons_ne_nil _ _) fun qn H6 s6 gqn=>?_
  refine⟨by show 2<=sizeLine;decide,fun q3 ZZ=>?_⟩
  have s7:ak H6 (upd H6 q3 (.tup [.ref Ft.x,.ref qn])):=ak.new ZZ
  have Wu:upd H6 q3 (.tup [.ref Ft.x,.ref qn]) q3=some (.tup [.ref Ft.x,.ref qn]):=af
  generalize upd H6 q3 (.tup [.ref Ft.x,.ref qn])=H7 at s7 Wu
  have Qt:=s5.trans (s6.trans s7)
  have s07:=R1.trans Qt
  obtain⟨rb,Bq,Br⟩:=hs.Ke
  have Z0:H7 pb=some (.tup ((bK (gJ t.kd z r)).map kV)):=Qt _ _ (Nw _ _ gpb)
  refine⟨a.bo,pb,rb,bK (gJ t.kd z r),.ref q3,rfl,s07 _ _ Bq,Z0,by rw[Br.len];exact G.bo,fun p8 H8 s8 np8 Z1=>?_⟩
  refine⟨_,rfl,y,c.S,dy,_,rfl,s8 _ _ (Qt _ _ gy),TS.cl,TS.n2,by show 7<1000;decide,?_⟩
  have bt9:jl c H8 (upd H8 y (.ins c.S dy (sF (.ref a.pe) (.ref p8) (.ref a.th) (.ref a.fl) (.ref a.gi) (.ref a.pr) (.int M.now)))):=jl.upd (s8 _ _ (Qt _ _ gy))
  have Z2:ak H (upd H8 y (.ins c.S dy (sF (.ref a.pe) (.ref p8) (.ref a.th) (.ref a.fl) (.ref a.gi) (.ref a.pr) (.int M.now)))):=(s07.trans s8).put Wt
  have Z3:upd H8 y (.ins c.S dy (sF (.ref a.pe) (.ref p8) (.ref a.th) (.ref a.fl) (.ref a.gi) (.ref a.pr) (.int M.now))) y=some (.ins c.S dy (sF (.ref a.pe) (.ref p8) (.ref a.th) (.ref a.fl) (.ref a.gi) (.ref a.pr) (.int M.now))):=af
  show(fun H9=>_) (upd H8 y (.ins c.S dy (sF (.ref a.pe) (.ref p8) (.ref a.th) (.ref a.fl) (.ref a.gi) (.ref a.pr) (.int M.now))))
  generalize upd H8 y (.ins c.S dy (sF (.ref a.pe) (.ref p8) (.ref a.th) (.ref a.fl) (.ref a.gi) (.ref a.pr) (.int M.now)))=H9 at bt9 Z2 Z3
  have Nt:=hs.same Z2
  refine⟨_,rfl,a.st,c.S,a.sx,_,_,rfl,Nt.gs,TS.cl,TS.n5,rfl,_,rfl,_,rfl,_,rfl,_,rfl,_,rfl,a.st,c.S,a.sx,_,_,rfl,Nt.gs,TS.cl,TS.n7,rfl,_,rfl,by show 6<=sizeLine;decide,fun g6 hg6=>⟨by show 1<=sizeLine;decide,fun g7 hg7=>?_⟩⟩
  have sA:ak H9 (upd H9 g6 (.tup [.int (M.gi.length:Nat),.str nm,.str z,.str r,.int M.now,.int (F_ n t)])):=ak.new hg6
  have gA:upd H9 g6 (.tup [.int (M.gi.length:Nat),.str nm,.str z,.str r,.int M.now,.int (F_ n t)]) g6=some (.tup [.int (M.gi.length:Nat),.str nm,.str z,.str r,.int M.now,.int (F_ n t)]):=af
  generalize upd H9 g6 (.tup [.int (M.gi.length:Nat),.str nm,.str z,.str r,.int M.now,.int (F_ n t)])=HA at sA gA hg7
  have sB:ak HA (upd HA g7 (.tup [.ref g6])):=ak.new hg7
  have gB:upd HA g7 (.tup [.ref g6]) g7=some (.tup [.ref g6]):=af
  generalize upd HA g7 (.tup [.ref g6])=HB at sB gB
  have s0B:=Z2.trans (sA.trans sB)
  refine wC (s0B _ _ Wr) gB (by rw[List.length_map,Il];exact Nat.le_trans (Nat.add_le_add_right G.gi 1) (by decide)) (List.cons_ne_nil _ _) fun qg Kk L_ gqg=>?_
  have Z4:=sA.trans (sB.trans L_)
  refine⟨_,rfl,y,c.S,dy,_,rfl,Z4 _ _ Z3,TS.cl,TS.n5,by show 7<1000;decide,?_⟩
  have Ve:jl c Kk (upd Kk y (.ins c.S dy (sF (.ref a.pe) (.ref p8) (.ref a.th) (.ref a.fl) (.ref qg) (.ref a.pr) (.int M.now)))):=jl.upd (Z4 _ _ Z3)
  have Fu:ak H (upd Kk y (.ins c.S dy (sF (.ref a.pe) (.ref p8) (.ref a.th) (.ref a.fl) (.ref qg) (.ref a.pr) (.int M.now)))):=(s0B.trans L_).put Wt
  have QI:upd Kk y (.ins c.S dy (sF (.ref a.pe) (.ref p8) (.ref a.th) (.ref a.fl) (.ref qg) (.ref a.pr) (.int M.now))) y=some (.ins c.S dy (sF (.ref a.pe) (.ref p8) (.ref a.th) (.ref a.fl) (.ref qg) (.ref a.pr) (.int M.now))):=af
  show(fun H13=>_) (upd Kk y (.ins c.S dy (sF (.ref a.pe) (.ref p8) (.ref a.th) (.ref a.fl) (.ref qg) (.ref a.pr) (.int M.now))))
  generalize upd Kk y (.ins c.S dy (sF (.ref a.pe) (.ref p8) (.ref a.th) (.ref a.fl) (.ref qg) (.ref a.pr) (.int M.now)))=H13 at Ve Fu QI
  have Vf:=hs.same Fu
  obtain⟨rt,RP,RZ⟩:=hs.Kf
  have tne:t.line≠[]:=fun e=>by have:=G.ez;unfold Th.hold at this;rw[e] at this;cases this
  refine⟨_,rfl,a.st,c.S,a.sx,_,_,rfl,Vf.gs,TS.cl,TS.n3,rfl,_,rfl,_,rfl,ta,Bt,_,rfl,Fu _ _ Fs,rfl,_,rfl,a.st,c.S,a.sx,_,_,rfl,Vf.gs,TS.cl,TS.n7,rfl,_,rfl,_,t,M.now,r,rfl,tv.same Fu,tne,Nat.le_trans G.tl (by decide),fun v' Z5 sC R3=>?_⟩
  have Z6:=Fu.trans sC
  refine⟨a.th,rt,Sum.inr nm,v',rfl,Z6 _ _ RP,by rw[RZ.len];exact Nat.le_trans G.th (by decide),fun Fv NB sD ah7 Z7=>?_⟩
  have QJ:=sC.trans sD
  refine⟨_,rfl,y,c.S,dy,_,rfl,QJ _ _ QI,TS.cl,TS.n3,by show 7<1000;decide,?_⟩
  have Vg:jl c NB (upd NB y (.ins c.S dy (sF (.ref a.pe) (.ref p8) (.ref Fv) (.ref a.fl) (.ref qg) (.ref a.pr) (.int M.now)))):=jl.upd (QJ _ _ QI)
  have QK:ak H (upd NB y (.ins c.S dy (sF (.ref a.pe) (.ref p8) (.ref Fv) (.ref a.fl) (.ref qg) (.ref a.pr) (.int M.now)))):=(Fu.trans QJ).put Wt
  have QL:upd NB y (.ins c.S dy (sF (.ref a.pe) (.ref p8) (.ref Fv) (.ref a.fl) (.ref qg) (.ref a.pr) (.int M.now))) y=some (.ins c.S dy (sF (.ref a.pe) (.ref p8) (.ref Fv) (.ref a.fl) (.ref qg) (.ref a.pr) (.int M.now))):=af
  show(fun Z8=>_) (upd NB y (.ins c.S dy (sF (.ref a.pe) (.ref p8) (.ref Fv) (.ref a.fl) (.ref qg) (.ref a.pr) (.int M.now))))
  generalize upd NB y (.ins c.S dy (sF (.ref a.pe) (.ref p8) (.ref Fv) (.ref a.fl) (.ref qg) (.ref a.pr) (.int M.now)))=Z8 at Vg QK QL
  have Vh:=hs.same QK
  refine⟨_,rfl,a.st,c.S,a.sx,_,_,rfl,Vh.gs,TS.cl,TS.n6,rfl,_,rfl,_,rfl,a,sd,M,nm,rfl,Vh,fun QM sE=>?_⟩
  rw[G.pr]
  refine⟨_,rfl,_,rfl,y,c.S,dy,_,rfl,sE _ _ QL,TS.cl,TS.n6,by show 7<1000;decide,?_⟩
  have Vi:jl c QM (upd QM y (.ins c.S dy (sF (.ref a.pe) (.ref p8) (.ref Fv) (.ref a.fl) (.ref qg) (.ref a.pr) (.int M.now)))):=jl.upd (sE _ _ QL)
  have Fw:ak H (upd QM y (.ins c.S dy (sF (.ref a.pe) (.ref p8) (.ref Fv) (.ref a.fl) (.ref qg) (.ref a.pr) (.int M.now)))):=(QK.trans sE).put Wt
  have Vj:upd QM y (.ins c.S dy (sF (.ref a.pe) (.ref p8) (.ref Fv) (.ref a.fl) (.ref qg) (.ref a.pr) (.int M.now))) y=some (.ins c.S dy (sF (.ref a.pe) (.ref p8) (.ref Fv) (.ref a.fl) (.ref qg) (.ref a.pr) (.int M.now))):=af
  show(fun BV=>_) (upd QM y (.ins c.S dy (sF (.ref a.pe) (.ref p8) (.ref Fv) (.ref a.fl) (.ref qg) (.ref a.pr) (.int M.now))))
  generalize upd QM y (.ins c.S dy (sF (.ref a.pe) (.ref p8) (.ref Fv) (.ref a.fl) (.ref qg) (.ref a.pr) (.int M.now)))=BV at Vi Fw Vj
  have QN:=hs.same Fw
  have b68:jl c Z8 BV:=(jl.of sE).trans Vi
  have b58:jl c NB BV:=Vg.trans b68
  have b48:jl c Z5 BV:=(jl.of sD).trans b58
  have Z9:jl c Kk BV:=Ve.trans ((jl.of sC).trans b48)
  have bA8:jl c HA BV:=(jl.of (sB.trans L_)).trans Z9
  have b98:jl c H9 BV:=(jl.of Z4).trans Z9
  have b88:jl c H8 BV:=bt9.trans b98
  have Z_:jl c H7 BV:=(jl.of s8).trans b88
  have b6:jl c H6 BV:=(jl.of s7).trans Z_
  have b38:jl c H3 BV:=(jl.of (s4.trans Qt)).trans Z_
  obtain⟨us,esd⟩:=Option.isSome_iff_exists.mp ZY
  have F9:∀ x∈[Ft.x,Ft.k,Ft.r,Ft.m],x≠sd:=fun x hx=>(ah (s1 _ _ esd) (new x hx)).symm
  have bd:Bs c sd BV (.ref q3) (p',b.2++[(M.gi.length:Int)]):=⟨q3,Ft,qn,rfl,Z_.tup Wu,vf.but ok2 b38 Vd,by rw[b6.tup gqn,List.map_append];rfl,F9 _ (by simp),F9 _ (by simp),F9 _ (by simp)⟩
  refine⟨_,rfl,q p' { a with st:=y,sx:=dy,bo:=p8,gi:=qg,th:=Fv } BV set Fw ⟨Vj,QN.ER,⟨_,b88.dT Z1,cY.put xG (Br.mono fun v t z=>z.same Fw) _ bd⟩,⟨_,b58.dK Z7,cY.put nI (RZ.mono fun v t z=>z.same Fw) nm (nH.but ok2 b48 R3)⟩,QN.Kg,⟨ts++[g6],by rw[Z9.tup gqg,List.map_append];rfl,?_⟩,QN.Lo⟩⟩
  show lC BV (ts++[g6]) ((M.gi++[_]).map Gf.v)
  rw[List.map_append]
  exact PySem.Paired.snoc (Ws.to fun b xs e=>Fw _ _ e) (bA8.tup gA)
def R4(M:Hs)(nm r:Str):Bool:=match bc M.th nm with
 | none=>false
 | some t=>match t.hold with
  | none=>false
  | some z=>match bc M.pe r,bc M.pe z with
   | some i,some j=>decide (bc M.fl i=some j)
   | _,_=>false
def oY(M:Hs)(nm r:Str):Str:=if qo M nm r = "" then (if R4 M nm r=true then "" else "no fleet") else qo M nm r
abbrev QO:Stmt:=inClass (top 83) 7
abbrev Z':List Str:=["self", "thing", "receiver", "number"]
theorem NC:au Z' ["self", "thing", "receiver"] (ao QO):=by right
abbrev Jf:List Str:=["self", "thing", "receiver"]
def Jg(c:Ct)(er:Str->Addr):Sp:=fun vs H Q E=>∃ (a:HA) (n:Int) (M:Hs) (so:List (List V)) (nm r:Str),vs=[.ref a.h,.str nm,.str r]/\ug c H a n M so/\ES n M so/\nm.length<=100/\r.length<=100/\IE M nm/\(qo M nm r = "" -> ∃ t z b k i j,R0 n M nm r t z b k/\z.length<=100/\bc M.pe r=some i/\bc M.pe z=some j)/\(oY M nm r ≠ "" -> bX E H (er (oY M nm r)) (oY M nm r)) /\
 (oY M nm r = "" -> ∀ t z b k p',R0 n M nm r t z b k->ju (b.1.plus t.kd (F_ n t)) (k+1) k p'->Done c H a n (Je n M nm r z t b p') so [.str "give",.str nm,.str r] Q (.int (M.gi.length:Nat)))
theorem QP{c:Ct}{er:Str->Addr}{f fP fF fN fG fS fH:Addr}{fd oh Wm yB DC rK Qe:FuncData}(F:d_ K "give" "House.give" QO f fd)(T:oX K mg c.H)(TS:iS K mg c.S)(TT:xJ K mg c.T)(L:lD mg)(XP:Fc P w K mg base (bu P w) 5 "check_passing" fP oh DL (DM c (er "no thing") (er "no person") (er "not partners") (er "wrong way")))(XF:Fc P w K mg base (bu P w) 4 "check_fleet" fF Wm IG (IH c (er "no fleet")))(XN:Fc P w K mg base (bu P w) 4 "check_not_for_another" fN yB Qj (Qk c))(XG:Fc P w K mg base (bu P w) 7 "with_gift" fG DC QF (QG c))(XS:Mc P w K mg base aY 1 c.H "stand" fS rK zP (zQ c))(XH:Mc P w K mg base aY 1 c.T "holder" fH Qe Ij (Ik c)):aE P w K mg base (bu P w) 8 f fd Jf (Jg c er):=by
 refine F.d.kQ NC (fun vs H Q E h=>?_) (fun bJ A outer s H vs Q E hr h=>?_)
 ·obtain⟨a,n,M,so,nm,r,rfl,_⟩:=h
  rfl
 ·obtain⟨a,n,M,so,nm,r,rfl,hh,lm,hn,IF,hold,gp,kE,kD⟩:=h
  have kw:∀ wd:Str,oY M nm r=wd->wd ≠ "" -> bX E H (er wd) wd:=fun wd e h=>by rw[<- e];exact kE (by rw[e];exact h)
  have kp:∀ wd:Str,qo M nm r=wd->wd ≠ "" -> bX E H (er wd) wd:=fun wd e h=>kw wd (by unfold oY;rw[if_neg (by rw[e];exact h),e]) h
  have hu:=gc hr
  refine⟨_,(aa (aK (aw XP.G (hr.mono (by decide)) rfl XP.m XP.k XP.b .nil av.passes (U (ar (pv 0) rfl) (U (pv 1) (U (pv 2) ae))))) (aa (aK (aw XF.G (hr.mono (by decide)) rfl XF.m XF.k XF.b .nil av.passes (U (ar (pv 0) rfl) (U (b_ (ig hu (ar (ar (pv 0) rfl) rfl) (pv 1) (fun _ _=>rfl)) TT.cl XH.me XH.G (hr.mono (by decide)) XH.b .nil aS) (U (pv 2) ae))))) (aa (aK (aw XN.G (hr.mono (by decide)) rfl XN.m XN.k XN.b .nil av.passes (U (ar (pv 0) rfl) (U (pv 1) (U (pv 2) ae))))) (aa (aD (i:=3) NC.nd rfl (Or.inl rfl) (aA aT rfl L.len PySem.boot_len (U (ar (ar (pv 0) rfl) rfl) ae))) (aa (aK (ck (pv 0) T.cl XS.me XS.G (hr.mono (by decide)) XS.b .nil aS (U (aQ (U aq (U (pv 1) (U (pv 2) ae)))) (U (aw XG.G (hr.mono (by decide)) rfl XG.m XG.k XG.b .nil av.passes (U (ar (pv 0) rfl) (U (ar (pv 0) rfl) (U (pv 1) (U (pv 2) ae))))) ae)))) (ai (aI (pv 3)))))))),?_⟩
  refine⟨_,rfl,a.h,c.H,a.dx,_,_,rfl,hh.gh,T.cl,T.n2,rfl,_,rfl,_,rfl,a.s,a.sd,M,nm,r,rfl,hh.st,hn,IF,hold,fun e=>kp _ e (by left),fun e=>kp _ e (by left),fun e=>kp _ e (by left),fun e=>kp _ e (by left),fun e0 H1 s1=>?_⟩
  obtain⟨t,z,b,k,i,j,G,lz,ei,ej⟩:=gp e0
  have h1:=hh.same s1
  obtain⟨v,gv,tv⟩:=BN h1.st G.et
  obtain⟨ta,Bt,tl,Zl,rfl,Fs,Zm,Zn⟩:=id tv
  have fb:R4 M nm r=decide (bc M.fl i=some j):=by
   unfold R4
   rw[G.et]
   show(match t.hold with | none=>false | some z=>_)=_
   rw[G.ez]
   show(match bc M.pe r,bc M.pe z with | some i,some j=>_ | _,_=>false)=_
   rw[ei,ej]
  have gw:oY M nm r=if R4 M nm r=true then ("" : Str) else ("no fleet" : Str):=if_pos e0
  refine⟨_,rfl,a.h,c.H,a.dx,_,_,rfl,h1.gh,T.cl,T.n2,rfl,_,rfl,a.h,c.H,a.dx,_,_,rfl,h1.gh,T.cl,T.n2,rfl,a.s.st,c.S,a.s.sx,_,_,rfl,h1.st.gs,TS.cl,TS.n3,rfl,_,rfl,a.s.th,_,rfl,gv,ta,Bt,_,rfl,Fs,rfl,_,t,z,rfl,tv,G.ez,_,rfl,a.s,a.sd,M,z,r,i,j,rfl,h1.st,lz,IF,ei,ej,fun e=>(kw _ (gw.trans (if_neg (by rw[fb,decide_eq_false e];exact Bool.false_ne_true))) (by left)).mono s1,fun e=>?_⟩
  have kD:=kD (gw.trans (if_pos (by rw[fb];exact decide_eq_true e))) t z b k
  refine⟨_,rfl,a.h,c.H,a.dx,_,_,rfl,h1.gh,T.cl,T.n2,rfl,_,rfl,_,rfl,a.s,a.sd,M,nm,r,rfl,h1.st,G.pr,fun H2 s2=>?_⟩
  have h2:=h1.same s2
  obtain⟨ts,Wr,Ws⟩:=h2.st.Ln
  have Il:ts.length=M.gi.length:=by rw[Paired.length Ws,List.length_map]
  refine⟨_,rfl,a.h,c.H,a.dx,_,_,rfl,h2.gh,T.cl,T.n2,rfl,a.s.st,c.S,a.s.sx,_,_,rfl,h2.st.gs,TS.cl,TS.n5,rfl,a.s.gi,_,rfl,.inr (bV.of Wr),?_⟩
  rw[List.length_map,Il]
  refine⟨_,rfl,a.h,a.dx,_,rfl,h2.gh,rfl,_,rfl,_,rfl,by show 3<=sizeLine;decide,fun D hD=>?_⟩
  have s3:ak H2 (upd H2 D (.tup [.str "give",.str nm,.str r])):=ak.new hD
  have gD:upd H2 D (.tup [.str "give",.str nm,.str r]) D=some (.tup [.str "give",.str nm,.str r]):=af
  generalize upd H2 D (.tup [.str "give",.str nm,.str r])=H3 at s3 gD
  have h3:=h2.same s3
  have ZY:(H3 a.sd).isSome=true:=by obtain⟨ts,g,_⟩:=h3.gd;rw[g];rfl
  refine⟨_,rfl,a.h,c.H,a.dx,_,_,rfl,h3.gh,T.cl,T.n1,rfl,_,rfl,a.h,c.H,a.dx,_,_,rfl,h3.gh,T.cl,T.n2,rfl,_,rfl,_,rfl,n,a.s,a.sd,M,nm,r,t,z,b,k,rfl,h3.st,ZY,G,fun p' a2 H4 set s4 sa=>?_⟩
  have h4:=h3.same s4
  exact⟨a,n,M,so,a2,_,D,_,rfl,h4,Nat.le_trans lm.so (by decide),sa,s4 _ _ gD,fun a' H' e1 e2 h k=>⟨_,rfl,kD p' G set a' H' e1 e2 h ((mC.of (s1.trans (s2.trans (s3.trans s4)))).trans k)⟩⟩
abbrev sPB:Stmt:=top 61
abbrev nPB:List Str:=["promises", "now", "rows", "thing", "maker", "receiver", "last", "how", "past"]
theorem BW:au nPB ["promises", "now"] (ao sPB):=by right
abbrev QR:List Str:=["promises", "now"]
def QS:Sp:=fun vs H Q _=>∃ p i,vs=[.ref p,i]/\H p=some (.tup [])/\∀ q H',ak H H'->H' q=some (.tup [])->Q (.ref q) H'
theorem Vk{f:Addr}{fd:FuncData}(F:d_ K "with_past_broken" "with_past_broken" sPB f fd)(T:lD mg):aE P w K mg base aY 1 f fd QR QS:=by
 refine F.ok BW (fun vs H Q E h=>?_) (fun bJ A outer s H vs Q E hr h=>?_)
 ·obtain⟨p,i,rfl,_⟩:=h
  rfl
 ·obtain⟨p,i,rfl,hp,q⟩:=h
  refine⟨_,(aa (aD (i:=2) BW.nd rfl (Or.inl rfl) lZ) (aa (tI PassesOwn.never rfl (NZ (pv 0)) (nj rfl (bC (bz (i:=3) BW.nd rfl (Or.inl rfl)) (bC (bz (i:=4) BW.nd rfl (Or.inl rfl)) (bC (bz (i:=5) BW.nd rfl (Or.inl rfl)) (bC (bz (i:=6) BW.nd rfl (Or.inl rfl)) (bC (bz (i:=7) BW.nd rfl (Or.inl rfl)) j9)))))) (aa b9 (ai b9))) (ai (aI (dO mT rfl T.qj boot_tuple (U (pv 2) ae)))))),?_⟩
  refine⟨Nat.zero_le _,fun l hl=>?_⟩
  have s1:ak H (upd H l (.lst [])):=ak.new hl
  have g1:upd H l (.lst []) l=some (.lst []):=af
  generalize upd H l (.lst [])=H1 at s1 g1
  refine⟨_,rfl,p,rfl,⟨_,bV.of (s1 _ _ hp)⟩,KC (K:=K) (a:=p) (xs:=[]) (fun _ kY H2=>kY=[some (.ref p),some i,some (.ref l),none,none,none,none,none,none]/\H2=H1) ⟨rfl,rfl⟩ (fun _ kY H2 _ ⟨_,e⟩=>by rw[e];exact bV.of (s1 _ _ hp)) (fun i y kY H2 hi=>by cases hi) ?_⟩
  rintro kY H2 ⟨rfl,rfl⟩
  exact⟨_,rfl,l,[],rfl,.inl ⟨bx.of g1,fun t ht=>q t _ (s1.trans (ak.new ht)) af⟩⟩
abbrev sNS:Stmt:=top 82
abbrev nNS:List Str:=["state", "after"]
theorem Vl:au nNS ["state"] (ao sNS):=by right
abbrev QT:List Str:=["state"]
def QU(c:Ct):Sp:=fun vs H Q _=>∃ (a:SA) (sd:Addr) (M:Hs),vs=[.ref a.st]/\l4 c sd H a M/\M.pr=[]/\∀ a2 H',ak H H'->l4 c sd H' a2 { M with now:=M.now+1 }->Q (.ref a2.st) H'
theorem Vm{c:Ct}{f fT fB:Addr}{fd xN sI:FuncData}(F:d_ K "with_next_season" "with_next_season" sNS f fd)(TS:iS K mg c.S)(XT:Mc P w K mg base aY 3 c.S "twin" fT xN zN (zO c.S))(XB:Fc P w K mg base aY 1 "with_past_broken" fB sI QR QS):aE P w K mg base aY 4 f fd QT (QU c):=by
 refine F.ok Vl (fun vs H Q E h=>?_) (fun bJ A outer s H vs Q E hr h=>?_)
 ·obtain⟨a,sd,M,rfl,_⟩:=h
  rfl
 ·obtain⟨a,sd,M,rfl,hs,hp,q⟩:=h
  obtain⟨ts,gp,gt⟩:=hs.Lo
  have ets:ts=[]:=by
   rw[hp] at gt
   cases gt
   rfl
  subst ets
  refine⟨_,(aa (aD (i:=1) Vl.nd rfl (Or.inl rfl) (b_ (pv 0) TS.cl XT.me XT.G (hr.mono (by decide)) XT.b .nil aS)) (aa (a7 (pv 1) (bb i0 (ar (pv 0) rfl) az) rfl) (aa (a7 (pv 1) (aw XB.G (hr.mono (by decide)) rfl XB.m XB.k XB.b .nil aS (U (ar (pv 0) rfl) (U (ar (pv 1) rfl) ae))) rfl) (ai (aI (pv 1)))))),?_⟩
  refine⟨_,rfl,a.st,a.sx,_,rfl,hs.gs,rfl,a.st,a.sx,_,_,_,_,_,_,_,rfl,hs.gs,fun y dy H1 s1 ny gy=>?_⟩
  have tW:=hs.same s1
  refine⟨_,rfl,a.st,c.S,a.sx,_,_,rfl,tW.gs,TS.cl,TS.n7,rfl,_,_,rfl,rfl,_,rfl,y,c.S,dy,_,rfl,gy,TS.cl,TS.n7,by show 7<1000;decide,?_⟩
  have s2:ak H (upd H1 y (.ins c.S dy (sF (.ref a.pe) (.ref a.bo) (.ref a.th) (.ref a.fl) (.ref a.gi) (.ref a.pr) (.int (M.now+1))))):=s1.put ny
  have Wv:upd H1 y (.ins c.S dy (sF (.ref a.pe) (.ref a.bo) (.ref a.th) (.ref a.fl) (.ref a.gi) (.ref a.pr) (.int (M.now+1)))) y=some (.ins c.S dy (sF (.ref a.pe) (.ref a.bo) (.ref a.th) (.ref a.fl) (.ref a.gi) (.ref a.pr) (.int (M.now+1)))):=af
  show(fun H2=>_) (upd H1 y (.ins c.S dy (sF (.ref a.pe) (.ref a.bo) (.ref a.th) (.ref a.fl) (.ref a.gi) (.ref a.pr) (.int (M.now+1)))))
  generalize upd H1 y (.ins c.S dy (sF (.ref a.pe) (.ref a.bo) (.ref a.th) (.ref a.fl) (.ref a.gi) (.ref a.pr) (.int (M.now+1))))=H2 at s2 Wv
  have F3:=hs.same s2
  refine⟨_,rfl,a.st,c.S,a.sx,_,_,rfl,F3.gs,TS.cl,TS.n6,rfl,_,rfl,y,c.S,dy,_,_,rfl,Wv,TS.cl,TS.n7,rfl,a.pr,_,rfl,s2 _ _ gp,fun pq H3 s3 gq=>?_⟩
  refine⟨_,rfl,y,c.S,dy,_,rfl,s3 _ _ Wv,TS.cl,TS.n6,by show 7<1000;decide,?_⟩
  generalize hG:upd H3 y _=H4
  have s4:ak H H4:=by rw[<- hG];exact(s2.trans s3).put ny
  have U8:H4 y=some (.ins c.S dy (sF (.ref a.pe) (.ref a.bo) (.ref a.th) (.ref a.fl) (.ref a.gi) (.ref pq) (.int (M.now+1)))):=by rw[<- hG];exact af
  have gq4:H4 pq=some (.tup []):=by rw[<- hG,aj (iq gq (s3 _ _ Wv) (by intro z;cases z))];exact gq
  clear hG
  have QH:=hs.same s4
  refine⟨_,rfl,q { a with st:=y,sx:=dy,pr:=pq } H4 s4 ⟨U8,QH.ER,QH.Ke,QH.Kf,QH.Kg,QH.Ln,⟨[],gq4,?_⟩⟩⟩
  show lC H4 [] (M.pr.map Pm.v)
  rw[hp]
  exact .nil
abbrev QV:Stmt:=inClass (top 83) 9
abbrev aad:List Str:=["self"]
theorem Vn:au aad ["self"] (ao QV):=by right
abbrev Jh:List Str:=["self"]
def Ji(c:Ct):Sp:=fun vs H Q _=>∃ (a:HA) (n:Int) (M:Hs) (so:List (List V)),vs=[.ref a.h]/\ug c H a n M so/\ES n M so/\M.pr=[]/\Done c H a n { M with now:=M.now+1 } so [.str "season"] Q (.int (M.now+1))
theorem QW{c:Ct}{f fN fS:Addr}{fd yB rK:FuncData}(F:d_ K "season" "House.season" QV f fd)(T:oX K mg c.H)(TS:iS K mg c.S)(XN:Fc P w K mg base aY 4 "with_next_season" fN yB QT (QU c))(XS:Mc P w K mg base aY 1 c.H "stand" fS rK zP (zQ c)):aE P w K mg base aY 5 f fd Jh (Ji c):=by
 refine F.ok Vn (fun vs H Q E h=>?_) (fun bJ A outer s H vs Q E hr h=>?_)
 ·obtain⟨a,n,M,so,rfl,_⟩:=h
  rfl
 ·obtain⟨a,n,M,so,rfl,hh,lm,hp,kD⟩:=h
  refine⟨_,(aa (aK (ck (pv 0) T.cl XS.me XS.G (hr.mono (by decide)) XS.b .nil aS (U (aQ (U aq ae)) (U (aw XN.G (hr.mono (by decide)) rfl XN.m XN.k XN.b .nil aS (U (ar (pv 0) rfl) ae)) ae)))) (ai (aI (ar (ar (pv 0) rfl) rfl)))),?_⟩
  refine⟨_,rfl,a.h,a.dx,_,rfl,hh.gh,rfl,by show 1<=sizeLine;decide,fun D hD=>?_⟩
  have s3:ak H (upd H D (.tup [.str "season"])):=ak.new hD
  have gD:upd H D (.tup [.str "season"]) D=some (.tup [.str "season"]):=af
  generalize upd H D (.tup [.str "season"])=H3 at s3 gD
  have h3:=hh.same s3
  refine⟨_,rfl,a.h,c.H,a.dx,_,_,rfl,h3.gh,T.cl,T.n2,rfl,a.s,a.sd,M,rfl,h3.st,hp,fun a2 H4 s4 sa=>?_⟩
  have h4:=h3.same s4
  exact⟨a,n,M,so,a2,_,D,_,rfl,h4,Nat.le_trans lm.so (by decide),sa,s4 _ _ gD,fun a' H' e1 e2 h k=>⟨_,rfl,a.h,c.H,a'.dx,_,_,rfl,by rw[<- e1];exact h.gh,T.cl,T.n2,rfl,a'.s.st,c.S,a'.s.sx,_,_,rfl,h.st.gs,TS.cl,TS.n7,rfl,kD a' H' e1 e2 h ((mC.of (s3.trans s4)).trans k)⟩⟩
def vC(M:Hs)(nm r:Str)(l:Int):Str:=if qo M nm r = "" then (if l<M.now\/1000000<l then "bad season" else if (stN M.pr nm).isSome=true then "promised" else "") else qo M nm r
abbrev QX:Stmt:=inClass (top 83) 8
abbrev aae:List Str:=["self", "thing", "receiver", "last", "number", "maker", "after"]
theorem Vo:au aae ["self", "thing", "receiver", "last"] (ao QX):=by right
abbrev Jj:List Str:=["self", "thing", "receiver", "last"]
def Jk(c:Ct)(er:Str->Addr):Sp:=fun vs H Q E=>∃ (a:HA) (n:Int) (M:Hs) (so:List (List V)) (nm r:Str) (l:Int),vs=[.ref a.h,.str nm,.str r,.int l]/\ug c H a n M so/\ES n M so/\nm.length<=100/\r.length<=100/\IE M nm/\vC M nm r l ≠ "" /\ bX E H (er (vC M nm r l)) (vC M nm r l)
theorem QY{c:Ct}{er:Str->Addr}{f fP fL fU:Addr}{fd oh Fl ZR:FuncData}(F:d_ K "vow" "House.vow" QX f fd)(T:oX K mg c.H)(TS:iS K mg c.S)(XP:Fc P w K mg base (bu P w) 5 "check_passing" fP oh DL (DM c (er "no thing") (er "no person") (er "not partners") (er "wrong way")))(XL:Fc P w K mg base (bu P w) 4 "check_last_season" fL Fl IL (IM c (er "bad season")))(XU:Fc P w K mg base (bu P w) 4 "check_unpromised" fU ZR IP (IQ c (er "promised"))):aE P w K mg base (bu P w) 6 f fd Jj (Jk c er):=by
 refine F.d.kQ Vo (fun vs H Q E h=>?_) (fun bJ A outer s H vs Q E hr h=>?_)
 ·obtain⟨a,n,M,so,nm,r,l,rfl,_⟩:=h
  rfl
 ·obtain⟨a,n,M,so,nm,r,l,rfl,hh,lm,hn,IF,hold,hw,kE⟩:=h
  have kw:∀ wd:Str,vC M nm r l=wd->bX E H (er wd) wd:=fun wd e=>by rw[<- e];exact kE
  have kp:∀ wd:Str,qo M nm r=wd->wd ≠ "" -> bX E H (er wd) wd:=fun wd e h=>kw wd (by unfold vC;rw[if_neg (by rw[e];exact h),e])
  refine⟨_,(aa (aK (aw XP.G (hr.mono (by decide)) rfl XP.m XP.k XP.b .nil av.passes (U (ar (pv 0) rfl) (U (pv 1) (U (pv 2) ae))))) (aa (aK (aw XL.G (hr.mono (by decide)) rfl XL.m XL.k XL.b .nil av.passes (U (ar (pv 0) rfl) (U (pv 3) ae)))) (aa (aK (aw XU.G (hr.mono (by decide)) rfl XU.m XU.k XU.b .nil av.passes (U (ar (pv 0) rfl) (U (pv 1) ae)))) (aa b9 (aa b9 (aa b9 (aa b9 (aa b9 (ai b9))))))))),?_⟩
  refine⟨_,rfl,a.h,c.H,a.dx,_,_,rfl,hh.gh,T.cl,T.n2,rfl,_,rfl,_,rfl,a.s,a.sd,M,nm,r,rfl,hh.st,hn,IF,hold,fun e=>kp _ e (by left),fun e=>kp _ e (by left),fun e=>kp _ e (by left),fun e=>kp _ e (by left),fun e0 H1 s1=>?_⟩
  have vw:vC M nm r l=if l<M.now\/1000000<l then ("bad season" : Str) else if (stN M.pr nm).isSome=true then ("promised" : Str) else ("" : Str):=if_pos e0
  have h1:=hh.same s1
  refine⟨_,rfl,a.h,c.H,a.dx,_,_,rfl,h1.gh,T.cl,T.n2,rfl,_,rfl,a.s,a.sd,M,l,rfl,h1.st,fun e=>(kw _ (vw.trans (if_pos e))).mono s1,fun e=>?_⟩
  have vw2:=vw.trans (if_neg e)
  refine⟨_,rfl,a.h,c.H,a.dx,_,_,rfl,h1.gh,T.cl,T.n2,rfl,_,rfl,a.s,a.sd,M,nm,rfl,h1.st,hn,fun e2=>(kw _ (vw2.trans (if_pos e2))).mono s1,fun e2=>?_⟩
  exact absurd (vw2.trans (if_neg (by rw[e2];exact Bool.false_ne_true))) hw
inductive Dd where
 | person (z:Str) (i:Int) | eB (x y:Str) | part (x y:Str) | make (z k:Str) (r:Int) (ho:Str) | vD (i:Int) (z:Str) | Jl (i:Int) | give (nm r:Str) | Vp (nm r:Str) (l:Int) | kj
def Dd.v:Dd->List V
 | .person z i=>[.str "person",.str z,.int i]
 | .eB x y=>[.str "partners",.str x,.str y]
 | .part x y=>[.str "part",.str x,.str y]
 | .make z k r ho=>[.str "make",.str z,.str k,.int r,.str ho]
 | .vD i z=>[.str "sail",.int i,.str z]
 | .Jl i=>[.str "home",.int i]
 | .give nm r=>[.str "give",.str nm,.str r]
 | .Vp nm r l=>[.str "vow",.str nm,.str r,.int l]
 | .kj=>[.str "season"]
def Dd.wd(n:Int)(M:Hs):Dd->Str
 | .person z i=>kO n M z i
 | .eB x y=>kP n M x y
 | .part x y=>uv M x y
 | .make z k r ho=>jP M z k r ho
 | .vD i z=>qp n M i z
 | .Jl i=>vA n M i
 | .give nm r=>oY M nm r
 | .Vp nm r l=>vC M nm r l
 | .kj => ""
def Dd.ok(n:Int)(M:Hs):Dd->Prop
 | .person z _=>z.length<=100
 | .eB x y=>ZD n M/\x.length<=100/\y.length<=100
 | .part x y=>x.length<=100/\y.length<=100/\(∀ b,bc M.bo (x,y)=some b->∃ k,b.1.Len k/\k<=400)/\uv M x y ≠ ""
 | .make z _ _ _=>z.length<=100
 | .vD _ _=>True
 | .Jl i=>vA n M i ≠ ""
 | .give nm r=>nm.length<=100/\r.length<=100/\IE M nm/\(qo M nm r = "" -> ∃ t z b k i j,R0 n M nm r t z b k/\z.length<=100/\bc M.pe r=some i/\bc M.pe z=some j)
 | .Vp nm r l=>nm.length<=100/\r.length<=100/\IE M nm/\vC M nm r l ≠ ""
 | .kj=>M.pr=[]
def Dd.to(n:Int)(M:Hs):Dd->Hs->Prop
 | .person z i,M'=>M'={ M with pe:=oS M.pe z i }
 | .eB x y,M'=>M'={ M with bo:=oS M.bo (x,y) (P0,[]) }
 | .make z k r ho,M'=>M'={ M with th:=oS M.th z ⟨Md k,r,[(M.now,ho)]⟩ }
 | .vD i z,M'=>M'={ M with fl:=oS M.fl i ((i+zW z)%n) }
 | .give nm r,M'=>∃ t z b k p',R0 n M nm r t z b k/\ju (b.1.plus t.kd (F_ n t)) (k+1) k p'/\M'=Je n M nm r z t b p'
 | .kj,M'=>M'={ M with now:=M.now+1 }
 | _,_=>False
abbrev sDD:Stmt:=top 77
abbrev nDD:List Str:=["house", "deed", "word"]
theorem Vq:au nDD ["house", "deed"] (ao sDD):=by right
abbrev QZ:List Str:=["house", "deed"]
def Q0(c:Ct)(er:Str->Addr):Sp:=fun vs H Q E=>∃ (a:HA) (n:Int) (M:Hs) (so:List (List V)) (d:Dd) (D:Addr),vs=[.ref a.h,.ref D]/\ug c H a n M so/\ES n M so/\H D=some (.tup d.v)/\d.ok n M/\(d.wd n M ≠ "" -> bX E H (er (d.wd n M)) (d.wd n M))/\(d.wd n M = "" -> ∀ M',d.to n M M'->∀ v,Done c H a n M' so d.v Q v)
theorem Vr{c:Ct}{er:Str->Addr}{f f1 f2 f3 f4 f5 f6 f7 f8 f9:Addr}{fd d1 d2 d3 d4 d5 d6 d7 d8 d9:FuncData}(F:d_ K "do_deed" "do_deed" sDD f fd)(T:oX K mg c.H)(X1:Mc P w K mg base (bu P w) 6 c.H "person" f1 d1 IS (IT c er))(X2:Mc P w K mg base (bu P w) 7 c.H "partners" f2 d2 IV (IW c er))(X3:Mc P w K mg base (bu P w) 6 c.H "part" f3 d3 Jc (Jd c er))(X4:Mc P w K mg base (bu P w) 6 c.H "make" f4 d4 IX (IY c er))(X5:Mc P w K mg base (bu P w) 6 c.H "sail" f5 d5 BQ (BR c er))(X6:Mc P w K mg base (bu P w) 5 c.H "home" f6 d6 BS (BU c er))(X7:Mc P w K mg base (bu P w) 8 c.H "give" f7 d7 Jf (Jg c er))(X8:Mc P w K mg base (bu P w) 6 c.H "vow" f8 d8 Jj (Jk c er))(X9:Mc P w K mg base aY 5 c.H "season" f9 d9 Jh (Ji c)):aE P w K mg base (bu P w) 9 f fd QZ (Q0 c er):=by
 refine F.d.kQ Vq (fun vs H Q E h=>?_) (fun bJ A outer s H vs Q E hr h=>?_)
 ·obtain⟨a,n,M,so,d,D,rfl,_⟩:=h
  rfl
 ·obtain⟨a,n,M,so,d,D,rfl,hh,lm,gD,a8,kE,kD⟩:=h
  refine⟨_,(aa (aD (i:=2) Vq.nd rfl (Or.inl rfl) (aV bQ (pv 1) az (fun _ _=>rfl))) (aa (aP (aG dH (pv 2) aq (aN _)) (ai (aI (ck (pv 0) T.cl X1.me X1.G (hr.mono (by decide)) X1.b .nil av.passes (U (aV bQ (pv 1) az (fun _ _=>rfl)) (U (aV bQ (pv 1) az (fun _ _=>rfl)) ae))))) ay) (aa (aP (aG dH (pv 2) aq (aN _)) (ai (aI (ck (pv 0) T.cl X2.me X2.G (hr.mono (by decide)) X2.b .nil av.passes (U (aV bQ (pv 1) az (fun _ _=>rfl)) (U (aV bQ (pv 1) az (fun _ _=>rfl)) ae))))) ay) (aa (aP (aG dH (pv 2) aq (aN _)) (ai (aI (ck (pv 0) T.cl X3.me X3.G (hr.mono (by decide)) X3.b .nil av.passes (U (aV bQ (pv 1) az (fun _ _=>rfl)) (U (aV bQ (pv 1) az (fun _ _=>rfl)) ae))))) ay) (aa (aP (aG dH (pv 2) aq (aN _)) (ai (aI (ck (pv 0) T.cl X4.me X4.G (hr.mono (by decide)) X4.b .nil av.passes (U (aV bQ (pv 1) az (fun _ _=>rfl)) (U (aV bQ (pv 1) az (fun _ _=>rfl)) (U (aV bQ (pv 1) az (fun _ _=>rfl)) (U (aV bQ (pv 1) az (fun _ _=>rfl)) ae))))))) ay) (aa (aP (aG dH (pv 2) aq (aN _)) (ai (aI (ck (pv 0) T.cl X5.me X5.G (hr.mono (by decide)) X5.b .nil av.passes (U (aV bQ (pv 1) az (fun _ _=>rfl)) (U (aV bQ (pv 1) az (fun _ _=>rfl)) ae))))) ay) (aa (aP (aG dH (pv 2) aq (aN _)) (ai (aI (ck (pv 0) T.cl X6.me X6.G (hr.mono (by decide)) X6.b .nil av.passes (U (aV bQ (pv 1) az (fun _ _=>rfl)) ae)))) ay) (aa (aP (aG dH (pv 2) aq (aN _)) (ai (aI (ck (pv 0) T.cl X7.me X7.G (hr.mono (by decide)) X7.b .nil av.passes (U (aV bQ (pv 1) az (fun _ _=>rfl)) (U (aV bQ (pv 1) az (fun _ _=>rfl)) ae))))) ay) (aa (aP (aG dH (pv 2) aq (aN _)) (ai (aI (ck (pv 0) T.cl X8.me X8.G (hr.mono (by decide)) X8.b .nil av.passes (U (aV bQ (pv 1) az (fun _ _=>rfl)) (U (aV bQ (pv 1) az (fun _ _=>rfl)) (U (aV bQ (pv 1) az (fun _ _=>rfl)) ae)))))) ay) (ai (aI (b_ (pv 0) T.cl X9.me X9.G (hr.mono (by decide)) X9.b .nil aS)))))))))))),?_⟩
  have no:∀ {A B:Prop} {x y:Str},x≠y->B->if decide (V.str x=V.str y)=true then A else B:=fun ne h=>jv (fun z=>ne (V.str.inj (of_decide_eq_true z))) h
  have ya:∀ {A B:Prop} {x:Str},A->if decide (V.str x=V.str x)=true then A else B:=fun h=>iL (decide_eq_true rfl) h
  have h0:∀ {d0:List V} {u:V} {j:Nat},H D=some (.tup d0)->d0[j]?=some u->∃ p xs i v,V.ref D=.ref p/\V.int (j:Nat)=.int i/\bV K H p xs/\vc xs i=some v/\v=u:=fun g e=>⟨D,_,_,_,rfl,rfl,bV.of g,aH e,rfl⟩
  cases d with
  | person z i =>
   refine⟨_,rfl,D,_,0,_,rfl,rfl,bV.of gD,aH (j:=0) rfl,?_⟩
   refine⟨_,rfl,rfl,_,rfl,ya ?_⟩
   refine⟨_,rfl,a.h,a.dx,_,rfl,hh.gh,rfl,_,rfl,D,_,1,_,rfl,rfl,bV.of gD,aH (j:=1) rfl,_,rfl,D,_,2,_,rfl,rfl,bV.of gD,aH (j:=2) rfl,a,n,M,so,z,i,rfl,hh,lm,a8,kE,fun e=>kD e _ rfl _⟩
  | eB x y =>
   refine⟨_,rfl,D,_,0,_,rfl,rfl,bV.of gD,aH (j:=0) rfl,?_⟩
   refine⟨_,rfl,rfl,_,rfl,no (by left) ?_⟩
   refine⟨_,rfl,rfl,_,rfl,ya ?_⟩
   refine⟨_,rfl,a.h,a.dx,_,rfl,hh.gh,rfl,_,rfl,D,_,1,_,rfl,rfl,bV.of gD,aH (j:=1) rfl,_,rfl,D,_,2,_,rfl,rfl,bV.of gD,aH (j:=2) rfl,a,n,M,so,x,y,rfl,hh,lm,a8.1,a8.2.1,a8.2.2,kE,fun e=>kD e _ rfl _⟩
  | part x y =>
   refine⟨_,rfl,D,_,0,_,rfl,rfl,bV.of gD,aH (j:=0) rfl,?_⟩
   refine⟨_,rfl,rfl,_,rfl,no (by left) ?_⟩
   refine⟨_,rfl,rfl,_,rfl,no (by left) ?_⟩
   refine⟨_,rfl,rfl,_,rfl,ya ?_⟩
   refine⟨_,rfl,a.h,a.dx,_,rfl,hh.gh,rfl,_,rfl,D,_,1,_,rfl,rfl,bV.of gD,aH (j:=1) rfl,_,rfl,D,_,2,_,rfl,rfl,bV.of gD,aH (j:=2) rfl,a,n,M,so,x,y,rfl,hh,lm,a8.1,a8.2.1,a8.2.2.1,a8.2.2.2,kE a8.2.2.2⟩
  | make z k r ho =>
   refine⟨_,rfl,D,_,0,_,rfl,rfl,bV.of gD,aH (j:=0) rfl,?_⟩
   refine⟨_,rfl,rfl,_,rfl,no (by left) ?_⟩
   refine⟨_,rfl,rfl,_,rfl,no (by left) ?_⟩
   refine⟨_,rfl,rfl,_,rfl,no (by left) ?_⟩
   refine⟨_,rfl,rfl,_,rfl,ya ?_⟩
   refine⟨_,rfl,a.h,a.dx,_,rfl,hh.gh,rfl,_,rfl,D,_,1,_,rfl,rfl,bV.of gD,aH (j:=1) rfl,_,rfl,D,_,2,_,rfl,rfl,bV.of gD,aH (j:=2) rfl,_,rfl,D,_,3,_,rfl,rfl,bV.of gD,aH (j:=3) rfl,_,rfl,D,_,4,_,rfl,rfl,bV.of gD,aH (j:=4) rfl,a,n,M,so,z,k,r,ho,rfl,hh,lm,a8,kE,fun e=>kD e _ rfl _⟩
  | vD i z =>
   refine⟨_,rfl,D,_,0,_,rfl,rfl,bV.of gD,aH (j:=0) rfl,?_⟩
   refine⟨_,rfl,rfl,_,rfl,no (by left) ?_⟩
   refine⟨_,rfl,rfl,_,rfl,no (by left) ?_⟩
   refine⟨_,rfl,rfl,_,rfl,no (by left) ?_⟩
   refine⟨_,rfl,rfl,_,rfl,no (by left) ?_⟩
   refine⟨_,rfl,rfl,_,rfl,ya ?_⟩
   refine⟨_,rfl,a.h,a.dx,_,rfl,hh.gh,rfl,_,rfl,D,_,1,_,rfl,rfl,bV.of gD,aH (j:=1) rfl,_,rfl,D,_,2,_,rfl,rfl,bV.of gD,aH (j:=2) rfl,a,n,M,so,i,z,rfl,hh,lm,kE,fun e=>kD e _ rfl _⟩
  | Jl i =>
   refine⟨_,rfl,D,_,0,_,rfl,rfl,bV.of gD,aH (j:=0) rfl,?_⟩
   refine⟨_,rfl,rfl,_,rfl,no (by left) ?_⟩
   refine⟨_,rfl,rfl,_,rfl,no (by left) ?_⟩
   refine⟨_,rfl,rfl,_,rfl,no (by left) ?_⟩
   refine⟨_,rfl,rfl,_,rfl,no (by left) ?_⟩
   refine⟨_,rfl,rfl,_,rfl,no (by left) ?_⟩
   refine⟨_,rfl,rfl,_,rfl,ya ?_⟩
   refine⟨_,rfl,a.h,a.dx,_,rfl,hh.gh,rfl,_,rfl,D,_,1,_,rfl,rfl,bV.of gD,aH (j:=1) rfl,a,n,M,so,i,rfl,hh,lm,a8,kE a8⟩
  | give nm r =>
   refine⟨_,rfl,D,_,0,_,rfl,rfl,bV.of gD,aH (j:=0) rfl,?_⟩
   refine⟨_,rfl,rfl,_,rfl,no (by left) ?_⟩
   refine⟨_,rfl,rfl,_,rfl,no (by left) ?_⟩
   refine⟨_,rfl,rfl,_,rfl,no (by left) ?_⟩
   refine⟨_,rfl,rfl,_,rfl,no (by left) ?_⟩
   refine⟨_,rfl,rfl,_,rfl,no (by left) ?_⟩
   refine⟨_,rfl,rfl,_,rfl,no (by left) ?_⟩
   refine⟨_,rfl,rfl,_,rfl,ya ?_⟩
   refine⟨_,rfl,a.h,a.dx,_,rfl,hh.gh,rfl,_,rfl,D,_,1,_,rfl,rfl,bV.of gD,aH (j:=1) rfl,_,rfl,D,_,2,_,rfl,rfl,bV.of gD,aH (j:=2) rfl,a,n,M,so,nm,r,rfl,hh,lm,a8.1,a8.2.1,a8.2.2.1,a8.2.2.2,kE,fun e t z b k p' g set=>kD e _ ⟨t,z,b,k,p',g,set,rfl⟩ _⟩
  | Vp nm r l =>
   refine⟨_,rfl,D,_,0,_,rfl,rfl,bV.of gD,aH (j:=0) rfl,?_⟩
   refine⟨_,rfl,rfl,_,rfl,no (by left) ?_⟩
   refine⟨_,rfl,rfl,_,rfl,no (by left) ?_⟩
   refine⟨_,rfl,rfl,_,rfl,no (by left) ?_⟩
   refine⟨_,rfl,rfl,_,rfl,no (by left) ?_⟩
   refine⟨_,rfl,rfl,_,rfl,no (by left) ?_⟩
   refine⟨_,rfl,rfl,_,rfl,no (by left) ?_⟩
   refine⟨_,rfl,rfl,_,rfl,no (by left) ?_⟩
   refine⟨_,rfl,rfl,_,rfl,ya ?_⟩
   refine⟨_,rfl,a.h,a.dx,_,rfl,hh.gh,rfl,_,rfl,D,_,1,_,rfl,rfl,bV.of gD,aH (j:=1) rfl,_,rfl,D,_,2,_,rfl,rfl,bV.of gD,aH (j:=2) rfl,_,rfl,D,_,3,_,rfl,rfl,bV.of gD,aH (j:=3) rfl,a,n,M,so,nm,r,l,rfl,hh,lm,a8.1,a8.2.1,a8.2.2.1,a8.2.2.2,kE a8.2.2.2⟩
  | kj =>
   refine⟨_,rfl,D,_,0,_,rfl,rfl,bV.of gD,aH (j:=0) rfl,?_⟩
   refine⟨_,rfl,rfl,_,rfl,no (by left) ?_⟩
   refine⟨_,rfl,rfl,_,rfl,no (by left) ?_⟩
   refine⟨_,rfl,rfl,_,rfl,no (by left) ?_⟩
   refine⟨_,rfl,rfl,_,rfl,no (by left) ?_⟩
   refine⟨_,rfl,rfl,_,rfl,no (by left) ?_⟩
   refine⟨_,rfl,rfl,_,rfl,no (by left) ?_⟩
   refine⟨_,rfl,rfl,_,rfl,no (by left) ?_⟩
   refine⟨_,rfl,rfl,_,rfl,no (by left) ?_⟩
   refine⟨_,rfl,a.h,a.dx,_,rfl,hh.gh,rfl,a,n,M,so,rfl,hh,lm,a8,kD rfl _ rfl _⟩
def Kl(p:Str)(ws:List Str):Option Int:=if p = "ring" then (match ws with
 | [d]=>if rE d=true then some (TK d) else none
 | _=>none) else none
abbrev sRg:Stmt:=top 89
abbrev nRg:List Str:=["line", "word", "islands"]
theorem Q1:au nRg ["line"] (ao sRg):=by right
abbrev Q2:List Str:=["line"]
def Q3(cT:Addr):Sp:=fun vs H Q E=>∃ z p ws,vs=[.str z]/\z.length<=1000/\Txt.split z oW=p::ws/\(Kl p ws=none->bX E H cT "bad text")/\(∀ n,Kl p ws=some n->∀ H',ak H H'->Q (.int n) H')
theorem Q4(d:Str):Pe [d] ["number"]=if rE d=true then some [.int (TK d)] else none:=by
 show(if 1=1 then BI [qZ d "number"] else none)=_
 rw[if_pos rfl]
 unfold qZ
 rw[if_pos rfl]
 cases h:rE d with
 | true=>rw[if_pos rfl,if_pos rfl];rfl
 | false=>rw[if_neg Bool.false_ne_true,if_neg Bool.false_ne_true];rfl
theorem DP(ws:List Str):Pe ws ["number"]=(Kl "ring" ws).map fun n=>[V.int n]:=by
 unfold Kl
 rw[if_pos rfl]
 match ws with
 | []=>rfl
 | [d] =>
  rw[Q4]
  show _=Option.map _ (if rE d=true then some (TK d) else none)
  cases rE d with
  | true=>rfl
  | false=>rfl
 | d::e::r =>
  show(if (d::e::r).length=1 then _ else none)=none
  rw[if_neg (by simp)]
theorem Vs{cR fR cT fT f fF fW:Addr}{gI xN fd dF dW:FuncData}(F:d_ K "read_ring" "read_ring" sRg f fd)(ET:gC K mg cR fR gI)(D:cb K mg cR "BadText" "bad text" cT fT xN)(XF:Fc P w K mg base aY 1 "first_word" fF dF LQ LR)(XR:Fc P w K mg base (bu P w) 6 "read_row" fW dW LS (Dy K cT)):aE P w K mg base (bu P w) 7 f fd Q2 (Q3 cT):=by
 have GI:aE P w K mg base aY 2 fT xN _ (cJ cT "bad text"):=g_ ET D
 refine F.d.kQ Q1 (fun vs H Q E h=>?_) (fun bJ A outer s H vs Q E hr h=>?_)
 ·obtain⟨z,p,ws,rfl,_⟩:=h
  rfl
 ·obtain⟨z,p,ws,rfl,hz,hs,k1,k2⟩:=h
  refine⟨_,(aa (aP (aG jK (aw XF.G (hr.mono (by decide)) rfl XF.m XF.k XF.b .nil aS (U (pv 0) ae)) aq (aN _)) (ai (aW rfl D.m D.cls D.obj D.init D.fn GI (hr.mono (by decide)) D.b rfl av (U aq ae))) ay) (aa (tH (aw XR.G (hr.mono (by decide)) rfl XR.m XR.k XR.b .nil av.passes (U (pv 0) (U (aQ (U aq ae)) ae))) (nj rfl (bC (bz (i:=1) Q1.nd rfl (Or.inl rfl)) (bC (bz (i:=2) Q1.nd rfl (Or.inl rfl)) j9)))) (ai (aI (pv 2))))),?_⟩
  refine⟨_,rfl,z,p,ws,rfl,Nat.le_trans hz (by decide),hs,fun H1 s1=>⟨rfl,_,rfl,?_⟩⟩
  by_cases e:p = "ring"
  case neg =>
   refine iL ?_ ⟨_,rfl,by left,(k1 (if_neg e)).to s1⟩
   rw[Bool.not_eq_true']
   exact decide_eq_false fun q=>e (V.str.inj q)
  subst e
  refine jv (fun q=>by rw[decide_eq_true rfl] at q;cases q) ?_
  refine⟨_,rfl,by show 1<=sizeLine;decide,fun t ht=>?_⟩
  have s2:=s1.trans (ak.new (o:=.tup [.str "number"]) ht)
  refine⟨z,t, "ring",ws,["number"],rfl,hz,hs,bV.of af,fun hn=>?_,fun us hu l H3 s3 nl gl=>?_⟩
  ·rw[DP,Option.map_eq_none_iff] at hn
   exact(k1 hn).mono s2
  ·rw[DP] at hu
   obtain⟨n,hn,rfl⟩:=Option.map_eq_some_iff.mp hu
   exact⟨l,_,rfl,bV.of gl,rfl,_,_,rfl,_,_,rfl,rfl,_,rfl,k2 n hn _ (s2.trans s3)⟩
def dz(n:Int)(G:Str->Prop)(fin:Hs->List (List V)->Prop):List Dd->Hs->List (List V)->Prop
 | [],M,so=>fin M so
 | d::ds,M,so=>ES n M so/\d.ok n M/\(d.wd n M ≠ "" -> G (d.wd n M))/\(d.wd n M = "" -> ∀ M',d.to n M M'->dz n G fin ds M' (so++[d.v]))
def qr(z:Str):Option (List V):=match Txt.split z oW with
 | []=>none
 | p::ws=>(Pf p ws).map (.str p::·)
theorem zX(z:Str)(c:Nat)(h:c<256):∃ p ws,Txt.split z (one c)=p::ws:=by
 cases e:Txt.split z (one c) with
 | cons p ws=>exact⟨p,ws,rfl⟩
 | nil =>
  have q:=wy z h
  rw[e] at q
  have:xy c z.cps.toList≠[]:=by
   cases z.cps.toList with
   | nil=>exact fun z=>nomatch z
   | cons x r =>
    unfold xy
    split
    ·exact fun z=>nomatch z
    ·split<;>exact fun z=>nomatch z
  exact absurd q.symm this
abbrev Jm:Stmt:=top 88
abbrev Vt:List Str:=["text", "lines", "islands", "told", "house", "deed"]
theorem qt:au Vt ["text"] (ao Jm):=by right
abbrev BX:List Str:=["text"]
def BY(c:Ct)(er:Str->Addr):Sp:=fun vs H Q E=>∃ z l0 rest,vs=[.str z]/\z.length<=100000/\Txt.split z (one 10)=l0::rest/\rest.length<=1000/\(∀ l∈l0::rest,l.length<=1000)/\∃ p ws,Txt.split l0 oW=p::ws /\
 (Kl p ws=none->bX E H (er "bad text") "bad text")/\(∀ n,Kl p ws=some n ->
  ((∃ l∈rest,qr l=none)->bX E H (er "bad text") "bad text")/\((∀ l∈rest,qr l≠none)->∃ ds:List Dd,rest.map qr=ds.map (fun d=>some d.v)/\(bad n->bX E H (er "bad ring") "bad ring") /\
   (¬ bad n->dz n (fun wd=>bX E H (er wd) wd) (fun M so=>∀ (a:HA) H',ak H H'->ug c H' a n M so->Q (.ref a.h) H') ds Ni [])))
theorem ux{α:Type}:∀ {l:List (Option α)},none∈l->∃ b:Nat,l[b]?=some none/\∀ i:Nat,i<b->∃ v,l[i]?=some (some v)
 | [],h=>by cases h
 | none::r,h=>⟨0,rfl,fun i hi=>absurd hi (Nat.not_lt_zero i)⟩
 | some v::r,h=>by
  obtain⟨b,h1,h2⟩:=ux (l:=r) (by rcases List.mem_cons.mp h with z | z;cases z;exact z)
  refine⟨b+1,h1,fun i hi=>?_⟩
  cases i with
  | zero=>exact⟨v,rfl⟩
  | succ i=>exact h2 i (by omega)
theorem BZ{z p:Str}{ws:List Str}(h:Txt.split z oW=p::ws):qr z=(Pf p ws).map (.str p::·):=by unfold qr;rw[h]
theorem e10:Str.ofString "\n" = one 10:=by left
theorem Mh{c:Ct}{er:Str->Addr}{f fG fD fH fO:Addr}{fd dG dD Qe F8:FuncData}(F:d_ K "read" "read" Jm f fd)(T:lD mg)(XG:Fc P w K mg base (bu P w) 7 "read_ring" fG dG Q2 (Q3 (er "bad text")))(XD:Fc P w K mg base (bu P w) 7 "read_deed" fD dD Pg (Ie (er "bad text")))(XH:Kc P w K mg base (bu P w) 5 "House" c.H fH Qe Pu (Pw c (er "bad ring")))(XO:Fc P w K mg base (bu P w) 9 "do_deed" fO F8 QZ (Q0 c er)):aE P w K mg base (bu P w) 11 f fd BX (BY c er):=by
 refine F.d.kQ qt (fun vs H Q E h=>?_) (fun bJ A outer s H vs Q E hr h=>?_)
 ·obtain⟨z,l0,rest,rfl,_⟩:=h
  rfl
 ·obtain⟨z,l0,rest,rfl,hz,hn,hrl,BG,p,ws,hs,k1,k2⟩:=h
  refine⟨_,(aa (aD (i:=1) qt.nd rfl (Or.inl rfl) (mU PySem.F.plainAttrs_str PySem.F.slot_str_split PySem.F.type_str_split ue (pv 0) (U aq ae))) (aa (aD (i:=2) qt.nd rfl (Or.inl rfl) (aw XG.G (hr.mono (by decide)) rfl XG.m XG.k XG.b .nil av.passes (U (aV bh (pv 1) az (fun _ _=>rfl)) ae))) (aa (Lz 3 (by left) qt.nd rfl rfl (jq (k9 oz (pv 1) (lX az) sh)) (fun C s H fp pins EE ft=>(aw XD.G (hr.mono (by decide)) rfl XD.m XD.k XD.b .nil ft.passes (U (pv 0) ae))) (fun C s H fp pins=>iQ)) (aa (aD (i:=4) qt.nd rfl (Or.inl rfl) (w6 XH.M XH.G (hr.mono (by decide)) rfl XH.m XH.b .nil av.passes (U (pv 2) ae))) (aa (Ls (jq (pv 3)) (fun EE=>(bz (i:=5) qt.nd rfl (Or.inl rfl))) (fun EE ft=>(ai (aK (aw XO.G (hr.mono (by decide)) rfl XO.m XO.k XO.b .nil ft.passes (U (pv 4) (U (pv 5) ae))))))) (ai (aI (pv 4)))))))),?_⟩
  refine⟨_,rfl,rfl,z,_,rfl,rfl,by left,Nat.le_trans (Nat.add_le_add_right hz 2) (by decide),fun L hL=>?_⟩
  rw[e10,hn]
  have s1:ak H (upd H L (.lst ((l0::rest).map V.str))):=ak.new hL
  have g1:upd H L (.lst ((l0::rest).map V.str)) L=some (.lst (.str l0::rest.map V.str)):=af
  generalize upd H L (.lst ((l0::rest).map V.str))=H1 at s1 g1 ⊢
  refine⟨_,rfl,L,_,0,_,rfl,rfl,bx.of g1,aH (j:=0) rfl,l0,p,ws,rfl,BG _ List.mem_cons_self,hs,fun hd=>(k1 hd).mono s1,fun n hnn H2 s2=>?_⟩
  obtain⟨k3,k4⟩:=k2 n hnn
  refine⟨_,rfl,1,rfl,L,_,rfl,bx.of (s2 _ _ g1),fun M hM=>?_⟩
  rw[show nA (V.str l0::rest.map V.str) (some 1) none=rest.map V.str from zr _ 1]
  have s3:ak H2 (upd H2 M (.lst (rest.map V.str))):=ak.new hM
  have g3:upd H2 M (.lst (rest.map V.str)) M=some (.lst (rest.map V.str)):=af
  generalize upd H2 M (.lst (rest.map V.str))=H3 at s3 g3 ⊢
  have NA:ak H H3:=s1.trans (s2.trans s3)
  refine⟨M,rfl,⟨_,bx.of g3⟩,fun D hD=>?_⟩
  have line:∀ {i:Nat} {x:V},(rest.map V.str)[i]?=some x->∃ l p ws,x=.str l/\rest[i]?=some l/\l.length<=1000/\Txt.split l oW=p::ws:=fun {i x} e=>by
   rw[List.getElem?_map] at e
   obtain⟨l,el,ex⟩:=Option.map_eq_some_iff.mp e
   obtain⟨p,ws,h⟩:=zX l 32 (by decide)
   exact⟨l,p,ws,ex.symm,el,BG _ (List.mem_cons_of_mem _ (List.mem_of_getElem? el)),h⟩
  have hsz:(rest.map V.str).length<=sizeLine:=by rw[List.length_map];exact big hrl
  by_cases Q5:∃ l∈rest,qr l=none
  ·have kr:=k3 Q5
   obtain⟨l,hl,hn⟩:=Q5
   obtain⟨b,Bq,Br⟩:=ux (l:=rest.map qr) (List.mem_map.mpr ⟨l,hl,hn⟩)
   have c_:b<(rest.map V.str).length:=by
    have:=(List.getElem?_eq_some_iff.mp Bq).1
    rw[List.length_map] at this ⊢
    exact this
   refine EN b (bx.of g3) c_ hD hsz (fun _ _ _ h=>h) (fun i x hi ex H' R sm kk=>?_) (fun x ex H' R sm=>?_)
   ·obtain⟨l,p,ws,rfl,el,ll,sl⟩:=line ex
    obtain⟨v,hv⟩:=Br i hi
    rw[List.getElem?_map,el] at hv
    have Gw:qr l=some v:=Option.some.inj hv
    rw[BZ sl] at Gw
    exact⟨_,rfl,l,p,ws,rfl,ll,sl,(fun hn=>by rw[hn] at Gw;cases Gw),fun us hu t H'' GD nt gt=>kk _ _ GD⟩
   ·obtain⟨l,p,ws,rfl,el,ll,sl⟩:=line ex
    rw[List.getElem?_map,el] at Bq
    have Gw:qr l=none:=Option.some.inj Bq
    rw[BZ sl,Option.map_eq_none_iff] at Gw
    exact⟨_,rfl,l,p,ws,rfl,ll,sl,fun hn=>kr.mono (NA.trans sm),fun us hu=>by rw[Gw] at hu;cases hu⟩
  obtain⟨ds,eds,k5,k6⟩:=k4 (fun l hl hn=>Q5 ⟨l,hl,hn⟩)
  have lds:ds.length=rest.length:=by
   have:=congrArg List.length eds
   rw[List.length_map,List.length_map] at this
   exact this.symm
  refine Bx (ds.map Dd.v) (by rw[List.length_map,List.length_map,lds]) (bx.of g3) hD hsz (fun _ _ _ h=>h) (fun i x dv ex Vu H' R sm kk=>?_) (fun ts H4 s4 g4 tl=>?_)
  ·obtain⟨l,p,ws,rfl,el,ll,sl⟩:=line ex
   rw[List.getElem?_map] at Vu
   obtain⟨d,ed,rfl⟩:=Option.map_eq_some_iff.mp Vu
   have q:(rest.map qr)[i]?=some (some d.v):=by rw[eds,List.getElem?_map,ed];rfl
   rw[List.getElem?_map,el] at q
   have q':qr l=some d.v:=Option.some.inj q
   rw[BZ sl] at q'
   refine⟨_,rfl,l,p,ws,rfl,ll,sl,(fun hn=>by rw[hn] at q';cases q'),fun us hu t H'' GD nt gt=>kk t _ GD nt ?_⟩
   rw[hu] at q'
   rw[gt,<- Option.some.inj q']
  have R1:=NA.trans s4
  refine⟨_,rfl,?_⟩
  refine fun h dh hh hdh nh=>⟨h,dh,n,rfl,af,fun hb=>?_,fun hb a H5 ea h5 o5 F9=>⟨rfl,?_⟩⟩
  ·exact(k5 hb).mono (R1.trans ((ak.new hdh).trans (ak.new (by rw[aj nh.symm];exact hh))))
  have IU:ak H4 H5:=fun b u e=>o5 b u (ah e hh) (by rw[aj (ah e hh),aj (ah e hdh)];exact e)
  have up:∀ b u,H4 b=some u->upd (upd H4 dh (.own h)) h (.ins c.H dh []) b=some u:=fun b u e=>by rw[aj (ah e hh),aj (ah e hdh)];exact e
  have keep:∀ {H':Hp},mC a.h a.sd H5 H'->ak H4 H':=fun k b u e=>k.k b u (by rw[ea];exact ah e hh) (ah (up _ _ e) F9) (IU _ _ e)
  have Il:ts.length=ds.length:=by rw[Paired.length tl,List.length_map]
  refine⟨_,rfl,D,rfl,⟨_,bx.of (IU _ _ g4)⟩,tJ (K:=K) (a:=D) (xs:=ts.map V.ref) (fun i bf H'=>(∃ v5,bf=[some (.str z),some (.ref L),some (.int n),some (.ref D),some (.ref h),v5])/\mC a.h a.sd H5 H'/\∃ (a':HA) (M:Hs) (so:List (List V)),a'.h=a.h/\a'.sd=a.sd/\ug c H' a' n M so/\dz n (fun wd=>bX E H (er wd) wd) (fun M so=>∀ (a:HA) H',ak H H'->ug c H' a n M so->Q (.ref a.h) H') (ds.drop i) M so) ⟨⟨_,rfl⟩,mC.of (ak.refl _),a,Ni,[],rfl,rfl,h5,k6 hb⟩ (fun i bf H' _ z=>bx.of (keep z.2.1 _ _ g4)) (fun i x bf H' hx z'=>?_) ?_⟩
  ·obtain⟨⟨v5,rfl⟩,kp,a',M,so,e1,e2,hh',run⟩:=z'
   rw[List.getElem?_map] at hx
   obtain⟨t,et,rfl⟩:=Option.map_eq_some_iff.mp hx
   obtain⟨dv,Vu,gt⟩:=wJ tl et
   rw[List.getElem?_map] at Vu
   obtain⟨d,ed,rfl⟩:=Option.map_eq_some_iff.mp Vu
   rw[List.drop_eq_getElem_cons (List.getElem?_eq_some_iff.mp ed).1,(List.getElem?_eq_some_iff.mp ed).2] at run
   obtain⟨lm,dok,kE,kR⟩:=run
   have sH:=R1.trans (keep kp)
   refine⟨_,rfl,_,rfl,a',n,M,so,d,t,(by rw[e1,ea];rfl),hh',lm,keep kp _ _ gt,dok,fun hw=>(kE hw).mono sH,fun hw M' hto v a'' H'' f1 f2 RQ k''=>?_⟩
   refine⟨⟨_,rfl⟩,kp.trans (by rw[<- e1,<- e2];exact k''),a'',M',so++[d.v],f1.trans e1,f2.trans e2,RQ,kR hw M' hto⟩
  ·rintro bf H' ⟨⟨v5,rfl⟩,kp,a',M,so,e1,e2,hh',run⟩
   rw[List.length_map,Il,List.drop_length] at run
   have:=run a' H' (R1.trans (keep kp)) hh'
   rw[e1,ea] at this
   exact⟨_,rfl,this⟩
abbrev Ww:Stmt:=top 75
abbrev nDs:List Str:=["house"]
theorem aak:au nDs ["house"] (ao Ww):=by right
abbrev Q6:List Str:=["house"]
def Q7(c:Ct):Sp:=fun vs H Q _=>∃ (a:HA) (n:Int) (M:Hs) (so:List (List V)),vs=[.ref a.h]/\ug c H a n M so/\so.length<=1000/\∀ l ts H',ak H H'->H' l=some (.lst (ts.map V.ref))->lC H' ts so->Q (.ref l) H'
theorem B0{H:Hp}{ts:List Addr}{so:List (List V)}(h:xH H ts so):∃ ps:List (Addr×V),Paired (fun t (p:V×V)=>H t=some (.tup [p.1,p.2])) ts (ps.map fun p=>(V.ref p.1,p.2))/\lC H (ps.map (·.1)) so:=by
 unfold xH at h
 induction h with
 | nil=>exact⟨[],.nil,.nil⟩
 | cons z _ ih =>
  obtain⟨d,s,q1,q2⟩:=z
  obtain⟨ps,h1,h2⟩:=ih
  exact⟨(d,s)::ps,.cons q1 h1,.cons q2 h2⟩
theorem Vv{c:Ct}{f:Addr}{fd:FuncData}(F:d_ K "deeds" "deeds" Ww f fd)(T:oX K mg c.H):aE P w K mg base aY 1 f fd Q6 (Q7 c):=by
 refine F.ok aak (fun vs H Q E h=>?_) (fun bJ A outer s H vs Q E hr h=>?_)
 ·obtain⟨a,n,M,so,rfl,_⟩:=h
  rfl
 ·obtain⟨a,n,M,so,rfl,hh,hl,q⟩:=h
  obtain⟨ts,gd,past⟩:=hh.gd
  obtain⟨ps,h1,h2⟩:=B0 past
  refine⟨_,(ai (aI (TM (ao Ww) nDs rfl rfl (by left) rfl (jq (ar (pv 0) rfl)) (fun C s H fp pins=>(pv 0)) (fun C s H fp pins=>iQ)))),?_⟩
  refine⟨_,rfl,a.h,c.H,a.dx,_,_,rfl,hh.gh,T.cl,T.n3,rfl,a.sd,rfl,⟨_,bx.of gd⟩,fun D hD=>?_⟩
  refine zJ (bx.of gd) h1 hD (by rw[past.len];exact big hl) (fun T x y os H' R ol hT r=>HH T x y os H' R ol hT r) (fun _ _ _ h=>h) (fun x y H' R h=>⟨_,rfl,h⟩) (fun H2 s2 g2=>q D (ps.map (·.1)) H2 s2 (by rw[g2,List.map_map,List.map_map];rfl) (h2.to fun b xs e=>s2 _ _ e))
theorem len_K{X:Cx}(K:W.Frag)(h:X.K=K):g9 X (.builtin "len") (fun xs H Q=>∃ p ys,xs=[.ref p]/\(bx K H p ys\/bV K H p ys)/\Q (.int (ys.length:Nat)) H):=by
 subst h
 exact aT
inductive Out where
 | told (k:Nat) | no (wd:Str)
def Out.v:Out->List V
 | .told k=>[.str "told",.int k]
 | .no wd=>[.str wd,.bl (decide (wd = "bad text"))]
def kq:List Str:=["bad ring", "bad name", "taken", "no island", "no person", "not neighbours", "told twice", "not partners", "owing", "bad kind", "bad rank", "no thing", "wrong way", "no fleet", "bad way", "away", "not away", "promised", "bad season", "bad text"]
structure ErW(K:W.Frag)(cR cT C:Addr)(wd:Str):Prop where
 ex:W.exmOne K (.ref C) (.ref cR)=some true
 cls:kh K C
 na:bB K C "word"
 kit:W.kitOne K (.ref C) (.ref cT)=some (decide (wd = "bad text"))
theorem dz.imp{n:Int}{G G':Str->Prop}{fin Vw:Hs->List (List V)->Prop}(hG:∀ wd,G wd->G' wd)(hf:∀ M so,fin M so->Vw M so):∀ {ds:List Dd} {M:Hs} {so:List (List V)},dz n G fin ds M so->dz n G' Vw ds M so
 | [],M,so,h=>hf M so h
 | d::ds,M,so,⟨h1,h2,h3,h4⟩=>⟨h1,h2,fun e=>hG _ (h3 e),fun e M' t=>dz.imp hG hf (h4 e M' t)⟩
def ND(z:Str)(o:Out):Prop:=∃ l0 rest,z.length<=100000/\Txt.split z (one 10)=l0::rest/\rest.length<=1000/\(∀ l∈l0::rest,l.length<=1000)/\∃ p ws,Txt.split l0 oW=p::ws /\
 (Kl p ws=none->o=.no "bad text")/\(∀ n,Kl p ws=some n ->
  ((∃ l∈rest,qr l=none)->o=.no "bad text")/\((∀ l∈rest,qr l≠none)->∃ ds:List Dd,rest.map qr=ds.map (fun d=>some d.v)/\(bad n->o=.no "bad ring") /\
   (¬ bad n->dz n (fun wd=>o=.no wd) (fun M so=>o=.told so.length/\so.length<=1000) ds Ni [])))
abbrev sLR:Stmt:=top 98
abbrev nLR:List Str:=["_law_text", "e"]
theorem Vx:au nLR ["_law_text"] (ao sLR):=by right
abbrev Q8:List Str:=["_law_text"]
def Q9:Sp:=fun vs H Q _=>∃ z o,vs=[.str z]/\ND z o/\(∀ wd,o=.no wd->wd∈kq)/\∀ t H',ak H H'->H' t=some (.tup o.v)->Q (.ref t) H'
theorem Vy{c:Ct}{er:Str->Addr}{cR fR uy fB f fD fS:Addr}{gI sI fd dD dS:FuncData}(F:d_ K "_law_read" "_law_read" sLR f fd)(T:lD mg)(TE:gC K mg cR fR gI)(DB:cb K mg cR "BadText" "bad text" uy fB sI)(EW:∀ wd∈kq,ErW K cR uy (er wd) wd)
  (XD:Fc P w K mg base (bu P w) 11 "read" fD dD BX (BY c er)) (XS:Fc P w K mg base aY 1 "deeds" fS dS Q6 (Q7 c)):aE P w K mg base aY 12 f fd Q8 Q9:=by
 refine F.ok Vx (fun vs H Q E h=>?_) (fun bJ A outer s H vs Q E hr h=>?_)
 ·obtain⟨z,o,rfl,_⟩:=h
  rfl
 ·obtain⟨z,o,rfl,⟨l0,rest,t1,t2,t3,t4,p,ws,t5,t6,t7⟩,ho,q⟩:=h
  refine⟨_,(ai (K_ (i:=1) (EhS H fun C wd=>C=er wd/\o=.no wd) rfl rfl rfl Vx.nd rfl rfl rfl TE.mR (fun pins Ew ft=>(ai (aI (aQ (U aq (U (aA (len_K K rfl) rfl T.len PySem.boot_len (U (aw XS.G (hr.mono (by decide)) rfl XS.m XS.k XS.b .nil aS (U (aw XD.G (hr.mono (by decide)) rfl XD.m XD.k XD.b .nil ft.passes (U (pv 0) ae)) ae)) ae)) ae)))))) (fun pins ea eC edx evs=>(ai (aI (aQ (U (La K rfl (pv 1)) (U (aA (Ez K rfl) rfl T.rJ a9 (U (pv 1) (U (aX (v:=.ref uy) rfl DB.m rfl) ae))) ae)))))))),?_⟩
  refine⟨?_,?_⟩
  ·have fl:∀ wd,o=.no wd->bX (EhS H fun C wd=>C=er wd/\o=.no wd) H (er wd) wd:=fun wd e dx H' sm xq=>⟨er wd,dx,wd,rfl,rfl,sm,xq,rfl,e⟩
   refine⟨_,rfl,z,l0,rest,rfl,t1,t2,t3,t4,p,ws,t5,fun e=>fl _ (t6 e),fun n e=>⟨fun h=>fl _ ((t7 n e).1 h),fun h=>?_⟩⟩
   obtain⟨ds,e1,e2,e3⟩:=(t7 n e).2 h
   refine⟨ds,e1,fun hb=>fl _ (e2 hb),fun hb=>(e3 hb).imp fl fun M so ⟨hso,lso⟩ a H' sm hh=>?_⟩
   refine⟨a,n,M,so,rfl,hh,lso,fun l ts H2 s2 gl tl=>⟨l,_,rfl,.inl (bx.of gl),by show 2<=sizeLine;decide,fun pp hp=>?_⟩⟩
   refine q pp _ (sm.trans (s2.trans (ak.new hp))) ?_
   rw[af,hso,List.length_map,Paired.length tl]
   rfl
  ·rintro c' d H' ⟨C,dx,wd,rfl,rfl,sm,xq,rfl,tu⟩
   have Wq:=EW wd (ho wd tu)
   refine⟨_,dx,rfl,rfl,Wq.ex,fun a vs bf hl=>?_⟩
   match bf,hl with
   | [_,_],_ =>
    refine⟨_,rfl,_,_,rfl,Wq.cls,Wq.na,xq,rfl,_,rfl,_,_,decide (wd = "bad text"),rfl,Wq.cls,xq,Wq.kit,by show 2<=sizeLine;decide,fun pp hp=>q pp _ (sm.trans (ak.new hp)) ?_⟩
    rw[af,tu]
    rfl
def DR:List Str:=["person ada 0", "person bo 1", "partners ada bo", "make moon necklace 5 ada", "sail 1 backward", "give moon bo", "season", "make sun armring 5 bo"]
def qu:List (Str×Str):=[("person ada 1", "taken"),("person eve 20", "no island"),("partners bo ada", "not neighbours"),("partners ada zz", "no person"),("make moon armring 1 ada", "taken"),("make x ring 1 ada", "bad kind"),("make x necklace 0 ada", "bad rank"),("give star bo", "no thing"),("give moon ada", "wrong way"),("sail 1 forward", "away"),("home 2", "not away"),("sail 2 north", "bad way"),("part ada bo", "owing"),("vow sun ada 0", "bad season"),("partners ada bo", "told twice")]
def jD:List Str:=["", "ring 4", "give moon", "Season", "undo", "home 02", "season ", "person A 1"]
def rv(r:Str×Str):V×V:=(.str r.1,.str r.2)
def dA:List (Str×Str):=DR.map fun z=>(z, "")
def B6(r:Str×Str):Prop:=r∈qu\/(r.1∈jD/\r.2 = "bad text")
abbrev Wx:Stmt:=top 99
abbrev nLL:List Str:=["_law_cells", "_law_good", "_law_bad", "_law_rows", "_law_cell_here", "_law_drawn", "_law_odd"]
theorem nK:au nLL ["_law_cells"] (ao Wx):=by right
abbrev Q_:List Str:=["_law_cells"]
def Ra(K:W.Frag):Sp:=fun vs H Q _=>∃ (l:Addr) (cs:List Int),vs=[.ref l]/\bx K H l (cs.map V.int)/\cs.length<=8/\∀ (ex:List (Str×Str)) L ts H',(∀ r∈ex,B6 r)->ex.length<=8->ak H H'->H' L=some (.lst (ts.map V.ref))->cy H' ts ((dA++ex).map rv)->Q (.ref L) H'
theorem oZ{H:Hp}{a:Addr}{o:HO}(h:H a=none):∃ H',upd H a o=H'/\ak H H'/\H' a=some o:=⟨_,rfl,ak.new h,af⟩
theorem _root_.L2.cy.up{H H':Hp}{ts:List Addr}{vs:List (V×V)}(t:cy H ts vs)(e:ak H H'):cy H' ts vs:=cy.same (S:=[]) (bD.of e) (fun _ _ z=>nomatch z) t
theorem _root_.L2.cy.B7{H H':Hp}{ts:List Addr}{vs:List (V×V)}{a:Addr}{x y:V}(t:cy H ts vs)(e:ak H H')(g:H' a=some (.tup [x,y])):cy H' (ts++[a]) (vs++[(x,y)]):=cy.snoc (cy.same (S:=[]) (bD.of e) (fun _ _ z=>nomatch z) t) g
theorem Vz{f fD:Addr}{fd dD:FuncData}(F:d_ K "_law_lines" "_law_lines" Wx f fd)(T:lD mg)(XD:Fc P w K mg base aY 1 "_law_draws" fD dD ["_law_cell_here", "_law_parts"] (sG K)):aE P w K mg base aY 2 f fd Q_ (Ra K):=by
 refine F.ok nK (fun vs H Q E h=>?_) (fun bJ A outer s H vs Q E hr h=>?_)
 ·obtain⟨l,cs,rfl,_⟩:=h
  rfl
 ·obtain⟨l,cs,rfl,hS,hcs,q⟩:=h
  refine⟨_,(aa (aD (i:=1) nK.nd rfl (Or.inl rfl) (cL (U aq (U aq (U aq (U aq (U aq ae))))))) (aa (aD (i:=1) nK.nd rfl (Or.inl rfl) (bb i4 (pv 1) (cL (U aq (U aq (U aq ae)))))) (aa (aD (i:=2) nK.nd rfl (Or.inl rfl) (cL (U (aQ (U aq (U aq ae))) (U (aQ (U aq (U aq ae))) (U (aQ (U aq (U aq ae))) ae))))) (aa (aD (i:=2) nK.nd rfl (Or.inl rfl) (bb i4 (pv 2) (cL (U (aQ (U aq (U aq ae))) (U (aQ (U aq (U aq ae))) ae))))) (aa (aD (i:=2) nK.nd rfl (Or.inl rfl) (bb i4 (pv 2) (cL (U (aQ (U aq (U aq ae))) ae)))) (aa (aD (i:=2) nK.nd rfl (Or.inl rfl) (bb i4 (pv 2) (cL (U (aQ (U aq (U aq ae))) (U (aQ (U aq (U aq ae))) (U (aQ (U aq (U aq ae))) ae)))))) (aa (aD (i:=2) nK.nd rfl (Or.inl rfl) (bb i4 (pv 2) (cL (U (aQ (U aq (U aq ae))) (U (aQ (U aq (U aq ae))) (U (aQ (U aq (U aq ae))) ae)))))) (aa (aD (i:=2) nK.nd rfl (Or.inl rfl) (bb i4 (pv 2) (cL (U (aQ (U aq (U aq ae))) (U (aQ (U aq (U aq ae))) (U (aQ (U aq (U aq ae))) ae)))))) (aa (Di 3 (ao Wx) nLL rfl rfl (by left) nK.nd rfl rfl rfl (jq (pv 1)) (fun C s H fp pins=>(aQ (U (pv 0) (U aq ae)))) (fun C s H fp pins=>iQ)) (aa (tI PassesOwn.never rfl (jq (pv 0)) (bz (i:=4) nK.nd rfl (Or.inl rfl)) (aa (aD (i:=5) nK.nd rfl (Or.inl rfl) (aw XD.G (hr.mono (by decide)) rfl XD.m XD.k XD.b .nil aS (U (pv 4) (U (cL (U az (U az (U az ae)))) ae)))) (ai (aP (aG dH (aV bh (pv 5) az (fun _ _=>rfl)) az (aN _)) (ai (aD (i:=3) nK.nd rfl (Or.inl rfl) (bb i4 (pv 3) (cL (U (aV bh (pv 2) (bb k7 (aV bh (pv 5) az (fun _ _=>rfl)) (aA aT rfl T.len PySem.boot_len (U (pv 2) ae))) (fun _ _=>rfl)) ae))))) (ai (aP (aG dH (aV bh (pv 5) az (fun _ _=>rfl)) az (aN _)) (aa (aD (i:=6) nK.nd rfl (Or.inl rfl) (cL (U aq (U aq (U aq (U aq (U aq (U aq (U aq (U aq ae)))))))))) (ai (aD (i:=3) nK.nd rfl (Or.inl rfl) (bb i4 (pv 3) (cL (U (aQ (U (aV bh (pv 6) (aV bh (pv 5) az (fun _ _=>rfl)) (fun _ _=>rfl)) (U aq ae))) ae)))))) ay)))))) (ai (aI (pv 3))))))))))))),?_⟩
  have w:ak H H:=fun _ _ z=>z
  refine⟨by show 5<=sizeLine;decide,fun G0 hG0=>?_⟩
  obtain⟨H1,u,e,Wy⟩:=oZ (o:=.lst [V.str "person ada 0",V.str "person bo 1",V.str "partners ada bo",V.str "make moon necklace 5 ada",V.str "sail 1 backward"]) hG0;rw[u];clear u;have w:=w.trans e
  refine⟨_,rfl,by show 3<=sizeLine;decide,fun G1 Fo=>?_⟩
  obtain⟨H2,u,e,gG1⟩:=oZ (o:=.lst [V.str "give moon bo",V.str "season",V.str "make sun armring 5 bo"]) Fo;rw[u];clear u;have w:=w.trans e;have Wy:=e _ _ Wy
  refine⟨G0,G1,_,_,rfl,rfl,Wy,gG1,by show 8<=sizeLine;decide,fun G hG=>?_⟩
  obtain⟨H3,u,e,gG⟩:=oZ (o:=.lst ([V.str "person ada 0",V.str "person bo 1",V.str "partners ada bo",V.str "make moon necklace 5 ada",V.str "sail 1 backward"]++[V.str "give moon bo",V.str "season",V.str "make sun armring 5 bo"])) hG;rw[u];clear u;have w:=w.trans e
  have gG:H3 G=some (.lst (DR.map V.str)):=gG
  have NA:=w;have t:cy H3 [] []:=.nil;clear Wy gG1 w;have w:ak H3 H3:=fun _ _ z=>z
  refine⟨by show 2<=sizeLine;decide,fun q0 hq0=>?_⟩
  obtain⟨H4,u,e,gq0⟩:=oZ (o:=.tup [.str "person ada 1",.str "taken"]) hq0;rw[u];clear u;have w:=w.trans e;have t:=t.B7 e gq0
  refine⟨by show 2<=sizeLine;decide,fun q1 hq1=>?_⟩
  obtain⟨H5,u,e,Wz⟩:=oZ (o:=.tup [.str "person eve 20",.str "no island"]) hq1;rw[u];clear u;have w:=w.trans e;have t:=t.B7 e Wz
  refine⟨by show 2<=sizeLine;decide,fun q2 hq2=>?_⟩
  obtain⟨H6,u,e,gq2⟩:=oZ (o:=.tup [.str "partners bo ada",.str "not neighbours"]) hq2;rw[u];clear u;have w:=w.trans e;have t:=t.B7 e gq2
  refine⟨by show 3<=sizeLine;decide,fun L0 hL0=>?_⟩
  obtain⟨H7,u,e,Rb⟩:=oZ (o:=.lst [.ref q0,.ref q1,.ref q2]) hL0;rw[u];clear u;have w:=w.trans e;have t:=t.up e
  refine⟨_,rfl,by show 2<=sizeLine;decide,fun q3 ZZ=>?_⟩
  obtain⟨H8,u,e,Wu⟩:=oZ (o:=.tup [.str "partners ada zz",.str "no person"]) ZZ;rw[u];clear u;have w:=w.trans e;have t:=t.B7 e Wu;have Rb:=e _ _ Rb
  refine⟨by show 2<=sizeLine;decide,fun q4 hq4=>?_⟩
  obtain⟨H9,u,e,gq4⟩:=oZ (o:=.tup [.str "make moon armring 1 ada",.str "taken"]) hq4;rw[u];clear u;have w:=w.trans e;have t:=t.B7 e gq4;have Rb:=e _ _ Rb
  refine⟨by show 2<=sizeLine;decide,fun L1 hL1=>?_⟩
  obtain⟨H10,u,e,gL1⟩:=oZ (o:=.lst [.ref q3,.ref q4]) hL1;rw[u];clear u;have w:=w.trans e;have t:=t.up e;have Rb:=e _ _ Rb
  refine⟨L0,L1,_,_,rfl,rfl,Rb,gL1,by show 5<=sizeLine;decide,fun B1 Nd=>?_⟩
  obtain⟨H11,u,e,Rc⟩:=oZ (o:=.lst ([V.ref q0,V.ref q1,V.ref q2]++[V.ref q3,V.ref q4])) Nd;rw[u];clear u;have w:=w.trans e;have t:=t.up e
  have Rc:H11 B1=some (.lst [.ref q0,.ref q1,.ref q2,.ref q3,.ref q4]):=Rc
  refine⟨_,rfl,by show 2<=sizeLine;decide,fun q5 hq5=>?_⟩
  obtain⟨Kk,u,e,gq5⟩:=oZ (o:=.tup [.str "make x ring 1 ada",.str "bad kind"]) hq5;rw[u];clear u;have w:=w.trans e;have t:=t.B7 e gq5;have Rc:=e _ _ Rc
  refine⟨by show 1<=sizeLine;decide,fun L2 hL2=>?_⟩
  obtain⟨H13,u,e,gL2⟩:=oZ (o:=.lst [.ref q5]) hL2;rw[u];clear u;have w:=w.trans e;have t:=t.up e;have Rc:=e _ _ Rc
  refine⟨B1,L2,_,_,rfl,rfl,Rc,gL2,by show 6<=sizeLine;decide,fun B2 hB2=>?_⟩
  obtain⟨Z5,u,e,Jn⟩:=oZ (o:=.lst ([V.ref q0,V.ref q1,V.ref q2,V.ref q3,V.ref q4]++[V.ref q5])) hB2;rw[u];clear u;have w:=w.trans e;have t:=t.up e
  have Jn:Z5 B2=some (.lst [.ref q0,.ref q1,.ref q2,.ref q3,.ref q4,.ref q5]):=Jn
  refine⟨_,rfl,by show 2<=sizeLine;decide,fun q6 hq6=>?_⟩
  obtain⟨NB,u,e,gq6⟩:=oZ (o:=.tup [.str "make x necklace 0 ada",.str "bad rank"]) hq6;rw[u];clear u;have w:=w.trans e;have t:=t.B7 e gq6;have Jn:=e _ _ Jn
  refine⟨by show 2<=sizeLine;decide,fun q7 hq7=>?_⟩
  obtain⟨Z8,u,e,gq7⟩:=oZ (o:=.tup [.str "give star bo",.str "no thing"]) hq7;rw[u];clear u;have w:=w.trans e;have t:=t.B7 e gq7;have Jn:=e _ _ Jn
  refine⟨by show 2<=sizeLine;decide,fun q8 hq8=>?_⟩
  obtain⟨QM,u,e,gq8⟩:=oZ (o:=.tup [.str "give moon ada",.str "wrong way"]) hq8;rw[u];clear u;have w:=w.trans e;have t:=t.B7 e gq8;have Jn:=e _ _ Jn
  refine⟨by show 3<=sizeLine;decide,fun L3 hL3=>?_⟩
  obtain⟨BV,u,e,gL3⟩:=oZ (o:=.lst [.ref q6,.ref q7,.ref q8]) hL3;rw[u];clear u;have w:=w.trans e;have t:=t.up e;have Jn:=e _ _ Jn
  refine⟨B2,L3,_,_,rfl,rfl,Jn,gL3,by show 9<=sizeLine;decide,fun B3 hB3=>?_⟩
  obtain⟨H19,u,e,DS⟩:=oZ (o:=.lst ([V.ref q0,V.ref q1,V.ref q2,V.ref q3,V.ref q4,V.ref q5]++[V.ref q6,V.ref q7,V.ref q8])) hB3;rw[u];clear u;have w:=w.trans e;have t:=t.up e
  have DS:H19 B3=some (.lst [.ref q0,.ref q1,.ref q2,.ref q3,.ref q4,.ref q5,.ref q6,.ref q7,.ref q8]):=DS
  refine⟨_,rfl,by show 2<=sizeLine;decide,fun q9 hq9=>?_⟩
  obtain⟨H20,u,e,gq9⟩:=oZ (o:=.tup [.str "sail 1 forward",.str "away"]) hq9;rw[u];clear u;have w:=w.trans e;have t:=t.B7 e gq9;have DS:=e _ _ DS
  refine⟨by show 2<=sizeLine;decide,fun Km aaq=>?_⟩
  obtain⟨H21,u,e,aar⟩:=oZ (o:=.tup [.str "home 2",.str "not away"]) aaq;rw[u];clear u;have w:=w.trans e;have t:=t.B7 e aar;have DS:=e _ _ DS
  refine⟨by show 2<=sizeLine;decide,fun Kn aas=>?_⟩
  obtain⟨H22,u,e,aat⟩:=oZ (o:=.tup [.str "sail 2 north",.str "bad way"]) aas;rw[u];clear u;have w:=w.trans e;have t:=t.B7 e aat;have DS:=e _ _ DS
  refine⟨by show 3<=sizeLine;decide,fun L4 hL4=>?_⟩
  obtain⟨H23,u,e,gL4⟩:=oZ (o:=.lst [.ref q9,.ref Km,.ref Kn]) hL4;rw[u];clear u;have w:=w.trans e;have t:=t.up e;have DS:=e _ _ DS
  refine⟨B3,L4,_,_,rfl,rfl,DS,gL4,by show 12<=sizeLine;decide,fun B4 hB4=>?_⟩
  obtain⟨H24,u,e,Jo⟩:=oZ (o:=.lst ([V.ref q0,V.ref q1,V.ref q2,V.ref q3,V.ref q4,V.ref q5,V.ref q6,V.ref q7,V.ref q8]++[V.ref q9,V.ref Km,V.ref Kn])) hB4;rw[u];clear u;have w:=w.trans e;have t:=t.up e
  have Jo:H24 B4=some (.lst [.ref q0,.ref q1,.ref q2,.ref q3,.ref q4,.ref q5,.ref q6,.ref q7,.ref q8,.ref q9,.ref Km,.ref Kn]):=Jo
  refine⟨_,rfl,by show 2<=sizeLine;decide,fun NG aau=>?_⟩
  obtain⟨H25,u,e,aav⟩:=oZ (o:=.tup [.str "part ada bo",.str "owing"]) aau;rw[u];clear u;have w:=w.trans e;have t:=t.B7 e aav;have Jo:=e _ _ Jo
  refine⟨by show 2<=sizeLine;decide,fun NH aaw=>?_⟩
  obtain⟨H26,u,e,aax⟩:=oZ (o:=.tup [.str "vow sun ada 0",.str "bad season"]) aaw;rw[u];clear u;have w:=w.trans e;have t:=t.B7 e aax;have Jo:=e _ _ Jo
  refine⟨by show 2<=sizeLine;decide,fun NI aay=>?_⟩
  obtain⟨H27,u,e,aaz⟩:=oZ (o:=.tup [.str "partners ada bo",.str "told twice"]) aay;rw[u];clear u;have w:=w.trans e;have t:=t.B7 e aaz;have Jo:=e _ _ Jo
  refine⟨by show 3<=sizeLine;decide,fun L5 hL5=>?_⟩
  obtain⟨H28,u,e,WA⟩:=oZ (o:=.lst [.ref NG,.ref NH,.ref NI]) hL5;rw[u];clear u;have w:=w.trans e;have t:=t.up e;have Jo:=e _ _ Jo
  refine⟨B4,L5,_,_,rfl,rfl,Jo,WA,by show 15<=sizeLine;decide,fun B5 hB5=>?_⟩
  obtain⟨H29,u,e,VA⟩:=oZ (o:=.lst ([V.ref q0,V.ref q1,V.ref q2,V.ref q3,V.ref q4,V.ref q5,V.ref q6,V.ref q7,V.ref q8,V.ref q9,V.ref Km,V.ref Kn]++[V.ref NG,V.ref NH,V.ref NI])) hB5;rw[u];clear u;have w:=w.trans e;have t:=t.up e
  have VA:H29 B5=some (.lst [.ref q0,.ref q1,.ref q2,.ref q3,.ref q4,.ref q5,.ref q6,.ref q7,.ref q8,.ref q9,.ref Km,.ref Kn,.ref NG,.ref NH,.ref NI]):=VA
  have gG:=w _ _ gG
  have SS:=NA.trans w
  have tB:cy H29 [q0,q1,q2,q3,q4,q5,q6,q7,q8,q9,Km,Kn,NG,NH,NI] (qu.map rv):=t
  have lB:[V.ref q0,V.ref q1,V.ref q2,V.ref q3,V.ref q4,V.ref q5,V.ref q6,V.ref q7,V.ref q8,V.ref q9,V.ref Km,V.ref Kn,V.ref NG,V.ref NH,V.ref NI]=[q0,q1,q2,q3,q4,q5,q6,q7,q8,q9,Km,Kn,NG,NH,NI].map V.ref:=rfl
  rw[lB] at VA
  have tl:[q0,q1,q2,q3,q4,q5,q6,q7,q8,q9,Km,Kn,NG,NH,NI].length=15:=rfl
  clear t w e
  generalize [q0,q1,q2,q3,q4,q5,q6,q7,q8,q9,Km,Kn,NG,NH,NI]=ts at tB VA tl
  refine⟨_,rfl,G,rfl,⟨_,bx.of gG⟩,fun D hD=>?_⟩
  refine EL (fun _=>V.str "") (bx.of gG) hD (by show 8<=sizeLine;decide) (fun x hx H' R sm k=>⟨_,rfl,by show 2<=sizeLine;decide,fun t ht=>k H' t (ak.refl _) ht⟩) (fun tR HC sC gR nD tv=>?_)
  have s0C:=SS.trans sC
  have tv0:cy HC tR (dA.map rv):=tv
  have gBC:=sC _ _ VA
  have tBC:cy HC ts (qu.map rv):=cy.same (S:=[]) (bD.of sC) (fun _ _ z=>nomatch z) tB
  refine⟨_,rfl,l,rfl,⟨_,s0C.seq hS⟩,tJ (K:=K) (a:=l) (xs:=cs.map V.int) (fun i bf H'=>∃ (R:Addr) (tr:List Addr) (ex:List (Str×Str)) (o4 o5 o6:Option V),bf=[some (.ref l),some (.ref G),some (.ref B5),some (.ref R),o4,o5,o6]/\ak HC H'/\H' R=some (.lst (tr.map V.ref))/\cy H' tr ((dA++ex).map rv)/\(∀ r∈ex,B6 r)/\ex.length<=i) ⟨D,tR,[],_,_,_,rfl,ak.refl _,gR,by rw[List.append_nil];exact tv0,(fun r h=>nomatch h),Nat.le_refl _⟩ (fun i bf H' _ ⟨_,_,_,_,_,_,_,sm,_⟩=>(s0C.trans sm).seq hS) (fun i x bf H' hx z=>?_) (fun bf H' z=>?_)⟩
  ·obtain⟨R,tr,ex,o4,o5,o6,rfl,sm,gR',R3,hex,lex⟩:=z
   rw[List.getElem?_map] at hx
   obtain⟨c,ec,rfl⟩:=Option.map_eq_some_iff.mp hx
   have hi:i<cs.length:=(List.getElem?_eq_some_iff.mp ec).1
   have ltr:tr.length<=100:=by
    rw[R3.len,List.length_map,List.length_append]
    have:dA.length=8:=rfl
    omega
   refine⟨_,rfl,by show 3<=sizeLine;decide,fun p1 h1=>?_⟩
   refine⟨c,p1,[5,61,8],rfl,bx.of af,by decide,by decide,fun ds dl H3 hd PL nl gl=>?_⟩
   have s3:ak H' H3:=(ak.new h1).trans PL
   obtain⟨d0,d1,d2,rfl,b1,b2⟩:∃ d0 d1 d2:Int,ds=[d0,d1,d2]/\Below d1 61/\Below d2 8:=by
    cases hd with
    | cons b0 hd=>cases hd with
     | cons b1 hd=>cases hd with
      | cons b2 hd=>cases hd;exact⟨_,_,_,rfl,b1,b2⟩
   clear hd PL nl h1
   have gR3:=s3 _ _ gR'
   have tv3:cy H3 tr ((dA++ex).map rv):=cy.same (S:=[]) (bD.of s3) (fun _ _ z=>nomatch z) R3
   have DS:=s3 _ _ (sm _ _ gBC)
   have tB3:cy H3 ts (qu.map rv):=cy.same (S:=[]) (bD.of (sm.trans s3)) (fun _ _ z=>nomatch z) tBC
   refine⟨_,rfl,dl,_,0,_,rfl,rfl,bx.of gl,aH (j:=0) rfl,rfl,_,rfl,?_⟩
   refine eg (fun q0=>?_) (fun q0=>?_)
   ·refine⟨_,rfl,_,rfl,_,rfl,dl,_,1,_,rfl,rfl,bx.of gl,aH (j:=1) rfl,_,rfl,B5,_,rfl,.inl (bx.of DS),?_⟩
    rw[List.length_map,tl]
    have hm:0<=d1%((15:Nat):Int)/\d1%((15:Nat):Int)<15:=⟨Int.emod_nonneg _ (by decide),Int.emod_lt_of_pos _ (by decide)⟩
    obtain⟨k,ek⟩:=Int.eq_ofNat_of_zero_le hm.1
    have hk:k<ts.length:=by rw[tl];have:=hm.2;rw[ek] at this;omega
    have et:ts[k]?=some ts[k]:=List.getElem?_eq_getElem hk
    obtain⟨qv,eq,gq⟩:=tB3.get et
    rw[List.getElem?_map] at eq
    obtain⟨r,er',rfl⟩:=Option.map_eq_some_iff.mp eq
    have at1:vc (ts.map V.ref) (d1%((15:Nat):Int))=some (.ref ts[k]):=by rw[ek];exact aH (by rw[List.getElem?_map,et];rfl)
    refine⟨_,_,rfl,rfl,show(0:Int)<((15:Nat):Int) by decide,B5,_,_,_,rfl,rfl,bx.of DS,at1,by show 1<=sizeLine;decide,fun p2 h2=>?_⟩
    refine⟨R,p2,_,_,rfl,rfl,ak.new h2 _ _ gR3,af,by rw[List.length_map];exact big (by show tr.length+1<=1000;omega),fun p3 h3=>?_⟩
    have s5:ak H3 _:=(ak.new (o:=.lst [.ref ts[k]]) h2).trans (ak.new (o:=.lst (tr.map V.ref++[.ref ts[k]])) h3)
    refine⟨p3,tr++[ts[k]],ex++[r],_,_,_,rfl,sm.trans (s3.trans s5),by rw[af,List.map_append];rfl,?_,fun r' F7=>?_,by rw[List.length_append];show ex.length+1<=i+1;omega⟩
    ·rw[<- List.append_assoc,List.map_append]
     exact cy.snoc (cy.same (S:=[]) (bD.of s5) (fun _ _ z=>nomatch z) tv3) (s5 _ _ gq)
    ·rcases List.mem_append.mp F7 with z | z
     ·exact hex r' z
     ·rw[List.mem_singleton.mp z]
      exact .inl (List.mem_of_getElem? er')
   ·refine⟨_,rfl,dl,_,0,_,rfl,rfl,bx.of gl,aH (j:=0) rfl,rfl,_,rfl,?_⟩
    refine eg (fun q1=>?_) (fun q1=>?_)
    ·refine⟨by show 8<=sizeLine;decide,fun p2 h2=>?_⟩
     have e2:ak H3 (upd H3 p2 (.lst (jD.map V.str))):=ak.new h2
     obtain⟨k,ek⟩:=Int.eq_ofNat_of_zero_le b2.1
     have hk:k<jD.length:=by have:jD.length=8:=rfl;have:=b2.2;omega
     have eo:jD[k]?=some jD[k]:=List.getElem?_eq_getElem hk
     have at2:vc (jD.map V.str) d2=some (.str jD[k]):=by rw[ek];exact aH (by rw[List.getElem?_map,eo];rfl)
     have g2:upd H3 p2 (.lst (jD.map V.str)) p2=some (.lst (jD.map V.str)):=af
     refine⟨_,rfl,_,rfl,_,rfl,dl,_,2,_,rfl,rfl,bx.of (e2 _ _ gl),aH (j:=2) rfl,p2,_,_,_,rfl,rfl,bx.of g2,at2,by show 2<=sizeLine;decide,fun p3 h3=>⟨by show 1<=sizeLine;decide,fun p4 h4=>?_⟩⟩
     have e3:ak (upd H3 p2 (.lst (jD.map V.str))) (upd (upd H3 p2 (.lst (jD.map V.str))) p3 (.tup [.str jD[k],.str "bad text"])):=ak.new h3
     have g3:upd (upd H3 p2 (.lst (jD.map V.str))) p3 (.tup [.str jD[k],.str "bad text"]) p3=some (.tup [.str jD[k],.str "bad text"]):=af
     have h4':upd (upd H3 p2 (.lst (jD.map V.str))) p3 (.tup [.str jD[k],.str "bad text"]) p4=none:=h4
     have e4:=ak.new (o:=.lst [.ref p3]) h4'
     have e24:=e2.trans (e3.trans e4)
     refine⟨R,p4,_,_,rfl,rfl,e24 _ _ gR3,af,by rw[List.length_map];exact big (by show tr.length+1<=1000;omega),fun p5 h5=>?_⟩
     have e5:=ak.new (o:=.lst (tr.map V.ref++[.ref p3])) h5
     have s5:=e24.trans e5
     refine⟨p5,tr++[p3],ex++[(jD[k],("bad text" : Str))],_,_,_,rfl,sm.trans (s3.trans s5),by rw[af,List.map_append];rfl,?_,fun r' F7=>?_,by rw[List.length_append];show ex.length+1<=i+1;omega⟩
     ·rw[<- List.append_assoc,List.map_append]
      exact cy.snoc (cy.same (S:=[]) (bD.of s5) (fun _ _ z=>nomatch z) tv3) (e5 _ _ (e4 _ _ g3))
     ·rcases List.mem_append.mp F7 with z | z
      ·exact hex r' z
      ·rw[List.mem_singleton.mp z]
       exact .inr ⟨List.mem_of_getElem? eo,rfl⟩
    ·exact⟨R,tr,ex,_,_,_,rfl,sm.trans s3,gR3,tv3,hex,by omega⟩
  ·obtain⟨R,tr,ex,o4,o5,o6,rfl,sm,gR',R3,hex,lex⟩:=z
   exact⟨_,rfl,q ex R tr H' hex (by rw[List.length_map] at lex;omega) (s0C.trans sm) gR' R3⟩
def qw:List Dd:=[.person "ada" 0,.person "bo" 1,.eB "ada" "bo",.make "moon" "necklace" 5 "ada",.vD 1 "backward",.give "moon" "bo",.kj,.make "sun" "armring" 5 "bo"]
def zY:List Dd:=[.person "ada" 1,.person "eve" 20,.eB "bo" "ada",.eB "ada" "zz",.make "moon" "armring" 1 "ada",.make "x" "ring" 1 "ada",.make "x" "necklace" 0 "ada",.give "star" "bo",.give "moon" "ada",.vD 1 "forward",.Jl 2,.vD 2 "north",.part "ada" "bo",.Vp "sun" "ada" 0,.eB "ada" "bo"]
theorem DU:DR.map qr=qw.map (fun d=>some d.v):=by left
theorem Jp:qu.map (fun r=>qr r.1)=zY.map (fun d=>some d.v):=by left
theorem Rf:∀ z∈jD,qr z=none:=by left
def o7(z:Str):Bool:=decide (10∉cps z)&&decide (z.length<=100)
theorem Fx:∀ z∈DR,o7 z=true:=by left
theorem Jq:∀ r∈qu,o7 r.1=true:=by left
theorem Jr:∀ z∈jD,o7 z=true:=by left
def Js(n:Int):Str:=Str.ofString "ring " ++ Str.ofString (toString n)
def xO(z:Str):Option Int:=match Txt.split z oW with
 | []=>none
 | p::ws=>Kl p ws
theorem Rg:∀ k:Fin 21,xO (Js (2+(k.val:Int)))=some (2+(k.val:Int))/\o7 (Js (2+(k.val:Int)))=true:=by left
def i6:List Str:=["ring", "Ring 4", "ring 04", "ring 4 ", "ring -4", "rings 4", "", "ring 1234567890", "ring x", "ring 4x", "ring +4", "ring  4", " ring 4", "ring 4 5", "ring 4."]
theorem Mi:∀ z∈i6,xO z=none/\o7 z=true:=by left
theorem o_:∀ r∈qu,r.2∈kq/\r.2 ≠ "bad text" /\ r.2 ≠ "" := by left
def ma(bo:List ((Str×Str)×(de×List Int)))(th:List (Str×Th))(fl:List (Int×Int))(gi:List Gf)(now:Int):Hs:=⟨[("ada",0),("bo",1)],bo,th,fl,gi,[],now⟩
def vE:Str×Str:=("ada", "bo")
def mW:Th:=⟨true,5,[(0, "ada")]⟩
def wK:Th:=⟨true,5,[(0, "ada"),(0, "bo")]⟩
def VB:Th:=⟨false,5,[(1, "bo")]⟩
def WB:Gf:=⟨0, "moon", "ada", "bo",0,5⟩
def m1:Hs:=⟨[("ada",0)],[],[],[],[],[],0⟩
def m2:Hs:=ma [] [] [] [] 0
def m3:Hs:=ma [(vE,(P0,[]))] [] [] [] 0
def m4:Hs:=ma [(vE,(P0,[]))] [("moon",mW)] [] [] 0
def m5:Hs:=ma [(vE,(P0,[]))] [("moon",mW)] [(1,0)] [] 0
def m6(p:de):Hs:=ma [(vE,(p,[0]))] [("moon",wK)] [(1,0)] [WB] 0
def m7(p:de):Hs:=ma [(vE,(p,[0]))] [("moon",wK)] [(1,0)] [WB] 1
def m8(p:de):Hs:=ma [(vE,(p,[0]))] [("moon",wK),("sun",VB)] [(1,0)] [WB] 1
theorem DV{κ α:Type}[DecidableEq κ](x:κ)(y z:α):oS [(x,y)] x z=[(x,z)]:=by simp [oS]
section
variable{n:Int}(h3:3<=n)(jQ:n<=20){G:Str->Prop}{fin:Hs->List (List V)->Prop}{ex:List Dd}
theorem qx{n:Int}{M:Hs}{so:List (List V)}(h3:3<=n)(jQ:n<=20)(a:M.pe.length<=100)(b:M.bo.length<=1)(c:M.th.length<=100)(d:M.fl.length<=100)(e:M.gi.length<=100)(f:M.pr.length<=100)(g:so.length<=100):ES n M so:=⟨h3,jQ,a,b,c,d,e,f,g⟩
include h3 jQ
theorem r1(k:dz n G fin ex m1 [[.str "person",.str "ada",.int 0]]):dz n G fin (.person "ada" 0::ex) Ni []:=by
 have wd:Dd.wd n Ni (.person "ada" 0) = "" := by
  show kO n Ni "ada" 0 = ""
  unfold kO
  rw[if_neg (by left),if_neg (by left),if_neg (fun h=>h ⟨by decide,by omega⟩)]
 refine⟨qx h3 jQ (by decide) (by decide) (by decide) (by decide) (by decide) (by decide) (by decide),show("ada" : Str).length<=100 by left,fun h=>absurd wd h,fun _ M' e=>?_⟩
 subst e
 exact k
theorem r2{so:List (List V)}(hs:so.length<=100)(k:dz n G fin ex m2 (so++[[.str "person",.str "bo",.int 1]])):dz n G fin (.person "bo" 1::ex) m1 so:=by
 have wd:Dd.wd n m1 (.person "bo" 1) = "" := by
  show kO n m1 "bo" 1 = ""
  unfold kO
  rw[if_neg (by left),if_neg (by left),if_neg (fun h=>h ⟨by decide,by omega⟩)]
 refine⟨qx h3 jQ (by decide) (by decide) (by decide) (by decide) (by decide) (by decide) hs,show("bo" : Str).length<=100 by left,fun h=>absurd wd h,fun _ M' e=>?_⟩
 subst e
 have:({ m1 with pe:=oS m1.pe "bo" 1 }:Hs)=m2:=by
  rw[Dt _ (show bc m1.pe "bo" = none by left)]
  rfl
 rw[this]
 exact k
theorem xP{bo:List ((Str×Str)×(de×List Int))}{th:List (Str×Th)}{fl:List (Int×Int)}{gi:List Gf}{now:Int}:ZD n (ma bo th fl gi now):=fun x i e=>by
 unfold ma at e
 rw[iw] at e
 by_cases c:("ada" : Str)=x
 ·rw[if_pos c] at e;cases e;exact⟨by decide,by omega⟩
 ·rw[if_neg c,iw] at e
  by_cases c:("bo" : Str)=x
  ·rw[if_pos c] at e;cases e;exact⟨by decide,by omega⟩
  ·rw[if_neg c] at e;cases e
theorem r3{so:List (List V)}(hs:so.length<=100)(k:dz n G fin ex m3 (so++[[.str "partners",.str "ada",.str "bo"]])):dz n G fin (.eB "ada" "bo" :: ex) m2 so:=by
 have nb:Ki n m2 "ada" "bo" = true:=by
  unfold Ki
  rw[show bc m2.pe "ada" = some 0 by left,show bc m2.pe "bo" = some 1 by left]
  exact decide_eq_true (by show(1 - 0:Int)%n=1;exact Int.emod_eq_of_lt (by decide) (by omega))
 have wd:Dd.wd n m2 (.eB "ada" "bo") = "" := by
  show kP n m2 "ada" "bo" = ""
  unfold kP
  rw[if_neg (by left),if_neg (by left),if_neg (by rw[nb];exact fun z=>nomatch z),if_neg (by left)]
 refine⟨qx h3 jQ (by decide) (by decide) (by decide) (by decide) (by decide) (by decide) hs,⟨xP h3 jQ,by left,by left⟩,fun h=>absurd wd h,fun _ M' e=>?_⟩
 subst e
 exact k
theorem r4{so:List (List V)}(hs:so.length<=100)(k:dz n G fin ex m4 (so++[[.str "make",.str "moon",.str "necklace",.int 5,.str "ada"]])):dz n G fin (.make "moon" "necklace" 5 "ada" :: ex) m3 so:=by
 have wd:Dd.wd n m3 (.make "moon" "necklace" 5 "ada") = "" := by
  show jP m3 "moon" "necklace" 5 "ada" = ""
  unfold jP
  rw[if_neg (by left),if_neg (by left),if_neg (by left),if_neg (by decide),if_neg (by left)]
 refine⟨qx h3 jQ (by decide) (by decide) (by decide) (by decide) (by decide) (by decide) hs,show("moon" : Str).length<=100 by left,fun h=>absurd wd h,fun _ M' e=>?_⟩
 subst e
 have:Md "necklace" = true:=by left
 rw[this]
 exact k
theorem r5{so:List (List V)}(hs:so.length<=100)(k:dz n G fin ex m5 (so++[[.str "sail",.int 1,.str "backward"]])):dz n G fin (.vD 1 "backward" :: ex) m4 so:=by
 have wd:Dd.wd n m4 (.vD 1 "backward") = "" := by
  show qp n m4 1 "backward" = ""
  unfold qp
  rw[if_neg (fun h=>h ⟨by decide,by omega⟩),if_neg (by left),if_neg (by left)]
 refine⟨qx h3 jQ (by decide) (by decide) (by decide) (by decide) (by decide) (by decide) hs,trivial,fun h=>absurd wd h,fun _ M' e=>?_⟩
 subst e
 have:zW "backward" = -1:=by left
 rw[this,show(1+-1:Int)%n=0 from Int.zero_emod n]
 exact k
end
theorem ky{κ α:Type}[DecidableEq κ](x:κ)(y:α)(r:List (κ×α)):bc ((x,y)::r) x=some y:=by rw[iw,if_pos rfl]
theorem uz{κ α:Type}[DecidableEq κ]{x z:κ}(y:α)(r:List (κ×α))(h:x≠z):bc ((x,y)::r) z=bc r z:=by rw[iw,if_neg h]
theorem aa4:Val P0 0:=⟨⟨rfl,rfl,rfl⟩,fun i j h=>by
 have:P0.aR i=none:=by
  show([]:List (Option Nat)).getD i none=none
  rfl
 rw[this] at h
 cases h⟩
theorem aa5{n:Int}(h3:3<=n)(jQ:n<=20):R0 n m5 "moon" "bo" mW "ada" (P0,[]) 0 where
 n3:=fun z=>by rcases z with z | z<;>omega
 bo:=by decide
 th:=by decide
 gi:=by decide
 et:=ky _ _ _
 ez:=rfl
 tl:=by decide
 rk:=by
  show(1:Int)<=5+((1:Nat) - 1:Int) / n
  rw[show(((1:Nat):Int) - 1)=0 from rfl,Int.zero_ediv]
  decide
 eb:=ky _ _ _
 v:=aa4
 hk:=by decide
 bl:=by decide
 pr:=rfl
theorem r6{n:Int}(h3:3<=n)(jQ:n<=20){G:Str->Prop}{fin:Hs->List (List V)->Prop}{ex:List Dd}{so:List (List V)}(hs:so.length<=100)(k:∀ p,Val p 1->dz n G fin ex (m6 p) (so++[[.str "give",.str "moon",.str "bo"]])):dz n G fin (.give "moon" "bo" :: ex) m5 so:=by
 have et:bc m5.th "moon" = some mW:=ky _ _ _
 have eb:bc m5.bo vE=some (P0,[]):=ky _ _ _
 have e1:bc m5.pe "bo" = some 1:=by left
 have e0:bc m5.pe "ada" = some 0:=by left
 have ps:qo m5 "moon" "bo" = "" := by
  unfold qo
  rw[et]
  show(if (bc m5.pe "bo").isSome=false then _ else (if (gk m5 "ada" "bo" || gk m5 "bo" "ada")=false then _ else if (bc m5.bo (gJ true "ada" "bo")).isSome=false then _ else _))=_
  rw[if_neg (by rw[e1];exact fun z=>nomatch z)]
  unfold gk
  rw[show(("ada" : Str),("bo" : Str))=vE from rfl,eb,if_neg (by exact fun z=>nomatch z),show gJ true "ada" "bo" = vE from rfl,eb,if_neg (by exact fun z=>nomatch z)]
 have fb:R4 m5 "moon" "bo" = true:=by
  unfold R4
  rw[et]
  show(match bc m5.pe "bo",bc m5.pe "ada" with | some i,some j=>decide (bc m5.fl i=some j) | _,_=>false)=true
  rw[e1,e0]
  decide
 have wd:Dd.wd n m5 (.give "moon" "bo") = "" := by
  show oY m5 "moon" "bo" = ""
  unfold oY
  rw[if_pos ps,if_pos fb]
 refine⟨qx h3 jQ (by decide) (by decide) (by decide) (by decide) (by decide) (by decide) hs,⟨by left,by left,fun t e=>?_,fun _=>⟨mW, "ada",(P0,[]),0,1,0,aa5 h3 jQ,by left,e1,e0⟩⟩,fun h=>absurd wd h,fun _ M' e=>?_⟩
 ·rw[et] at e
  cases e
  exact⟨"ada",rfl,by left⟩
 ·obtain⟨t,z,b,kk,p',g,set,rfl⟩:=e
  have e2:=g.et
  rw[et] at e2
  cases e2
  have e3:some ("ada" : Str)=some z:=g.ez
  cases e3
  have e4:=g.eb
  rw[show gJ mW.kd "ada" "bo" = vE from rfl,eb] at e4
  cases e4
  have e5:kk=0:=g.v.len.k.symm
  subst e5
  have:Je n m5 "moon" "bo" "ada" mW (P0,[]) p'=m6 p':=by
   have r5:F_ n mW=5:=by
    show 5+(((1:Nat):Int) - 1) / n=5
    rw[show(((1:Nat):Int) - 1)=0 from rfl,Int.zero_ediv]
    rfl
   unfold Je
   rw[r5,show gJ mW.kd "ada" "bo" = vE from rfl]
   show(⟨_,oS [(vE,(P0,[]))] vE (p',[0]),oS [("moon",mW)] "moon" wK,_,_,_,_⟩:Hs)=_
   rw[DV,DV]
   rfl
  rw[this]
  exact k p' set.len
section
variable{n:Int}(h3:3<=n)(jQ:n<=20){G:Str->Prop}{fin:Hs->List (List V)->Prop}{ex:List Dd}
include h3 jQ
omit h3 jQ in
theorem Rh(h3:3<=n)(jQ:n<=20){so:List (List V)}{p:de}{th:List (Str×Th)}{now:Int}(ht:th.length<=2)(hs:so.length<=100):ES n (ma [(vE,(p,[0]))] th [(1,0)] [WB] now) so :=
 ⟨h3,jQ,show 2<=100 by decide,show 1<=1 by decide,show th.length<=100 by omega,show 1<=100 by decide,show 1<=100 by decide,show 0<=100 by decide,hs⟩
theorem r7{so:List (List V)}{p:de}(hs:so.length<=100)(k:dz n G fin ex (m7 p) (so++[[.str "season"]])):dz n G fin (.kj::ex) (m6 p) so :=
 ⟨Rh h3 jQ (by show 1<=2;decide) hs,rfl,fun h=>absurd rfl h,fun _ M' e=>by subst e;exact k⟩
theorem r8{so:List (List V)}{p:de}(hs:so.length<=100)(k:dz n G fin ex (m8 p) (so++[[.str "make",.str "sun",.str "armring",.int 5,.str "bo"]])):dz n G fin (.make "sun" "armring" 5 "bo" :: ex) (m7 p) so:=by
 have es:bc (m7 p).th "sun" = none:=by
  show bc [("moon",wK)] "sun" = none
  rw[uz _ _ (by left)]
  rfl
 have wd:Dd.wd n (m7 p) (.make "sun" "armring" 5 "bo") = "" := by
  show jP (m7 p) "sun" "armring" 5 "bo" = ""
  unfold jP
  rw[if_neg (by left),if_neg (by rw[es];exact Bool.false_ne_true),if_neg (by left),if_neg (by decide),if_neg (show ¬ (bc (m7 p).pe "bo").isSome=false from (by left:¬ (bc m5.pe "bo").isSome=false))]
 refine⟨Rh h3 jQ (by show 1<=2;decide) hs,show("sun" : Str).length<=100 by left,fun h=>absurd wd h,fun _ M' e=>?_⟩
 subst e
 have:Md "armring" = false:=by left
 rw[this,Dt _ es]
 exact k
end
theorem VC{p:de}(v:Val p 1):(p.oP 1).isEmpty=false:=by
 have:p.aR 0=none:=by
  cases h:p.aR 0 with
  | none=>rfl
  | some j =>
   obtain⟨h1,_,h3⟩:=v.inv 0 j h
   have:j=0:=by omega
   subst this
   unfold de.fit at h3
   rw[show max 0 0=0 from rfl,show min 0 0=0 from rfl] at h3
   cases hk:p.kindAt 0<;>rw[hk] at h3<;>exact absurd h3 Bool.false_ne_true
 show((List.range 1).filter fun i=>(p.aR i).isNone).isEmpty=false
 show([0].filter fun i=>(p.aR i).isNone).isEmpty=false
 rw[List.filter_cons,this]
 rfl
section
variable{n:Int}(h3:3<=n)(jQ:n<=20){p:de}(v:Val p 1)
theorem Mj:bc (m8 p).pe "ada" = some 0:=(by left:bc m5.pe "ada" = some 0)
theorem VD:bc (m8 p).pe "bo" = some 1:=(by left:bc m5.pe "bo" = some 1)
theorem thM:bc (m8 p).th "moon" = some wK:=ky _ _ _
theorem thS:bc (m8 p).th "sun" = some VB:=(uz _ _ (by left)).trans (ky _ _ _)
theorem thN{z:Str}(h1:("moon" : Str)≠z)(h2:("sun" : Str)≠z):bc (m8 p).th z=none:=(uz _ _ h1).trans (uz _ _ h2)
theorem VE:bc (m8 p).bo vE=some (p,[0]):=ky _ _ _
theorem boN{k:Str×Str}(h:vE≠k):bc (m8 p).bo k=none:=uz _ _ h
theorem sbA:gk (m8 p) "ada" "bo" = true:=by
 show(bc (m8 p).bo vE).isSome=true
 rw[VE];rfl
include h3 jQ v
theorem Ri:∀ (i:Nat) (d:Dd) (r:Str×Str),zY[i]?=some d->qu[i]?=some r->d.ok n (m8 p)/\d.wd n (m8 p)=r.2:=by
 intro i d r hd hr
 match i,hd,hr with
 | 0,hd,hr =>
  cases hd;cases hr
  refine⟨show("ada" : Str).length<=100 by left,?_⟩
  show kO n (m8 p) "ada" 1 = "taken"
  unfold kO
  rw[if_neg (by left),if_pos (by rw[Mj];rfl)]
 | 1,hd,hr =>
  cases hd;cases hr
  refine⟨show("eve" : Str).length<=100 by left,?_⟩
  show kO n (m8 p) "eve" 20 = "no island"
  unfold kO
  rw[if_neg (by left),if_neg (show ¬ (bc (m8 p).pe "eve").isSome=true from (by left:¬ (bc m5.pe "eve").isSome=true)),if_pos (fun h=>by omega)]
 | 2,hd,hr =>
  cases hd;cases hr
  refine⟨⟨xP h3 jQ,by left,by left⟩,?_⟩
  show kP n (m8 p) "bo" "ada" = "not neighbours"
  have nb:Ki n (m8 p) "bo" "ada" = false:=by
   unfold Ki
   rw[VD,Mj]
   refine decide_eq_false ?_
   rw[show(0 - 1:Int)=(n - 1)+n*(-1) by omega,Int.add_mul_emod_self_left,Int.emod_eq_of_lt (by omega) (by omega)]
   omega
  unfold kP
  rw[if_neg (by rw[VD];exact fun z=>nomatch z),if_neg (by rw[Mj];exact fun z=>nomatch z),if_pos nb]
 | 3,hd,hr =>
  cases hd;cases hr
  refine⟨⟨xP h3 jQ,by left,by left⟩,?_⟩
  show kP n (m8 p) "ada" "zz" = "no person"
  unfold kP
  rw[if_neg (by rw[Mj];exact fun z=>nomatch z),if_pos (show(bc (m8 p).pe "zz").isSome=false from (by left:(bc m5.pe "zz").isSome=false))]
 | 4,hd,hr =>
  cases hd;cases hr
  refine⟨show("moon" : Str).length<=100 by left,?_⟩
  show jP (m8 p) "moon" "armring" 1 "ada" = "taken"
  unfold jP
  rw[if_neg (by left),if_pos (by rw[thM];rfl)]
 | 5,hd,hr =>
  cases hd;cases hr
  refine⟨show("x" : Str).length<=100 by left,?_⟩
  show jP (m8 p) "x" "ring" 1 "ada" = "bad kind"
  unfold jP
  rw[if_neg (by left),if_neg (by rw[thN (by left) (by left)];exact Bool.false_ne_true),if_pos (by left)]
 | 6,hd,hr =>
  cases hd;cases hr
  refine⟨show("x" : Str).length<=100 by left,?_⟩
  show jP (m8 p) "x" "necklace" 0 "ada" = "bad rank"
  unfold jP
  rw[if_neg (by left),if_neg (by rw[thN (by left) (by left)];exact Bool.false_ne_true),if_neg (by left),if_pos (by decide)]
 | 7,hd,hr =>
  cases hd;cases hr
  have et:bc (m8 p).th "star" = none:=thN (by left) (by left)
  have ps:qo (m8 p) "star" "bo" = "no thing" := by unfold qo;rw[et]
  have ne:¬ qo (m8 p) "star" "bo" = "" := by rw[ps];left
  refine⟨⟨by left,by left,(fun t e=>by rw[et] at e;cases e),fun h=>absurd h ne⟩,?_⟩
  show oY (m8 p) "star" "bo" = "no thing"
  unfold oY
  rw[if_neg ne,ps]
 | 8,hd,hr =>
  cases hd;cases hr
  have ps:qo (m8 p) "moon" "ada" = "wrong way" := by
   unfold qo
   rw[thM]
   show(if (bc (m8 p).pe "ada").isSome=false then _ else (if (gk (m8 p) "bo" "ada" || gk (m8 p) "ada" "bo")=false then _ else if (bc (m8 p).bo (gJ true "bo" "ada")).isSome=false then _ else _))=_
   rw[if_neg (by rw[Mj];exact fun z=>nomatch z),sbA,Bool.or_true,if_neg (by exact fun z=>nomatch z),if_pos (by rw[boN (by left)];rfl)]
  have ne:¬ qo (m8 p) "moon" "ada" = "" := by rw[ps];left
  refine⟨⟨by left,by left,(fun t e=>by rw[thM] at e;cases e;exact⟨"bo",rfl,by left⟩),fun h=>absurd h ne⟩,?_⟩
  show oY (m8 p) "moon" "ada" = "wrong way"
  unfold oY
  rw[if_neg ne,ps]
 | 9,hd,hr =>
  cases hd;cases hr
  refine⟨trivial,?_⟩
  show qp n (m8 p) 1 "forward" = "away"
  unfold qp
  rw[if_neg (fun h=>h ⟨by decide,by omega⟩),if_neg (by left),if_pos (show(bc (m8 p).fl 1).isSome=true from (by left:(bc m5.fl 1).isSome=true))]
 | 10,hd,hr =>
  cases hd;cases hr
  have e:vA n (m8 p) 2 = "not away" := by
   unfold vA
   rw[if_neg (fun h=>h ⟨by decide,by omega⟩),if_pos (show(bc (m8 p).fl 2).isSome=false from (by left:(bc m5.fl 2).isSome=false))]
  refine⟨?_,e⟩
  show vA n (m8 p) 2 ≠ ""
  rw[e]
  left
 | 11,hd,hr =>
  cases hd;cases hr
  refine⟨trivial,?_⟩
  show qp n (m8 p) 2 "north" = "bad way"
  unfold qp
  rw[if_neg (fun h=>h ⟨by decide,by omega⟩),if_pos (by left)]
 | 12,hd,hr =>
  cases hd;cases hr
  have e:uv (m8 p) "ada" "bo" = "owing" := by
   unfold uv
   rw[Mj,VD,if_neg (by exact fun z=>nomatch z),show(("ada" : Str),("bo" : Str))=vE from rfl,VE]
   show(if (p.oP p.kinds.length).isEmpty=false then _ else _)=_
   rw[v.len.k,if_pos (VC v)]
  refine⟨⟨by left,by left,fun b eb=>?_,?_⟩,e⟩
  ·rw[show(("ada" : Str),("bo" : Str))=vE from rfl,VE] at eb
   cases eb
   exact⟨1,v.len,by decide⟩
  ·rw[e];left
 | 13,hd,hr =>
  cases hd;cases hr
  have ps:qo (m8 p) "sun" "ada" = "" := by
   unfold qo
   rw[thS]
   show(if (bc (m8 p).pe "ada").isSome=false then _ else (if (gk (m8 p) "bo" "ada" || gk (m8 p) "ada" "bo")=false then _ else if (bc (m8 p).bo (gJ false "bo" "ada")).isSome=false then _ else _))=_
   rw[if_neg (by rw[Mj];exact fun z=>nomatch z),sbA,Bool.or_true,if_neg (by exact fun z=>nomatch z),show gJ false "bo" "ada" = vE from rfl,VE,if_neg (by exact fun z=>nomatch z)]
  have e:vC (m8 p) "sun" "ada" 0 = "bad season" := by
   unfold vC
   rw[if_pos ps,if_pos (.inl (by show(0:Int)<1;decide))]
  refine⟨⟨by left,by left,(fun t e=>by rw[thS] at e;cases e;exact⟨"bo",rfl,by left⟩),?_⟩,e⟩
  rw[e]
  left
 | 14,hd,hr =>
  cases hd;cases hr
  refine⟨⟨xP h3 jQ,by left,by left⟩,?_⟩
  show kP n (m8 p) "ada" "bo" = "told twice"
  have nb:Ki n (m8 p) "ada" "bo" = true:=by
   unfold Ki
   rw[Mj,VD]
   exact decide_eq_true (by show(1 - 0:Int)%n=1;exact Int.emod_eq_of_lt (by decide) (by omega))
  unfold kP
  rw[if_neg (by rw[Mj];exact fun z=>nomatch z),if_neg (by rw[VD];exact fun z=>nomatch z),if_neg (by rw[nb];exact fun z=>nomatch z),if_pos (show(bc (m8 p).bo ("ada", "bo")).isSome=true from (by rw[VE];rfl:(bc (m8 p).bo vE).isSome=true))]
 | k+15,hd,hr=>exact absurd hd (by show([]:List Dd)[k]?≠some d;simp)
end
def Rj(ex:List (Str×Str)):Out:=match ex with
 | []=>.told 8
 | r::_=>.no r.2
theorem DX{n:Int}(h3:3<=n)(jQ:n<=20)(ex:List (Str×Str))(he:∀ r∈ex,r∈qu):∃ ds:List Dd,ex.map (fun r=>qr r.1)=ds.map (fun d=>some d.v)/\dz n (fun wd=>Rj ex=.no wd) (fun M so=>Rj ex=.told so.length/\so.length<=1000) (qw++ds) Ni []:=by
 have one:∀ r∈qu,∃ (i:Nat) (d:Dd),qu[i]?=some r/\zY[i]?=some d/\qr r.1=some d.v:=fun r hr=>by
  obtain⟨i,hi⟩:=List.getElem?_of_mem hr
  have e:=congrArg (fun l=>l[i]?) Jp
  simp only[List.getElem?_map,hi] at e
  cases ed:zY[i]? with
  | none=>rw[ed] at e;cases e
  | some d=>rw[ed] at e;exact⟨i,d,hi,ed,Option.some.inj e⟩
 have all:∀ l:List (Str×Str),(∀ r∈l,r∈qu)->∃ ds:List Dd,l.map (fun r=>qr r.1)=ds.map (fun d=>some d.v):=by
  intro l
  induction l with
  | nil=>exact fun _=>⟨[],rfl⟩
  | cons r l ih =>
   intro h
   obtain⟨ds,e⟩:=ih fun r hr=>h r (List.mem_cons_of_mem _ hr)
   obtain⟨i,d,_,_,e2⟩:=one r (h r List.mem_cons_self)
   exact⟨d::ds,by rw[List.map_cons,List.map_cons,e,e2]⟩
 have aa8:∃ ds:List Dd,ex.map (fun r=>qr r.1)=ds.map (fun d=>some d.v)/\∀ p,Val p 1->∀ so:List (List V),so.length=8->dz n (fun wd=>Rj ex=.no wd) (fun M so=>Rj ex=.told so.length/\so.length<=1000) ds (m8 p) so:=by
  cases ex with
  | nil=>exact⟨[],rfl,fun p v so hs=>⟨by rw[hs];rfl,by omega⟩⟩
  | cons r l =>
   obtain⟨ds,e⟩:=all l fun r hr=>he r (List.mem_cons_of_mem _ hr)
   obtain⟨i,d,h1,h2,e2⟩:=one r (he r List.mem_cons_self)
   refine⟨d::ds,by rw[List.map_cons,List.map_cons,e,e2],fun p v so hs=>?_⟩
   obtain⟨b1,b2⟩:=Ri h3 jQ v i d r h2 h1
   have ne:r.2 ≠ "" := (o_ r (he r List.mem_cons_self)).2.2
   exact⟨Rh h3 jQ (by show 2<=2;decide) (by omega),b1,fun _=>by rw[b2];rfl,fun h=>absurd (b2.symm.trans h) ne⟩
 obtain⟨ds,e1,e2⟩:=aa8
 refine⟨ds,e1,?_⟩
 exact r1 h3 jQ (r2 h3 jQ (by decide) (r3 h3 jQ (by decide) (r4 h3 jQ (by decide) (r5 h3 jQ (by decide) (r6 h3 jQ (by decide) fun p v=>r7 h3 jQ (by decide) (r8 h3 jQ (by decide) (e2 p v _ rfl)))))))
theorem xQ:∀ {xs:List V},(∀ x∈xs,∃ c:Int,x=V.int c)->∃ ms:List Int,xs=ms.map V.int
 | [],_=>⟨[],rfl⟩
 | x::r,h=>by
  obtain⟨c,rfl⟩:=h x List.mem_cons_self
  obtain⟨ms,rfl⟩:=xQ (xs:=r) fun y hy=>h y (List.mem_cons_of_mem _ hy)
  exact⟨c::ms,rfl⟩
theorem Jt(c:Nat):∀ ws:List (List Nat),(∀ a∈ws,a.length<=100)->(jn c ws).length<=101*ws.length
 | [],_=>Nat.zero_le _
 | [a],h=>by
  have:=h a List.mem_cons_self
  show a.length<=101*1
  omega
 | a::b::r,h=>by
  have h1:=h a List.mem_cons_self
  have h2:=Jt c (b::r) fun x hx=>h x (List.mem_cons_of_mem _ hx)
  have e:jn c (a::b::r)=a++c::jn c (b::r):=rfl
  rw[e,List.length_append,List.length_cons]
  simp only[List.length_cons] at h2 ⊢
  omega
theorem pf{z:Str}(h:o7 z=true):10∉cps z/\z.length<=100:=by
 unfold o7 at h
 obtain⟨h1,h2⟩:=Bool.and_eq_true_iff.mp h
 exact⟨of_decide_eq_true h1,of_decide_eq_true h2⟩
theorem Ju{ys:List Str}(h:∀ y∈ys,o7 y=true):(Str.join (one 10) ys).length<=101*ys.length:=by
 rw[<- oR,uf]
 have:=Jt 10 (ys.map cps) fun a ha=>by
  obtain⟨y,hy,rfl⟩:=List.mem_map.mp ha
  rw[oR]
  exact(pf (h y hy)).2
 rw[List.length_map] at this
 exact this
def jR(od:Bool)(n:Int)(ex:List (Str×Str)):Out:=if od=true\/("bad text" : Str)∈ex.map (·.2) then .no "bad text" else if n<3\/20<n then .no "bad ring" else Rj ex
theorem Fy{r:Str×Str}(h:B6 r):o7 r.1=true:=by
 rcases h with h | h
 ·exact Jq r h
 ·exact Jr _ h.1
theorem wL{ex:List (Str×Str)}(he:∀ r∈ex,B6 r):∀ y∈(dA++ex).map (·.1),o7 y=true:=fun y hy=>by
 obtain⟨r,hr,rfl⟩:=List.mem_map.mp hy
 rcases List.mem_append.mp hr with z | z
 ·obtain⟨g,hg,rfl⟩:=List.mem_map.mp z
  exact Fx g hg
 ·exact Fy (he r z)
theorem Rk{od:Bool}{n:Int}{fst:Str}{ex:List (Str×Str)}(hf:o7 fst=true)(h1:od=true->xO fst=none)(h2:od=false->xO fst=some n)(he:∀ r∈ex,B6 r)(hl:ex.length<=8):ND (Str.join (one 10) (fst::(dA++ex).map (·.1))) (jR od n ex):=by
 have A2:∀ y∈fst::(dA++ex).map (·.1),o7 y=true:=fun y hy=>by
  rcases List.mem_cons.mp hy with z | z
  ·rw[z];exact hf
  ·exact wL he y z
 have hlen:((dA++ex).map (·.1)).length<=16:=by
  rw[List.length_map,List.length_append]
  have:dA.length=8:=rfl
  omega
 obtain⟨p,ws,hs⟩:=zX fst 32 (by decide)
 have fv:xO fst=Kl p ws:=by unfold xO;rw[show Txt.split fst oW=p::ws from hs]
 refine⟨fst,(dA++ex).map (·.1),Nat.le_trans (Ju A2) ?_,Bn (by decide) _ (List.cons_ne_nil _ _) (fun y hy=>(pf (A2 y hy)).1),by omega,fun l Kh=>by have:=(pf (A2 l Kh)).2;omega,p,ws,hs,fun e=>?_,fun m e=>?_⟩
 ·rw[List.length_cons];omega
 ·have:od=true:=by
   cases od with
   | true=>rfl
   | false=>rw[fv,e] at h2;cases h2 rfl
  unfold jR
  rw[if_pos (.inl this)]
 ·have ho:od=false:=by
   cases od with
   | false=>rfl
   | true=>rw[fv,e] at h1;cases h1 rfl
  have em:m=n:=by
   have:=h2 ho
   rw[fv,e] at this
   exact Option.some.inj this
  subst em
  refine⟨fun hb=>?_,fun hg=>?_⟩
  ·obtain⟨l,Kh,hn⟩:=hb
   obtain⟨r,hr,rfl⟩:=List.mem_map.mp Kh
   have:("bad text" : Str)∈ex.map (·.2):=by
    rcases List.mem_append.mp hr with z | z
    ·obtain⟨g,hg,rfl⟩:=List.mem_map.mp z
     obtain⟨i,hi⟩:=List.getElem?_of_mem hg
     have q:=congrArg (fun l=>l[i]?) DU
     simp only[List.getElem?_map,hi] at q
     cases ed:qw[i]? with
     | none=>rw[ed] at q;cases q
     | some d =>
      rw[ed] at q
      have q':qr g=some d.v:=Option.some.inj q
      have yz:qr g=none:=hn
      rw[yz] at q'
      cases q'
    ·rcases he r z with w | w
     ·obtain⟨i,hi⟩:=List.getElem?_of_mem w
      have q:=congrArg (fun l=>l[i]?) Jp
      simp only[List.getElem?_map,hi] at q
      cases ed:zY[i]? with
      | none=>rw[ed] at q;cases q
      | some d =>
       rw[ed] at q
       have q':qr r.1=some d.v:=Option.some.inj q
       rw[hn] at q'
       cases q'
     ·exact List.mem_map.mpr ⟨r,z,w.2⟩
   unfold jR
   rw[if_pos (.inr this)]
  ·have hex:∀ r∈ex,r∈qu:=fun r hr=>by
    rcases he r hr with w | w
    ·exact w
    ·exact absurd (Rf _ w.1) (hg _ (List.mem_map.mpr ⟨r,List.mem_append_right _ hr,rfl⟩))
   have nb:¬ (od=true\/("bad text" : Str)∈ex.map (·.2)):=fun z=>by
    rcases z with z | z
    ·rw[ho] at z;cases z
    ·obtain⟨r,hr,e⟩:=List.mem_map.mp z
     exact(o_ r (hex r hr)).2.1 e
   have key:∀ ds:List Dd,ex.map (fun r=>qr r.1)=ds.map (fun d=>some d.v)->((dA++ex).map (·.1)).map qr=(qw++ds).map (fun d=>some d.v):=fun ds e=>by
    rw[List.map_append,List.map_append,List.map_append,List.map_map,<- DU,<- e,List.map_map]
    rfl
   by_cases hb:m<3\/20<m
   ·have all:∃ ds:List Dd,ex.map (fun r=>qr r.1)=ds.map (fun d=>some d.v):=by
     obtain⟨ds,e,_⟩:=DX (n:=3) (by decide) (by decide) ex hex
     exact⟨ds,e⟩
    obtain⟨ds,e⟩:=all
    refine⟨qw++ds,key ds e,fun _=>?_,fun nb'=>absurd hb nb'⟩
    unfold jR
    rw[if_neg nb,if_pos hb]
   ·obtain⟨ds,e,run⟩:=DX (n:=m) (by omega) (by omega) ex hex
    refine⟨qw++ds,key ds e,fun z=>absurd z hb,fun _=>?_⟩
    have:jR od m ex=Rj ex:=by unfold jR;rw[if_neg nb,if_neg hb]
    rw[this]
    exact run
theorem Fz{od:Bool}{n:Int}{ex:List (Str×Str)}(he:∀ r∈ex,B6 r):∀ wd,jR od n ex=.no wd->wd∈kq:=fun wd e=>by
 unfold jR at e
 split at e
 ·cases e;left
 ·split at e
  ·cases e;left
  ·cases ex with
   | nil=>cases e
   | cons r l =>
    cases e
    rcases he r List.mem_cons_self with w | w
    ·exact(o_ r w).1
    ·rw[w.2];left
theorem Ml(z:Str)(l:List Str):Oa (.str z) (l.map V.str)=decide (z∈l):=by
 induction l with
 | nil=>rfl
 | cons a r ih =>
  show(J_ (.str a) (.str z)||Oa (.str z) (r.map V.str))=_
  rw[ih]
  have e:J_ (.str a) (.str z)=decide (z=a):=by
   show(a == z)=_
   by_cases h:z=a
   ·rw[decide_eq_true h,h,beq_self_eq_true]
   ·rw[decide_eq_false h]
    exact beq_eq_false_iff_ne.mpr fun q=>h q.symm
  rw[e,<- Bool.decide_or]
  exact decide_eq_decide.mpr List.mem_cons.symm
def c1(H:Hp):V->V
 | .ref t=>(match H t with
  | some (.tup [a,_])=>a
  | _=>.bY)
 | _=>.bY
def c2(H:Hp):V->V
 | .ref t=>(match H t with
  | some (.tup [_,b])=>b
  | _=>.bY)
 | _=>.bY
theorem NJ{H:Hp}{t:Addr}{a b:V}(h:H t=some (.tup [a,b])):c1 H (.ref t)=a:=by simp only[c1,h]
theorem DY{H:Hp}{t:Addr}{a b:V}(h:H t=some (.tup [a,b])):c2 H (.ref t)=b:=by simp only[c2,h]
theorem lY{H:Hp}:∀ {ts:List Addr} {rs:List (Str×Str)},cy H ts (rs.map rv)->(ts.map V.ref).map (c1 H)=(rs.map (·.1)).map V.str
 | [],[],_=>rfl
 | t::ts,r::rs,.cons h k=>by
  rw[List.map_cons,List.map_cons,NJ h,lY k]
  rfl
theorem words_of{H:Hp}:∀ {ts:List Addr} {rs:List (Str×Str)},cy H ts (rs.map rv)->((ts.map V.ref).filter fun x=>!decide (c2 H x=.str "")).map (c2 H)=((rs.filter fun r=>decide (r.2≠("" : Str))).map (·.2)).map V.str
 | [],[],_=>rfl
 | t::ts,r::rs,.cons h k=>by
  have ih:=words_of k
  rw[List.map_cons,List.filter_cons,List.filter_cons,DY h]
  by_cases e:r.2=("" : Str)
  ·rw[if_neg (by show ¬ (!decide (V.str r.2=V.str ""))=true;rw[e,decide_eq_true rfl];exact Bool.false_ne_true),if_neg (by rw[decide_eq_false (fun z=>z e)];exact Bool.false_ne_true)]
   exact ih
  ·rw[if_pos (by show(!decide (V.str r.2=V.str ""))=true;rw[decide_eq_false (fun z=>e (V.str.inj z))];rfl),if_pos (decide_eq_true e),List.map_cons,List.map_cons,List.map_cons,DY h,ih]
   rfl
theorem Rm{ex:List (Str×Str)}(he:∀ r∈ex,B6 r):((dA++ex).filter fun r=>decide (r.2≠("" : Str))).map (·.2)=ex.map (·.2):=by
 rw[List.filter_append,show dA.filter (fun r=>decide (r.2≠("" : Str)))=[] by left,List.nil_append,List.filter_eq_self.mpr]
 intro r hr
 refine decide_eq_true ?_
 rcases he r hr with w | w
 ·exact(o_ r w).2.2
 ·rw[w.2];left
theorem Mm(ys:List Str)(hl:ys.length<=20)(hy:∀ y∈ys,y.length<=100):(ys.map (·.length)).sum+ys.length*(one 10).length<=16777216:=by
 have:∀ l:List Str,(∀ y∈l,y.length<=100)->(l.map (·.length)).sum<=100*l.length:=by
  intro l
  induction l with
  | nil=>intro _;exact Nat.le_refl _
  | cons a r ih =>
   intro h
   have h1:=h a List.mem_cons_self
   have h2:=ih fun y hy=>h y (List.mem_cons_of_mem _ hy)
   rw[List.map_cons,List.sum_cons,List.length_cons]
   omega
 have h1:=this ys hy
 have h2:(one 10).length=1:=by left
 rw[h2]
 omega
theorem VF(xs:List V):(nA xs (some 1) (some 9)).length<=8:=by
 unfold nA
 rw[show(some 1:Option Int)=some ((1:Nat):Int) from rfl,show(some 9:Option Int)=some ((9:Nat):Int) from rfl,HT.sf,HT.sf,List.length_take,List.length_drop]
 omega
theorem Jv(ys:List Str):Txt.join (Str.ofString "\n") ys=Str.join (one 10) ys:=by rw[e10];exact StrLaws.glued_eq_join _ _
theorem Rn{n:Int}(h1:2<=n)(h2:n<=22):n.natAbs.log2<1920/\(Str.ofString (toString n)).length<=100:=by
 obtain⟨m,rfl⟩:=Int.eq_ofNat_of_zero_le (show 0<=n by omega)
 refine⟨?_,Nat.le_trans (PyProof.Rows.toString_length_le (show 0<=(m:Int) by omega) (by decide) (show(m:Int)<10 ^ 2 by omega)) (by decide)⟩
 have:(m:Int).natAbs=m:=rfl
 rw[this]
 have:m.log2<6:=(Nat.log2_lt (by omega)).mpr (by omega)
 omega
theorem Jw{c:TT}{t u r:TS}{D:Ends}{σ:St}{H:Hp}(Φ:St->Hp->Prop)(h1:∀ bf H',Φ bf H'->r D bf H')(h2:(∀ bf H',Φ bf H'->r D bf H')->Kx c t u { D with nx:=r D } σ H):Kv (Kx c t u) r D σ H:=h2 h1
abbrev FA:Stmt:=top 100
abbrev Ro:List Str:=["_law_script", "_law_drawn", "_law_n", "_law_rows", "_law_first", "_law_odd", "_law_due", "_law_bad"]
theorem jS:au Ro ["_law_script"] (ao FA):=by right
abbrev VG:List Str:=["_law_script"]
def DZ(K:W.Frag):Sp:=fun vs H Q _=>∃ (a:Addr) (ns:List Int),vs=[.ref a]/\bx K H a (ns.map V.int)/\ns.length<=63/\∀ H',Q (.bl true) H'
theorem Rp{f fC fD fL fR fS:Addr}{fd dC dD dL dR dS:FuncData}(F:d_ K "law" "law" FA f fd)(T:lD mg)(XC:Fc P w K mg base aY 1 "_law_cell" fC dC ["_law_script", "_law_k"] (HS K))(XD:Fc P w K mg base aY 1 "_law_draws" fD dD ["_law_cell_here", "_law_parts"] (sG K))(XL:Fc P w K mg base aY 2 "_law_lines" fL dL Q_ (Ra K))(XR:Fc P w K mg base aY 12 "_law_read" fR dR Q8 Q9)(XS:Fc P w K mg base aY 2 "_law_same" fS dS oV (Hm 1)):aE P w K mg base aY 13 f fd VG (DZ K):=by
 refine F.ok jS (fun vs H Q E h=>?_) (fun bJ A outer s H vs Q E hr h=>?_)
 ·obtain⟨a,ns,rfl,_⟩:=h
  rfl
 ·obtain⟨a,ns,rfl,hS,hn,k⟩:=h
  have hu:=gc hr
  have ZS:(A.deeper (PyProof.Rows.envOfC "law" (ao FA) s.heap.objs.size f bJ)).units<cLine:=by omega
  refine⟨_,(aa (aD (i:=0) jS.nd rfl (Or.inl rfl) (k9 oz (pv 0) sh (lX az))) (aa (aD (i:=1) jS.nd rfl (Or.inl rfl) (aw XD.G (hr.mono (by decide)) rfl XD.m XD.k XD.b .nil aS (U (aw XC.G (hr.mono (by decide)) rfl XC.m XC.k XC.b .nil aS (U (pv 0) (U az ae))) (U (cL (U az (U az (U az ae)))) ae)))) (aa (aD (i:=2) jS.nd rfl (Or.inl rfl) (bb i0 az (aV bh (pv 1) az (fun _ _=>rfl)))) (aa (aD (i:=3) jS.nd rfl (Or.inl rfl) (aw XL.G (hr.mono (by decide)) rfl XL.m XL.k XL.b .nil aS (U (k9 oz (pv 0) (lX az) (lX az)) ae))) (aa (aD (i:=4) jS.nd rfl (Or.inl rfl) (bb AO aq (dO wZ rfl T.HP boot_str (U (pv 2) ae)))) (aa (aP (aG dH (aV bh (pv 1) az (fun _ _=>rfl)) az (aN _)) (aa (aD (i:=5) jS.nd rfl (Or.inl rfl) (cL (U aq (U aq (U aq (U aq (U aq (U aq (U aq (U aq (U aq ae))))))))))) (ai (aD (i:=4) jS.nd rfl (Or.inl rfl) (aV bh (bb i4 (pv 5) (cL (U aq (U aq (U aq (U aq (U aq (U aq ae)))))))) (bb k7 (aV bh (pv 1) az (fun _ _=>rfl)) az) (fun _ _=>rfl))))) ay) (aa (aD (i:=6) jS.nd rfl (Or.inl rfl) (aQ (U aq (U (aA aT rfl T.len PySem.boot_len (U (pv 3) ae)) ae)))) (aa (Di 7 (ao FA) Ro rfl rfl (by left) jS.nd rfl rfl rfl (jq (pv 3)) (fun C s H fp pins=>(aV (show Ec _ (Ed K) from bQ) (pv 0) az (fun _ _=>rfl))) (fun C s H fp pins=>xg (aG jK (aV (show Ec _ (Ed K) from bQ) (pv 0) az (fun _ _=>rfl)) aq (aN _)))) (aa (aP (PW.pt (mQ (aG dH (aV bh (pv 1) az (fun _ _=>rfl)) az (aN _)) (j7 (aG Ee aq (pv 7) (by with_unfolding_all rfl))))) (ai (aD (i:=6) jS.nd rfl (Or.inl rfl) (aQ (U aq (U CU ae))))) (ai (aP (PW.pt (mQ (aG qQ (pv 2) az (aN _)) (j7 (aG C4 (pv 2) az (aN _))))) (ai (aD (i:=6) jS.nd rfl (Or.inl rfl) (aQ (U aq (U CU ae))))) (ai (aP (aG (wu ZS) (pv 7) lZ (aN _)) (ai (aD (i:=6) jS.nd rfl (Or.inl rfl) (aQ (U (aV bh (pv 7) az (fun _ _=>rfl)) (U CU ae))))) ay))))) (ai (aI (aw XS.G (hr.mono (by decide)) rfl XS.m XS.k XS.b .nil aS (U (aw XR.G (hr.mono (by decide)) rfl XR.m XR.k XR.b .nil aS (U (mU PySem.F.plainAttrs_str PySem.F.slot_str_join PySem.F.type_str_join K0 aq (U (bb i4 (cL (U (pv 4) ae)) (t9 (ao FA) Ro rfl rfl (by left) rfl (jq (pv 3)) (fun C s H fp pins=>(aV (show Ec _ (Ed K) from bQ) (pv 0) az (fun _ _=>rfl))) (fun C s H fp pins=>iQ))) ae)) ae)) (U (pv 6) ae)))))))))))))),?_⟩
  refine⟨_,rfl,_,rfl,a,_,rfl,hS,fun l hl=>?_⟩
  have allI:∀ x∈nA (ns.map V.int) none (some 63),∃ c:Int,x=V.int c:=fun x hx=>by
   obtain⟨c,_,e⟩:=List.mem_map.mp (List.mem_of_mem_drop (List.mem_of_mem_take hx))
   exact⟨c,e.symm⟩
  obtain⟨ms,Y9⟩:=xQ allI
  rw[Y9]
  have gl0:upd H l (.lst (ms.map V.int)) l=some (.lst (ms.map V.int)):=af
  generalize upd H l (.lst (ms.map V.int))=H1 at gl0
  refine⟨_,rfl,l,ms,0,rfl,bx.of gl0,by decide,by show 3<=sizeLine;decide,fun p1 h1=>?_⟩
  refine⟨_,p1,[21,9,61],rfl,bx.of af,by decide,by decide,fun ds dl H2 hd sm2 nl gd=>?_⟩
  have L_:ak H1 H2:=(ak.new h1).trans sm2
  obtain⟨d0,d1,d2,rfl,b0,b2⟩:∃ d0 d1 d2:Int,ds=[d0,d1,d2]/\Below d0 21/\Below d2 61:=by
   cases hd with
   | cons b0 hd=>cases hd with
    | cons b1 hd=>cases hd with
     | cons b2 hd=>cases hd;exact⟨_,_,_,rfl,b0,b2⟩
  clear hd sm2 nl h1
  have gl2:=L_ _ _ gl0
  refine⟨_,rfl,dl,_,0,_,rfl,rfl,bx.of gd,aH (j:=0) rfl,_,_,rfl,rfl,?_⟩
  refine⟨_,rfl,1,rfl,9,rfl,l,_,rfl,bx.of gl2,fun l2 F4=>?_⟩
  have aba:∀ x∈nA (ms.map V.int) (some 1) (some 9),∃ c:Int,x=V.int c:=fun x hx=>by
   obtain⟨c,_,e⟩:=List.mem_map.mp (List.mem_of_mem_drop (List.mem_of_mem_take hx))
   exact⟨c,e.symm⟩
  obtain⟨cs,ecs⟩:=xQ aba
  have lcs:cs.length<=8:=by
   have:=VF (ms.map V.int)
   rw[ecs,List.length_map] at this
   exact this
  rw[ecs]
  have s23:ak H2 (upd H2 l2 (.lst (cs.map V.int))):=ak.new F4
  refine⟨l2,cs,rfl,bx.of af,lcs,fun ex L ts H4 he hle s4 gL tv=>?_⟩
  replace s4:=s23.trans s4
  have gd4:=s4 _ _ gd
  have n2:2<=2+d0/\2+d0<=22:=⟨by have:=b0.1;omega,by have:=b0.2;omega⟩
  obtain⟨lg,ln⟩:=Rn n2.1 n2.2
  have fok:xO (Js (2+d0))=some (2+d0)/\o7 (Js (2+d0))=true:=by
   obtain⟨m,hm⟩:=Int.eq_ofNat_of_zero_le b0.1
   have hm2:m<21:=by have:=b0.2;omega
   have:=Rg ⟨m,hm2⟩
   rw[hm]
   exact this
  refine⟨_,rfl,2+d0,rfl,lg,_,_,rfl,rfl,Nat.le_trans (show(Str.ofString "ring ").length+(Str.ofString (toString (2+d0))).length<=1000 by have:(Str.ofString "ring ").length=5:=(by left);omega) (by decide),?_⟩
  dsimp only[jm]
  refine Jw (fun bf H'=>∃ (fs:Str) (o5:Option V),bf=[some (.ref l),some (.ref dl),some (.int (2+d0)),some (.ref L),some (.str fs),o5,none,none]/\ak H4 H'/\o7 fs=true/\(decide (d1=0)=true->xO fs=none)/\(decide (d1=0)=false->xO fs=some (2+d0))) ?_ (fun kk=>?_)
  case refine_2 =>
   refine⟨_,rfl,dl,_,1,_,rfl,rfl,bx.of gd4,aH (j:=1) rfl,rfl,_,rfl,?_⟩
   by_cases hz:d1=0
   ·refine iL (decide_eq_true (by rw[hz])) ?_
    refine⟨by show 9<=sizeLine;decide,fun o1 ho1=>?_⟩
    have e1:ak H4 (upd H4 o1 (.lst ((i6.take 9).map V.str))):=ak.new ho1
    have go1:upd H4 o1 (.lst ((i6.take 9).map V.str)) o1=some (.lst ((i6.take 9).map V.str)):=af
    refine⟨_,rfl,by show 6<=sizeLine;decide,fun o2 AY=>?_⟩
    have e2:ak (upd H4 o1 (.lst ((i6.take 9).map V.str))) (upd (upd H4 o1 (.lst ((i6.take 9).map V.str))) o2 (.lst ((i6.drop 9).map V.str))):=ak.new AY
    refine⟨o1,o2,_,_,rfl,rfl,e2 _ _ go1,af,by show 15<=sizeLine;decide,fun o3 ho3=>?_⟩
    have hm:0<=d2%15/\d2%15<15:=⟨Int.emod_nonneg _ (by decide),Int.emod_lt_of_pos _ (by decide)⟩
    obtain⟨m,em⟩:=Int.eq_ofNat_of_zero_le hm.1
    have hk:m<i6.length:=by have:i6.length=15:=rfl;have:=hm.2;omega
    have eo:i6[m]?=some i6[m]:=List.getElem?_eq_getElem hk
    have at2:vc (i6.map V.str) (d2%15)=some (.str i6[m]):=by rw[em];exact aH (by rw[List.getElem?_map,eo];rfl)
    have e3:ak (upd (upd H4 o1 (.lst ((i6.take 9).map V.str))) o2 (.lst ((i6.drop 9).map V.str))) (upd (upd (upd H4 o1 (.lst ((i6.take 9).map V.str))) o2 (.lst ((i6.drop 9).map V.str))) o3 (.lst (i6.map V.str))):=ak.new ho3
    have e13:=e1.trans (e2.trans e3)
    have go3:upd (upd (upd H4 o1 (.lst ((i6.take 9).map V.str))) o2 (.lst ((i6.drop 9).map V.str))) o3 (.lst (i6.map V.str)) o3=some (.lst (i6.map V.str)):=af
    obtain⟨f1,f2⟩:=Mi _ (List.mem_of_getElem? eo)
    refine⟨_,rfl,dl,_,2,_,rfl,rfl,bx.of (e13 _ _ gd4),aH (j:=2) rfl,_,_,rfl,rfl,show(0:Int)<15 by decide,o3,_,_,_,rfl,rfl,bx.of go3,at2,?_⟩
    exact kk _ _ ⟨i6[m],_,rfl,e13,f2,fun _=>f1,fun z=>by rw[decide_eq_true hz] at z;cases z⟩
   ·refine jv (fun z=>hz (V.int.inj (of_decide_eq_true z))) ?_
    exact kk _ _ ⟨Js (2+d0),_,rfl,ak.refl _,fok.2,(fun z=>by rw[decide_eq_false hz] at z;cases z),fun _=>fok.1⟩
  rintro bf H5 ⟨fs,o5,rfl,s5,ff,f1,f2⟩
  have IU:ak H2 H5:=s4.trans s5
  have gd5:=s5 _ _ gd4
  have WA:=s5 _ _ gL
  have tv5:cy H5 ts ((dA++ex).map rv):=cy.same (S:=[]) (bD.of s5) (fun _ _ z=>nomatch z) tv
  have Il:ts.length=8+ex.length:=by rw[tv.len,List.length_map,List.length_append];rfl
  refine⟨_,rfl,L,_,rfl,.inl (bx.of WA),by show 2<=sizeLine;decide,fun pd hpd=>?_⟩
  have WC:ak H5 (upd H5 pd (.tup [.str "told",.int ((ts.map V.ref).length:Nat)])):=ak.new hpd
  have gpd:upd H5 pd (.tup [.str "told",.int ((ts.map V.ref).length:Nat)]) pd=some (.tup [.str "told",.int ((ts.map V.ref).length:Nat)]):=af
  generalize upd H5 pd (.tup [.str "told",.int ((ts.map V.ref).length:Nat)])=H6 at WC gpd
  have gL6:=WC _ _ WA
  have gd6:=WC _ _ gd5
  have tv6:cy H6 ts ((dA++ex).map rv):=cy.same (S:=[]) (bD.of WC) (fun _ _ z=>nomatch z) tv5
  have szl:(ts.map V.ref).length<=sizeLine:=big (by rw[List.length_map];omega)
  have row:∀ x∈ts.map V.ref,∃ (t:Addr) (r:Str×Str),x=.ref t/\H6 t=some (.tup [.str r.1,.str r.2]):=fun x hx=>by
   obtain⟨t,ht,rfl⟩:=List.mem_map.mp hx
   obtain⟨i,hi⟩:=List.getElem?_of_mem ht
   obtain⟨qv,eq,gq⟩:=tv6.get hi
   rw[List.getElem?_map] at eq
   obtain⟨r,_,rfl⟩:=Option.map_eq_some_iff.mp eq
   exact⟨t,r,rfl,gq⟩
  refine⟨_,rfl,L,rfl,⟨_,bx.of gL6⟩,fun D hD=>?_⟩
  refine wo (fun x=>!decide (c2 H6 x=.str "")) (c2 H6) (bx.of gL6) hD szl (fun x hx H' R sm q=>?_) (fun x hx _ H' R sm q=>?_) ?_
  ·obtain⟨t,r,rfl,gq⟩:=row x hx
   rw[DY gq] at q
   exact⟨_,rfl,t,_,1,_,rfl,rfl,bV.of (sm _ _ gq),aH (j:=1) rfl,rfl,_,rfl,q⟩
  ·obtain⟨t,r,rfl,gq⟩:=row x hx
   rw[DY gq] at q
   exact⟨_,rfl,t,_,1,_,rfl,rfl,bV.of (sm _ _ gq),aH (j:=1) rfl,q⟩
  rw[words_of tv6,Rm he]
  have WD:ak H6 (upd H6 D (.lst ((ex.map (·.2)).map V.str))):=ak.new hD
  have gD:upd H6 D (.lst ((ex.map (·.2)).map V.str)) D=some (.lst ((ex.map (·.2)).map V.str)):=af
  generalize upd H6 D (.lst ((ex.map (·.2)).map V.str))=H7 at WD gD
  have gd7:=WD _ _ gd6
  have abe:=WD _ _ gpd
  dsimp only[jm]
  refine Jw (fun bf H'=>∃ (pd':Addr),bf=[some (.ref l),some (.ref dl),some (.int (2+d0)),some (.ref L),some (.str fs),o5,some (.ref pd'),some (.ref D)]/\ak H7 H'/\H' pd'=some (.tup (jR (decide (d1=0)) (2+d0) ex).v)) ?_ (fun kk=>?_)
  case refine_2 =>
   have bt:jR (decide (d1=0)) (2+d0) ex=.no "bad text" -> ∀ p,H7 p=none->ak H7 (upd H7 p (.tup [.str "bad text",.bl true]))/\upd H7 p (.tup [.str "bad text",.bl true]) p=some (.tup (jR (decide (d1=0)) (2+d0) ex).v):=fun e p hp=>⟨ak.new hp,by rw[e,af];rfl⟩
   refine⟨_,rfl,dl,_,1,_,rfl,rfl,bx.of gd7,aH (j:=1) rfl,rfl,_,rfl,?_⟩
   by_cases hz:d1=0
   ·refine iL (decide_eq_true (by rw[hz])) (cH ⟨by show 2<=sizeLine;decide,fun p hp=>?_⟩)
    obtain⟨q1,q2⟩:=bt (by unfold jR;rw[if_pos (.inl (decide_eq_true hz))]) p hp
    exact kk _ _ ⟨p,rfl,q1,q2⟩
   refine jv (fun z=>hz (V.int.inj (of_decide_eq_true z))) ?_
   refine⟨_,rfl,D,_,rfl,.inl (bx.of gD),rfl,(by rw[List.all_map,List.all_eq_true];exact fun _ _=>rfl),_,rfl,?_⟩
   dsimp only
   rw[if_neg Bool.false_ne_true,Ml]
   by_cases hb:("bad text" : Str)∈ex.map (·.2)
   ·refine iL (decide_eq_true hb) ⟨by show 2<=sizeLine;decide,fun p hp=>?_⟩
    obtain⟨q1,q2⟩:=bt (by unfold jR;rw[if_pos (.inr hb)]) p hp
    exact kk _ _ ⟨p,rfl,q1,q2⟩
   refine jv (fun z=>hb (of_decide_eq_true z)) ?_
   have nb:¬ (decide (d1=0)=true\/("bad text" : Str)∈ex.map (·.2)):=fun z=>z.elim (fun z=>hz (of_decide_eq_true z)) hb
   have br:(2+d0<3\/20<2+d0)->∀ p,H7 p=none->ak H7 (upd H7 p (.tup [.str "bad ring",.bl false]))/\upd H7 p (.tup [.str "bad ring",.bl false]) p=some (.tup (jR (decide (d1=0)) (2+d0) ex).v):=fun e p hp=>⟨ak.new hp,by unfold jR;rw[if_neg nb,if_pos e,af];show _=some (HO.tup [.str "bad ring",.bl (decide (("bad ring" : Str) = "bad text"))]);rw[decide_eq_false (by left)]⟩
   refine⟨_,rfl,_,_,rfl,rfl,_,rfl,?_⟩
   by_cases h3:2+d0<3
   ·refine iL (decide_eq_true h3) (cH ⟨by show 2<=sizeLine;decide,fun p hp=>?_⟩)
    obtain⟨q1,q2⟩:=br (.inl h3) p hp
    exact kk _ _ ⟨p,rfl,q1,q2⟩
   refine jv (fun z=>h3 (of_decide_eq_true z)) ?_
   refine⟨_,rfl,_,_,rfl,rfl,_,rfl,?_⟩
   by_cases jQ:20<2+d0
   ·refine iL (by simpa using jQ) ⟨by show 2<=sizeLine;decide,fun p hp=>?_⟩
    obtain⟨q1,q2⟩:=br (.inr jQ) p hp
    exact kk _ _ ⟨p,rfl,q1,q2⟩
   refine jv (fun z=>jQ (by simpa using z)) ?_
   have du:jR (decide (d1=0)) (2+d0) ex=Rj ex:=by unfold jR;rw[if_neg nb,if_neg (fun z=>z.elim h3 jQ)]
   refine⟨_,rfl,Nat.zero_le _,fun e OE=>⟨D,e,_,rfl,rfl,bx.of (ak.new OE _ _ gD),bx.of af,_,rfl,?_⟩⟩
   have se:ak H7 (upd H7 e (.lst [])):=ak.new OE
   cases ex with
   | nil =>
    refine jv (by decide) (kk _ _ ⟨pd,rfl,se,?_⟩)
    rw[se _ _ abe,du,List.length_map,Il]
    rfl
   | cons r rest =>
    refine iL (by rfl) ⟨_,rfl,D,_,0,_,rfl,rfl,bx.of (se _ _ gD),aH (j:=0) rfl,by show 2<=sizeLine;decide,fun p hp=>kk _ _ ⟨p,rfl,se.trans (ak.new hp),?_⟩⟩
    rw[af,du]
    show _=some (HO.tup [.str r.2,.bl (decide (r.2=("bad text" : Str)))])
    rw[decide_eq_false (fun z=>hb (by rw[<- z];exact List.mem_cons_self))]
  rintro bf H8 ⟨pd',rfl,s8,Z1⟩
  have s68:=WD.trans s8
  have gL8:=s68 _ _ gL6
  have tv8:cy H8 ts ((dA++ex).map rv):=cy.same (S:=[]) (bD.of s68) (fun _ _ z=>nomatch z) tv6
  have abh:∀ x∈ts.map V.ref,∃ (t:Addr) (r:Str×Str),x=.ref t/\H8 t=some (.tup [.str r.1,.str r.2]):=fun x hx=>by
   obtain⟨t,r,e,g⟩:=row x hx
   exact⟨t,r,e,s68 _ _ g⟩
  refine⟨rfl,_,rfl,by show 1<=sizeLine;decide,fun q1 hq1=>?_⟩
  have e1:ak H8 (upd H8 q1 (.lst [.str fs])):=ak.new hq1
  have Wz:upd H8 q1 (.lst [.str fs]) q1=some (.lst [.str fs]):=af
  generalize upd H8 q1 (.lst [.str fs])=H9 at e1 Wz
  refine⟨_,rfl,L,rfl,⟨_,bx.of (e1 _ _ gL8)⟩,fun D2 Wc=>?_⟩
  refine wo (fun _=>true) (c1 H8) (bx.of (e1 _ _ gL8)) Wc szl (fun x hx H' R sm q=>q) (fun x hx _ H' R sm q=>?_) ?_
  ·obtain⟨t,r,rfl,gq⟩:=abh x hx
   rw[NJ gq] at q
   exact⟨_,rfl,t,_,0,_,rfl,rfl,bV.of (sm _ _ (e1 _ _ gq)),aH (j:=0) rfl,q⟩
  rw[show(ts.map V.ref).filter (fun _=>true)=ts.map V.ref from List.filter_eq_self.mpr (fun _ _=>rfl),lY tv8]
  have e2:ak H9 (upd H9 D2 (.lst (((dA++ex).map (·.1)).map V.str))):=ak.new Wc
  have gD2:upd H9 D2 (.lst (((dA++ex).map (·.1)).map V.str)) D2=some (.lst (((dA++ex).map (·.1)).map V.str)):=af
  generalize upd H9 D2 (.lst (((dA++ex).map (·.1)).map V.str))=H10 at e2 gD2
  have aer:((dA++ex).map (·.1)).length<=16:=by
   rw[List.length_map,List.length_append]
   have:dA.length=8:=rfl
   omega
  refine⟨q1,D2,_,_,rfl,rfl,e2 _ _ Wz,gD2,big (by rw[List.length_map];show 1+_<=1000;omega),fun q2 hq2=>?_⟩
  have e3:ak H10 (upd H10 q2 (.lst ([V.str fs]++((dA++ex).map (·.1)).map V.str))):=ak.new hq2
  have abi:∀ y∈fs::(dA++ex).map (·.1),y.length<=100:=fun y hy=>by
   rcases List.mem_cons.mp hy with z | z
   ·rw[z];exact(pf ff).2
   ·exact(pf (wL he y z)).2
  refine⟨Str.ofString "\n",q2,fs::(dA++ex).map (·.1),rfl,rfl,bx.of af,by rw[e10];exact Mm _ (by rw[List.length_cons];omega) abi,?_⟩
  rw[Jv]
  refine⟨_,jR (decide (d1=0)) (2+d0) ex,rfl,Rk ff f1 f2 he hle,Fz he,fun t H11 s11 gt=>?_⟩
  have abj:ak H8 H11:=e1.trans (e2.trans (e3.trans s11))
  refine⟨_,rfl,_,_,rfl,Eqv.om (n:=0) gt (abj _ _ Z1) ?_ ?_,fun Kk _=>k Kk⟩
  ·cases jR (decide (d1=0)) (2+d0) ex<;>(show 2<=1000;decide)
  ·intro x hx
   cases S_:jR (decide (d1=0)) (2+d0) ex with
   | told m =>
    rw[S_] at hx
    simp only[Out.v,List.mem_cons,List.not_mem_nil,or_false] at hx
    rcases hx with e | e<;>rw[e]<;>rfl
   | no wd =>
    rw[S_] at hx
    simp only[Out.v,List.mem_cons,List.not_mem_nil,or_false] at hx
    rcases hx with e | e<;>rw[e]<;>rfl
structure DF(K:W.Frag)(mg:Str->Option Value)(x:Str)(st:Stmt)(f:Addr)(fd:FuncData):Prop where
 F:d_ K x x st f fd
 m:mg x=some (.ref f)
structure MF(K:W.Frag)(C:Addr)(x q:Str)(st:Stmt)(f:Addr)(fd:FuncData):Prop where
 me:Meth K C x f
 F:d_ K x q st f fd
section
variable{K:W.Frag}{h:Heap}{mg:Str->Option Value}{x q:Str}{st:Stmt}{f C:Addr}{oc kV dc pm cd ct:Value}{od an:Option Addr}{sl:Array (Option Value)}(X:K.In h)(G:h.Ns mainGlobals mg)
theorem DF.fc{P:Program}{w:World}{base:Heap}{CX:yM}{k:Nat}{fd:FuncData}{ps:List Str}{sp:Sp}(d:DF K mg x st f fd)(b:Binds K fd ps [])(g:aE P w K mg base CX k f fd ps sp):Fc P w K mg base CX k x f fd ps sp:=⟨g,d.m,d.F.kp,b⟩
theorem MF.mc{P:Program}{w:World}{base:Heap}{CX:yM}{k:Nat}{fd:FuncData}{ps:List Str}{sp:Sp}(d:MF K C x q st f fd)(b:Binds K fd ps [])(g:aE P w K mg base CX k f fd ps sp):Mc P w K mg base CX k C x f fd ps sp:=⟨g,d.me,b⟩
include X G in
theorem bp(a:W.nsIn K mainGlobals x=some (some (.ref f)))(l:K.lookup f=some ⟨oc,od,.func (W.fnOf x x (eT st) (cV st) (ao st) .none kV dc pm an cd ct),sl⟩)(c:W.codeIn K cd x=true)(k:W.keepIn K (.ref f)=true) :
  DF K mg x st f (W.fnOf x x (eT st) (cV st) (ao st) .none kV dc pm an cd ct):=⟨G3 l c k,W.mg_of X G a⟩
theorem ix(a:W.findIn K (.ref C) x=some none):bB K C x:=a
theorem dJ(a:W.findIn K (.ref C) x=some (some (.ref f)))(l:K.lookup f=some ⟨oc,od,.func (W.fnOf x q (eT st) (cV st) (ao st) .none kV dc pm an cd ct),sl⟩)(c:W.codeIn K cd q=true)(k:W.keepIn K (.ref f)=true)(n:W.isFn K (.ref f)=true) :
  MF K C x q st f (W.fnOf x q (eT st) (cV st) (ao st) .none kV dc pm an cd ct):=⟨⟨a,n,k⟩,G3 l c k⟩
include X G in
theorem Mn{T:Addr}{odT:Option Addr}{slT:Array (Option Value)}{ocT:Value}{t0 t1:Tok}{nT:Nat}(v:W.nsIn K mainGlobals "ValueError" = some none)(vi:W.findCls K (.type "ValueError") (.type "type") "__init__" = some (.val (.builtin "ValueError.__init__")))
  (a:W.nsIn K mainGlobals "RoundError" = some (some (.ref C))) (fc:W.findCls K (.ref C) (.type "type") "__init__" = some (.val (.ref f))) (sp:W.specialIn K (.ref C) "__getattribute__" = some (some (.builtin "type.__getattribute__"))) (rd:W.readsIn K C (.type "type")=true)
  (l:K.lookup f=some ⟨oc,od,.func (W.fnOf "__init__" "RoundError.__init__" (eT Nk) (cV Nk) (ao Nk) (.ref T) kV dc pm an cd ct),sl⟩) (lT:K.lookup T=some ⟨ocT,odT,.seq #[.str "" t0,.str "refused" t1] nT,slT⟩) (c:W.codeIn K cd "RoundError.__init__" = true) (k:W.keepIn K (.ref f)=true) :
  gC K mg C f (W.fnOf "__init__" "RoundError.__init__" (eT Nk) (cV Nk) (ao Nk) (.ref T) kV dc pm an cd ct) :=
 ⟨W.mg_none_of X G v,vi,W.mg_of X G a,sp,rd,fc,⟨⟨_,_,_,_,_,_,_,_,_,_,rfl,l,c⟩,k⟩,Dk (ps:=["self", "why", "word"]) rfl lT rfl fun us hl=>match us,hl with | [_,_,_],_=>⟨_,rfl,rfl⟩⟩
include X G in
theorem b7{wd:Str}{cR T N:Addr}{D:ClassData}{nm qn:Str}{odT dd:Option Addr}{slT:Array (Option Value)}{ocT:Value}{t0:Tok}{nT:Nat}{bs bm sub:List Value}{hd ab:Bool}{sn:List Str}{col:Option Bool}{k0 k1 k2 k3 k5:Option Value}(e:vg st wd)
  (a:W.nsIn K mainGlobals x=some (some (.ref C))) (i:W.findIn K (.ref C) "__init__" = some (some (.ref f))) (l:K.lookup f=some ⟨oc,od,.func (W.fnOf "__init__" q (eT st) (cV st) (ao st) (.ref T) kV dc pm an cd ct),sl⟩) (lT:K.lookup T=some ⟨ocT,odT,.seq #[.str "" t0] nT,slT⟩)
  (c:W.codeIn K cd q=true) (k:W.keepIn K (.ref f)=true) (x0:W.clsIn K C=some D) (x1:D.hasDict=true) (x2:D.mro=.ref C::(List.map Value.ref [cR]++Na)) (x3:W.findIn K (.ref C) "__setattr__" = some (some (.builtin "object.__setattr__")))
  (x4:W.findIn K (.ref C) "__getattribute__" = some (some (.builtin "BaseException.__getattribute__"))) (x5:W.findIn K (.ref C) "__getattr__" = some none) (x6:W.findIn K (.ref C) "__class__" = some (some (.builtin "object.__class__")))
  (x7:W.specialIn K (.builtin "object.__class__") "__get__" = some (some (.builtin "getset_descriptor.__get__"))) (x8:W.takesIn K (.builtin "object.__class__")=some true) (x9:W.keepIn K (.ref C)=true)
  (y0:K.lookup C=some (excClassObj nm qn C N bs bm hd sn sub ab col dd k0 k1 k2 k3 k5 "ValueError.__new__")) (y1:bm.contains (.type "ValueError")=true) (y2:bm.contains (.type "AttributeError")=false) (y3:bm.contains (.type "NameError")=false) (y4:bm.contains (.type "BaseException")=true)
  (na:W.findIn K (.ref C) "word" = some none) (fn:W.isFn K (.ref f)=true) (ex:W.exmOne K (.ref C) (.ref cR)=some true) :
  cb K mg cR x wd C f (W.fnOf "__init__" q (eT st) (cV st) (ao st) (.ref T) kV dc pm an cd ct):=by
 refine⟨W.mg_of X G a,⟨⟨D,[cR],x0,x1,x2⟩,x3,x4,x5,x6,x7,x8,x9⟩,⟨_,_,_,_,_,_,_,_,_,_,_,_,_,_,_,_,y0,⟨y1,y2,y3⟩,y4⟩,na,i,fn,ex,⟨_,_,⟨⟨_,_,_,_,_,_,_,_,_,_,rfl,l,c⟩,k⟩,e⟩,?_⟩
 obtain⟨p0,p1,p2,p3,p4,p5,p6,p7,p8,p9,T9,rfl,_⟩:=e
 exact Dk (ps:=["self", "why"]) rfl lT rfl fun us hl=>match us,hl with | [_,_],_=>⟨_,rfl,rfl⟩
end
theorem wM{L:List Addr}{a:Addr}{wd:Str}(i:Nat)(h:kq.idxOf wd=i)(g:L.getD i 0=a):L.getD (kq.idxOf wd) 0=a:=h▸g
theorem all_mk{l:W.OpenLaw}{w:World}{K:W.Frag}{h:Heap}{mg:Str->Option Value}{fa:Addr}(X:K.In h)(G:h.Ns mainGlobals mg)(hfa:mg "law" = some (.ref fa)){ph lE zZ uA ra wN wO pj rf xR nL uB uC i7 jT iM i8 jU lF i9 jV mX kI mY gm iN i_ D0 wQ rg i' rh Jx rj pk uD rl mZ z9 pz z_ rn pA VH aM xS l7 FC l8 FD sJ Mo kz B8 kA B9 fJ rL sL Mp ip vF sM Mq l9 FE l_ FF l' FG kB B_ md FH pB Jy xT Rq mf FI kC B' jx Aa a0 FJ c8 hJ lG m_ lH ee hU pC aO fX jE lI eV ja fY jW jy a_ hV lJ jX pD pE pF pG pH rp lK nc:Addr}{vG rM FK Ab xU Ca Cb vH xV vI Ac Ad Ae mD pI lL mE pJ rN mF pK uE qy uF jF lM mH Jz Cc xW mI xX Mr xY vJ Af xZ uG x_ vK yb yc vL JA vM Cd Cf JB Ag Ah qz JC uH JD Cg Ci Cj Ai Ck FL Ms Cm Aj yd Cn pL rO uI rP pM vN mJ uJ rQ lN rR mM pN nM pO rS pP vO vP vQ vR vS ye rT uK:FuncData}{qA uL FN FP uM uN yf rV vT Co FQ FR Cp Cq:Tok}{Mt:Addr}{VI:Nat}{uO:Addr}{Ak FU FV:Tok}{uP:Obj}{JE:Nat}{nN:Addr}{uQ Al Am:Tok}{nO:Obj}{Cr:Nat}{Cs:Addr}{JF Mu Mv:Tok}{Cu:Obj}{Rt:Nat}{Cv:Addr}{JG Mw Mx My Mz:Tok}{Cw:Obj}{Ru:Nat}{Cy:Addr}{JH MA MB:Tok}{Cz:Obj}{Rv:Nat}{CA:Addr}{JI MC:Tok}{CB:Obj}{Rw:Nat}{CC:Addr}{JJ MD ME:Tok}{CD:Obj}{Rx:Nat}{JK:Addr}{NK Ry Rz RA:Tok}{JL:Obj}{VJ:Nat}{uR:Addr}{An:Tok}{uS:Obj}{JM:Nat}
  (bN:DF K mg "check_ring" Ih ph vG)
  (bP:DF K mg "check_island" Ph lE rM)
  (lO:DF K mg "onward" Yz zZ FK)
  (jb:DF K mg "ahead_of" YB uA Ab)
  (iy:DF K mg "rounds_in" YD ra xU)
  (jY:DF K mg "is_name" Dw wN Ca)
  (jZ:DF K mg "is_rank" Zb wO Cb)
  (dE:DF K mg "check_kind" Yp pj vH)
  (iz:DF K mg "check_way" YF rf xV)
  (gK:DF K mg "other_kind" Wf xR vI)
  (fZ:DF K mg "with_row" Wh nL Ac)
  (jc:DF K mg "bond_for" Zi uB Ad)
  (jd:DF K mg "rank_now" ZT uC Ae)
  (cz:DF K mg "standing_promise" Zs i7 mD)
  (df:DF K mg "is_for_another" Zt jT pI)
  (cc:DF K mg "with_promise_kept" ZV iM lL)
  (cA:DF K mg "with_past_broken" sPB i8 mE)
  (dg:DF K mg "check_new_name" PV jU pJ)
  (eE:DF K mg "check_person" PY lF rN)
  (cC:DF K mg "check_neighbours" P6 i9 mF)
  (di:DF K mg "check_partners" P_ jV pK)
  (fm:DF K mg "check_thing" Qa mX uE)
  (dM:DF K mg "check_passing" Qc kI qy)
  (fq:DF K mg "check_fleet" Qf mY uF)
  (bE:DF K mg "check_not_for_another" Zu gm jF)
  (cf:DF K mg "check_last_season" Ql iN lM)
  (cD:DF K mg "check_unpromised" Qn i_ mH)
  (pQ:DF K mg "deeds" Ww D0 Jz)
  (j0:DF K mg "do_deed" sDD wQ Cc)
  (iA:DF K mg "with_gift" ZX rg xW)
  (cE:DF K mg "with_next_season" sNS i' mI)
  (iB:DF K mg "read_deed" Yy rh xX)
  (uT:DF K mg "read" Jm Jx Mr)
  (iC:DF K mg "read_ring" sRg rj xY)
  (gM:DF K mg "first_word" Yt pk vJ)
  (je:DF K mg "read_row" Yx uD Af)
  (iD:DF K mg "read_word" Yv rl xZ)
  (fu:DF K mg "read_number" LP mZ uG)
  (gr:DF K mg "_law_cell" HR z9 x_)
  (gN:DF K mg "_law_draws" BH pz vK)
  (eG:DF K mg "_law_same" uk z_ yb)
  (iE:DF K mg "_law_read" sLR rn yc)
  (gO:DF K mg "_law_lines" Wx pA vL)
  (Ao:DF K mg "law" FA VH JA)
  (ET:gC K mg aM xS vM)
  (iU:cb K mg aM "BadRing" "bad ring" l7 FC Cd)
  (iV:cb K mg aM "BadName" "bad name" l8 FD Cf)
  (mh:cb K mg aM "Taken" "taken" sJ Mo JB)
  (hX:cb K mg aM "NoIsland" "no island" kz B8 Ag)
  (h_:cb K mg aM "NoPerson" "no person" kA B9 Ah)
  (cU:cb K mg aM "NotNeighbours" "not neighbours" fJ rL qz)
  (mi:cb K mg aM "Twice" "told twice" sL Mp JC)
  (c0:cb K mg aM "NotPartners" "not partners" ip vF uH)
  (mj:cb K mg aM "Owing" "owing" sM Mq JD)
  (iW:cb K mg aM "BadKind" "bad kind" l9 FE Cg)
  (ia:cb K mg aM "BadRank" "bad rank" l_ FF Ci)
  (iX:cb K mg aM "NoThing" "no thing" l' FG Cj)
  (ib:cb K mg aM "WrongWay" "wrong way" kB B_ Ai)
  (iY:cb K mg aM "NoFleet" "no fleet" md FH Ck)
  (j3:cb K mg aM "BadWay" "bad way" pB Jy FL)
  (qB:cb K mg aM "Away" "away" xT Rq Ms)
  (iZ:cb K mg aM "NotAway" "not away" mf FI Cm)
  (f_:cb K mg aM "Promised" "promised" kC B' Aj)
  (gu:cb K mg aM "BadSeason" "bad season" jx Aa yd)
  (dm:cb K mg aM "BadText" "bad text" a0 FJ Cn)
  (eW:W.kitOne K (.ref l7) (.ref a0)=some false)
  (eX:W.kitOne K (.ref l8) (.ref a0)=some false)
  (gP:W.kitOne K (.ref sJ) (.ref a0)=some false)
  (eI:W.kitOne K (.ref kz) (.ref a0)=some false)
  (eJ:W.kitOne K (.ref kA) (.ref a0)=some false)
  (cO:W.kitOne K (.ref fJ) (.ref a0)=some false)
  (gQ:W.kitOne K (.ref sL) (.ref a0)=some false)
  (dn:W.kitOne K (.ref ip) (.ref a0)=some false)
  (gS:W.kitOne K (.ref sM) (.ref a0)=some false)
  (eY:W.kitOne K (.ref l9) (.ref a0)=some false)
  (eZ:W.kitOne K (.ref l_) (.ref a0)=some false)
  (e_:W.kitOne K (.ref l') (.ref a0)=some false)
  (eK:W.kitOne K (.ref kB) (.ref a0)=some false)
  (fe:W.kitOne K (.ref md) (.ref a0)=some false)
  (gb:W.kitOne K (.ref pB) (.ref a0)=some false)
  (ic:W.kitOne K (.ref xT) (.ref a0)=some false)
  (fh:W.kitOne K (.ref mf) (.ref a0)=some false)
  (eL:W.kitOne K (.ref kC) (.ref a0)=some false)
  (dZ:W.kitOne K (.ref jx) (.ref a0)=some false)
  (TT:xJ K mg c8)
  (uU:W.makesIn K c8=true)
  (uV:W.keepIn K (.ref c8)=true)
  (cp:MF K c8 "__init__" "Thing.__init__" YT hJ pL)
  (eM:MF K c8 "holder" "Thing.holder" YV lG rO)
  (fz:MF K c8 "steps" "Thing.steps" YX m_ uI)
  (eO:MF K c8 "passed" "Thing.passed" YZ lH rP)
  (TS:iS K mg ee)
  (uW:W.makesIn K ee=true)
  (uX:W.keepIn K (.ref ee)=true)
  (cq:MF K ee "__init__" "State.__init__" YI hU pM)
  (gT:MF K ee "twin" "State.twin" YL pC vN)
  (TP:ur K mg aO)
  (nP:W.makesIn K aO=true)
  (nQ:W.keepIn K (.ref aO)=true)
  (bT:MF K aO "__init__" "Pairing.__init__" Y1 fX mJ)
  (c5:MF K aO "add" "Pairing.add" L6 jE uJ)
  (eP:MF K aO "many" "Pairing.many" uq lI rQ)
  (bj:MF K aO "unsettled" "Pairing.unsettled" Iq eV lN)
  (cG:MF K aO "twin" "Pairing.twin" DH ja rR)
  (bU:MF K aO "can_pair" "Pairing.can_pair" UD fY mM)
  (cu:MF K aO "settle" "Pairing.settle" l6 jW pN)
  (b8:MF K aO "come_to" "Pairing.come_to" zR jy nM)
  (TH:oX K mg a_)
  (uY:W.makesIn K a_=true)
  (uZ:W.keepIn K (.ref a_)=true)
  (cw:MF K a_ "__init__" "House.__init__" YN hV pO)
  (eQ:MF K a_ "person" "House.person" Qp lJ rS)
  (dw:MF K a_ "partners" "House.partners" Qr jX pP)
  (gU:MF K a_ "part" "House.part" Mg pD vO)
  (gV:MF K a_ "make" "House.make" Qv pE vP)
  (gX:MF K a_ "sail" "House.sail" IZ pF vQ)
  (gY:MF K a_ "home" "House.home" I_ pG vR)
  (gZ:MF K a_ "give" "House.give" QO pH vS)
  (iF:MF K a_ "vow" "House.vow" QX rp ye)
  (eR:MF K a_ "season" "House.season" QV lK rT)
  (fE:MF K a_ "stand" "House.stand" YQ nc uK)
  (ie:W.nsIn K mainGlobals "FEWEST_ISLANDS" = some (some (.int 3 qA)))
  (jf:W.nsIn K mainGlobals "MOST_ISLANDS" = some (some (.int 20 uL)))
  (qC:W.nsIn K mainGlobals "LETTERS" = some (some (.str Bo FN)))
  (qD:W.nsIn K mainGlobals "FIGURES" = some (some (.str qi FP)))
  (jg:W.nsIn K mainGlobals "LONGEST_NAME" = some (some (.int 12 uM)))
  (jh:W.nsIn K mainGlobals "MOST_FIGURES" = some (some (.int 9 uN)))
  (kF:W.nsIn K mainGlobals "LEAST_RANK" = some (some (.int 1 yf)))
  (iI:W.nsIn K mainGlobals "GREATEST_RANK" = some (some (.int 1000000 rV)))
  (jG:W.nsIn K mainGlobals "LAST_SEASON" = some (some (.int 1000000 vT)))
  (nR:W.nsIn K mainGlobals "NECKLACE" = some (some (.str "necklace" Co)))
  (qE:W.nsIn K mainGlobals "ARMRING" = some (some (.str "armring" FQ)))
  (qF:W.nsIn K mainGlobals "FORWARD" = some (some (.str "forward" FR)))
  (nS:W.nsIn K mainGlobals "BACKWARD" = some (some (.str "backward" Cp)))
  (nU:W.nsIn K mainGlobals "STANDING" = some (some (.str "standing" Cq)))
  (JN:W.nsIn K mainGlobals "len" = some none)
  (JO:W.nsIn K mainGlobals "all" = some none)
  (JP:W.nsIn K mainGlobals "abs" = some none)
  (kH:W.nsIn K mainGlobals "isinstance" = some none)
  (CF:W.nsIn K mainGlobals "bool" = some none)
  (JQ:W.nsIn K mainGlobals "int" = some none)
  (JR:W.nsIn K mainGlobals "str" = some none)
  (CG:W.nsIn K mainGlobals "list" = some none)
  (yg:W.nsIn K mainGlobals "tuple" = some none)
  (yh:W.nsIn K mainGlobals "range" = some none)
  (JS:W.nsIn K mainGlobals "min" = some none)
  (JT:W.nsIn K mainGlobals "max" = some none)
  (CH:W.nsIn K mainGlobals "dict" = some none)
  (JU:W.nsIn K mainGlobals "zip" = some none)
  (lP:W.nsIn K mainGlobals "enumerate" = some none)
  (RB:W.nsIn K mainGlobals "DEED_FORMS" = some (some (.ref Mt)))
  (RC:K.lookup Mt=some { cls:=.type "dict",data:=.dict #[⟨PyData.keyHash w.params "person",.str "person" Ak,.ref uO⟩,⟨PyData.keyHash w.params "partners",.str "partners" uQ,.ref nN⟩,⟨PyData.keyHash w.params "part",.str "part" JF,.ref Cs⟩,⟨PyData.keyHash w.params "make",.str "make" JG,.ref Cv⟩,⟨PyData.keyHash w.params "sail",.str "sail" JH,.ref Cy⟩,⟨PyData.keyHash w.params "home",.str "home" JI,.ref CA⟩,⟨PyData.keyHash w.params "give",.str "give" JJ,.ref CC⟩,⟨PyData.keyHash w.params "vow",.str "vow" NK,.ref JK⟩,⟨PyData.keyHash w.params "season",.str "season" An,.ref uR⟩] VI })
  (RD:(Mt == sysModules)=false)
  (mn:K.lookup uO=some uP)
  (mq:uP.cls=.type "tuple")
  (mr:uP.data=.seq #[.str "name" FU,.str "number" FV] JE)
  (jz:K.lookup nN=some nO)
  (jA:nO.cls=.type "tuple")
  (jB:nO.data=.seq #[.str "name" Al,.str "name" Am] Cr)
  (sN:K.lookup Cs=some Cu)
  (sO:Cu.cls=.type "tuple")
  (sP:Cu.data=.seq #[.str "name" Mu,.str "name" Mv] Rt)
  (sQ:K.lookup Cv=some Cw)
  (sR:Cw.cls=.type "tuple")
  (sS:Cw.data=.seq #[.str "name" Mw,.str "name" Mx,.str "number" My,.str "name" Mz] Ru)
  (sU:K.lookup Cy=some Cz)
  (sV:Cz.cls=.type "tuple")
  (sW:Cz.data=.seq #[.str "number" MA,.str "name" MB] Rv)
  (sX:K.lookup CA=some CB)
  (sY:CB.cls=.type "tuple")
  (sZ:CB.data=.seq #[.str "number" MC] Rw)
  (s_:K.lookup CC=some CD)
  (tf:CD.cls=.type "tuple")
  (tm:CD.data=.seq #[.str "name" MD,.str "name" ME] Rx)
  (yi:K.lookup JK=some JL)
  (yj:JL.cls=.type "tuple")
  (yk:JL.data=.seq #[.str "name" Ry,.str "name" Rz,.str "number" RA] VJ)
  (mv:K.lookup uR=some uS)
  (mx:uS.cls=.type "tuple")
  (my:uS.data=.seq #[] JM)
  (JV:a_≠ee)
  (JW:a_≠c8)
  (JX:a_≠aO)
  (JY:ee≠c8)
  (JZ:ee≠aO)
  : ∃ fd:FuncData,(∀ (s:Shared) (v:Value),BindsTo s fd ⟨[v],[]⟩ [("_law_script",v)])/\∀ base:Heap,K.In base->base.Ns mainGlobals mg->aE l.prog w K mg base aY 13 fa fd ["_law_script"] (DZ K):=by
 have e:=hfa.symm.trans Ao.m
 cases e
 have iT:=bN.F.binds (ps:=["islands"]) fun _ _ _ _ _ _ us hl=>match us,hl with | [_],_=>rfl
 have ji:=bP.F.binds (ps:=["islands", "island"]) fun _ _ _ _ _ _ us hl=>match us,hl with | [_,_],_=>rfl
 have J1:=lO.F.binds (ps:=["islands", "island", "steps"]) fun _ _ _ _ _ _ us hl=>match us,hl with | [_,_,_],_=>rfl
 have CI:=jb.F.binds (ps:=["islands", "island", "other"]) fun _ _ _ _ _ _ us hl=>match us,hl with | [_,_,_],_=>rfl
 have Ap:=iy.F.binds (ps:=["islands", "steps"]) fun _ _ _ _ _ _ us hl=>match us,hl with | [_,_],_=>rfl
 have FW:=jY.F.binds (ps:=["name"]) fun _ _ _ _ _ _ us hl=>match us,hl with | [_],_=>rfl
 have FX:=jZ.F.binds (ps:=["rank"]) fun _ _ _ _ _ _ us hl=>match us,hl with | [_],_=>rfl
 have pR:=dE.F.binds (ps:=["kind"]) fun _ _ _ _ _ _ us hl=>match us,hl with | [_],_=>rfl
 have Aq:=iz.F.binds (ps:=["way"]) fun _ _ _ _ _ _ us hl=>match us,hl with | [_],_=>rfl
 have ym:=gK.F.binds (ps:=["kind"]) fun _ _ _ _ _ _ us hl=>match us,hl with | [_],_=>rfl
 have u1:=fZ.F.binds (ps:=["rows", "key", "value"]) fun _ _ _ _ _ _ us hl=>match us,hl with | [_,_,_],_=>rfl
 have CJ:=jc.F.binds (ps:=["kind", "giver", "receiver"]) fun _ _ _ _ _ _ us hl=>match us,hl with | [_,_,_],_=>rfl
 have CK:=jd.F.binds (ps:=["islands", "thing"]) fun _ _ _ _ _ _ us hl=>match us,hl with | [_,_],_=>rfl
 have nX:=cz.F.binds (ps:=["state", "name"]) fun _ _ _ _ _ _ us hl=>match us,hl with | [_,_],_=>rfl
 have qG:=df.F.binds (ps:=["state", "name", "receiver"]) fun _ _ _ _ _ _ us hl=>match us,hl with | [_,_,_],_=>rfl
 have mN:=cc.F.binds (ps:=["promises", "number"]) fun _ _ _ _ _ _ us hl=>match us,hl with | [_,_],_=>rfl
 have nY:=cA.F.binds (ps:=["promises", "now"]) fun _ _ _ _ _ _ us hl=>match us,hl with | [_,_],_=>rfl
 have qH:=dg.F.binds (ps:=["rows", "name"]) fun _ _ _ _ _ _ us hl=>match us,hl with | [_,_],_=>rfl
 have u2:=eE.F.binds (ps:=["state", "name"]) fun _ _ _ _ _ _ us hl=>match us,hl with | [_,_],_=>rfl
 have nZ:=cC.F.binds (ps:=["islands", "state", "behind", "ahead"]) fun _ _ _ _ _ _ us hl=>match us,hl with | [_,_,_,_],_=>rfl
 have qI:=di.F.binds (ps:=["state", "behind", "ahead"]) fun _ _ _ _ _ _ us hl=>match us,hl with | [_,_,_],_=>rfl
 have vU:=fm.F.binds (ps:=["state", "name"]) fun _ _ _ _ _ _ us hl=>match us,hl with | [_,_],_=>rfl
 have rW:=dM.F.binds (ps:=["state", "name", "receiver"]) fun _ _ _ _ _ _ us hl=>match us,hl with | [_,_,_],_=>rfl
 have vV:=fq.F.binds (ps:=["state", "holder", "receiver"]) fun _ _ _ _ _ _ us hl=>match us,hl with | [_,_,_],_=>rfl
 have j4:=bE.F.binds (ps:=["state", "name", "receiver"]) fun _ _ _ _ _ _ us hl=>match us,hl with | [_,_,_],_=>rfl
 have mP:=cf.F.binds (ps:=["state", "last"]) fun _ _ _ _ _ _ us hl=>match us,hl with | [_,_],_=>rfl
 have n8:=cD.F.binds (ps:=["state", "name"]) fun _ _ _ _ _ _ us hl=>match us,hl with | [_,_],_=>rfl
 have MG:=pQ.F.binds (ps:=["house"]) fun _ _ _ _ _ _ us hl=>match us,hl with | [_],_=>rfl
 have FY:=j0.F.binds (ps:=["house", "deed"]) fun _ _ _ _ _ _ us hl=>match us,hl with | [_,_],_=>rfl
 have Ar:=iA.F.binds (ps:=["islands", "state", "name", "receiver"]) fun _ _ _ _ _ _ us hl=>match us,hl with | [_,_,_,_],_=>rfl
 have n9:=cE.F.binds (ps:=["state"]) fun _ _ _ _ _ _ us hl=>match us,hl with | [_],_=>rfl
 have As:=iB.F.binds (ps:=["text"]) fun _ _ _ _ _ _ us hl=>match us,hl with | [_],_=>rfl
 have RE:=uT.F.binds (ps:=["text"]) fun _ _ _ _ _ _ us hl=>match us,hl with | [_],_=>rfl
 have Au:=iC.F.binds (ps:=["line"]) fun _ _ _ _ _ _ us hl=>match us,hl with | [_],_=>rfl
 have yn:=gM.F.binds (ps:=["text"]) fun _ _ _ _ _ _ us hl=>match us,hl with | [_],_=>rfl
 have CL:=je.F.binds (ps:=["text", "form"]) fun _ _ _ _ _ _ us hl=>match us,hl with | [_,_],_=>rfl
 have Av:=iD.F.binds (ps:=["word", "sort"]) fun _ _ _ _ _ _ us hl=>match us,hl with | [_,_],_=>rfl
 have vW:=fu.F.binds (ps:=["word"]) fun _ _ _ _ _ _ us hl=>match us,hl with | [_],_=>rfl
 have Aw:=gr.F.binds (ps:=["_law_script", "_law_k"]) fun _ _ _ _ _ _ us hl=>match us,hl with | [_,_],_=>rfl
 have yo:=gN.F.binds (ps:=["_law_cell_here", "_law_parts"]) fun _ _ _ _ _ _ us hl=>match us,hl with | [_,_],_=>rfl
 have rq:=eG.F.binds (ps:=["_law_found", "_law_due"]) fun _ _ _ _ _ _ us hl=>match us,hl with | [_,_],_=>rfl
 have Ax:=iE.F.binds (ps:=["_law_text"]) fun _ _ _ _ _ _ us hl=>match us,hl with | [_],_=>rfl
 have yp:=gO.F.binds (ps:=["_law_cells"]) fun _ _ _ _ _ _ us hl=>match us,hl with | [_],_=>rfl
 have qJ:=W.mg_of X G ie
 have u3:=W.mg_of X G jf
 have FZ:=W.mg_of X G qC
 have F0:=W.mg_of X G qD
 have u4:=W.mg_of X G jg
 have u5:=W.mg_of X G jh
 have pS:=W.mg_of X G kF
 have rX:=W.mg_of X G iI
 have vX:=W.mg_of X G jG
 have CM:=W.mg_of X G nR
 have F1:=W.mg_of X G qE
 have F2:=W.mg_of X G qF
 have CN:=W.mg_of X G nS
 have CO:=W.mg_of X G nU
 have NL:=W.mg_none_of X G JN
 have VL:=W.mg_none_of X G JO
 have VM:=W.mg_none_of X G JP
 have yq:=W.mg_none_of X G kH
 have RF:=W.mg_none_of X G CF
 have VN:=W.mg_none_of X G JQ
 have VO:=W.mg_none_of X G JR
 have J2:=W.mg_none_of X G CG
 have MH:=W.mg_none_of X G yg
 have D1:=W.mg_none_of X G yh
 have VP:=W.mg_none_of X G JS
 have VQ:=W.mg_none_of X G JT
 have J3:=W.mg_none_of X G CH
 have VR:=W.mg_none_of X G JU
 have Ay:=W.mg_none_of X G lP
 have qK:=cp.F.binds (ps:=["self", "kind", "made", "line"]) fun _ _ _ _ _ _ us hl=>match us,hl with | [_,_,_,_],_=>rfl
 have u6:=eM.F.binds (ps:=["self"]) fun _ _ _ _ _ _ us hl=>match us,hl with | [_],_=>rfl
 have vY:=fz.F.binds (ps:=["self"]) fun _ _ _ _ _ _ us hl=>match us,hl with | [_],_=>rfl
 have u7:=eO.F.binds (ps:=["self", "now", "receiver"]) fun _ _ _ _ _ _ us hl=>match us,hl with | [_,_,_],_=>rfl
 have qL:=cq.F.binds (ps:=["self"]) fun _ _ _ _ _ _ us hl=>match us,hl with | [_],_=>rfl
 have yr:=gT.F.binds (ps:=["self"]) fun _ _ _ _ _ _ us hl=>match us,hl with | [_],_=>rfl
 have n_:=bT.F.binds (ps:=["self"]) fun _ _ _ _ _ _ us hl=>match us,hl with | [_],_=>rfl
 have ng:=c5.F.binds (ps:=["self", "kind", "rank"]) fun _ _ _ _ _ _ us hl=>match us,hl with | [_,_,_],_=>rfl
 have Ko:PM K aO "add" "Pairing.add" L6 ["self", "kind", "rank"] jE _:=⟨c5.me,c5.F,ng⟩
 have u9:=eP.F.binds (ps:=["self"]) fun _ _ _ _ _ _ us hl=>match us,hl with | [_],_=>rfl
 have jj:PM K aO "many" "Pairing.many" uq ["self"] lI _:=⟨eP.me,eP.F,u9⟩
 have iO:=bj.F.binds (ps:=["self"]) fun _ _ _ _ _ _ us hl=>match us,hl with | [_],_=>rfl
 have AG:PM K aO "unsettled" "Pairing.unsettled" Iq ["self"] eV _:=⟨bj.me,bj.F,iO⟩
 have lQ:=cG.F.binds (ps:=["self"]) fun _ _ _ _ _ _ us hl=>match us,hl with | [_],_=>rfl
 have J4:PM K aO "twin" "Pairing.twin" DH ["self"] ja _:=⟨cG.me,cG.F,lQ⟩
 have oa:=bU.F.binds (ps:=["self", "one", "other"]) fun _ _ _ _ _ _ us hl=>match us,hl with | [_,_,_],_=>rfl
 have og:PM K aO "can_pair" "Pairing.can_pair" UD ["self", "one", "other"] fY _:=⟨bU.me,bU.F,oa⟩
 have qM:=cu.F.binds (ps:=["self", "newest"]) fun _ _ _ _ _ _ us hl=>match us,hl with | [_,_],_=>rfl
 have qN:PM K aO "settle" "Pairing.settle" l6 ["self", "newest"] jW _:=⟨cu.me,cu.F,qM⟩
 have pT:=b8.F.binds (ps:=["self", "starts"]) fun _ _ _ _ _ _ us hl=>match us,hl with | [_,_],_=>rfl
 have pU:PM K aO "come_to" "Pairing.come_to" zR ["self", "starts"] jy _:=⟨b8.me,b8.F,pT⟩
 have qO:=cw.F.binds (ps:=["self", "islands"]) fun _ _ _ _ _ _ us hl=>match us,hl with | [_,_],_=>rfl
 have u_:=eQ.F.binds (ps:=["self", "name", "island"]) fun _ _ _ _ _ _ us hl=>match us,hl with | [_,_,_],_=>rfl
 have qP:=dw.F.binds (ps:=["self", "behind", "ahead"]) fun _ _ _ _ _ _ us hl=>match us,hl with | [_,_,_],_=>rfl
 have yu:=gU.F.binds (ps:=["self", "behind", "ahead"]) fun _ _ _ _ _ _ us hl=>match us,hl with | [_,_,_],_=>rfl
 have yv:=gV.F.binds (ps:=["self", "thing", "kind", "rank", "holder"]) fun _ _ _ _ _ _ us hl=>match us,hl with | [_,_,_,_,_],_=>rfl
 have yw:=gX.F.binds (ps:=["self", "island", "way"]) fun _ _ _ _ _ _ us hl=>match us,hl with | [_,_,_],_=>rfl
 have yx:=gY.F.binds (ps:=["self", "island"]) fun _ _ _ _ _ _ us hl=>match us,hl with | [_,_],_=>rfl
 have yy:=gZ.F.binds (ps:=["self", "thing", "receiver"]) fun _ _ _ _ _ _ us hl=>match us,hl with | [_,_,_],_=>rfl
 have Az:=iF.F.binds (ps:=["self", "thing", "receiver", "last"]) fun _ _ _ _ _ _ us hl=>match us,hl with | [_,_,_,_],_=>rfl
 have va:=eR.F.binds (ps:=["self"]) fun _ _ _ _ _ _ us hl=>match us,hl with | [_],_=>rfl
 have vZ:=fE.F.binds (ps:=["self", "deed", "after"]) fun _ _ _ _ _ _ us hl=>match us,hl with | [_,_,_],_=>rfl
 refine⟨JA,?_,fun base _ _=>?_⟩
 ·obtain⟨_,_,_,_,_,_,_,_,_,e,_⟩:=Ao.F.ex
  exact fun s v=>e▸.of_eq rfl
 have T:lD mg:=⟨NL,VL,VM,yq,RF,VN,VO,J2,MH,D1⟩
 have M:zS mg:=⟨NL,VP,VQ,D1,J2⟩
 have N:HW mg:=⟨⟨_,FZ⟩,⟨_,F0⟩,⟨_,u4⟩,⟨_,u5⟩⟩
 have KD:zM mg:=⟨⟨_,CM⟩,⟨_,F1⟩⟩
 have WT:Pp mg:=⟨⟨_,F2⟩,⟨_,CN⟩⟩
 have RT:DI mg:=⟨⟨_,pS⟩,⟨_,rX⟩,⟨_,vX⟩,⟨_,CO⟩⟩
 have FT:Nn K mg w:=⟨Mt,[("person",Ak,.ref uO),("partners",uQ,.ref nN),("part",JF,.ref Cs),("make",JG,.ref Cv),("sail",JH,.ref Cy),("home",JI,.ref CA),("give",JJ,.ref CC),("vow",NK,.ref JK),("season",An,.ref uR)],W.mg_of X G RB,⟨⟨_,_,RC,rfl⟩,RD⟩,Dz (fs:=Ic) (.cons ⟨rfl,_,rfl,fun H=>.inr ⟨_,_,_,mn,mq,mr,by show 2<=sizeLine;decide,(.cons ⟨_,rfl⟩ (.cons ⟨_,rfl⟩ .nil))⟩⟩ (.cons ⟨rfl,_,rfl,fun H=>.inr ⟨_,_,_,jz,jA,jB,by show 2<=sizeLine;decide,(.cons ⟨_,rfl⟩ (.cons ⟨_,rfl⟩ .nil))⟩⟩ (.cons ⟨rfl,_,rfl,fun H=>.inr ⟨_,_,_,sN,sO,sP,by show 2<=sizeLine;decide,(.cons ⟨_,rfl⟩ (.cons ⟨_,rfl⟩ .nil))⟩⟩ (.cons ⟨rfl,_,rfl,fun H=>.inr ⟨_,_,_,sQ,sR,sS,by show 4<=sizeLine;decide,(.cons ⟨_,rfl⟩ (.cons ⟨_,rfl⟩ (.cons ⟨_,rfl⟩ (.cons ⟨_,rfl⟩ .nil))))⟩⟩ (.cons ⟨rfl,_,rfl,fun H=>.inr ⟨_,_,_,sU,sV,sW,by show 2<=sizeLine;decide,(.cons ⟨_,rfl⟩ (.cons ⟨_,rfl⟩ .nil))⟩⟩ (.cons ⟨rfl,_,rfl,fun H=>.inr ⟨_,_,_,sX,sY,sZ,by show 1<=sizeLine;decide,(.cons ⟨_,rfl⟩ .nil)⟩⟩ (.cons ⟨rfl,_,rfl,fun H=>.inr ⟨_,_,_,s_,tf,tm,by show 2<=sizeLine;decide,(.cons ⟨_,rfl⟩ (.cons ⟨_,rfl⟩ .nil))⟩⟩ (.cons ⟨rfl,_,rfl,fun H=>.inr ⟨_,_,_,yi,yj,yk,by show 3<=sizeLine;decide,(.cons ⟨_,rfl⟩ (.cons ⟨_,rfl⟩ (.cons ⟨_,rfl⟩ .nil)))⟩⟩ (.cons ⟨rfl,_,rfl,fun H=>.inr ⟨_,_,_,mv,mx,my,by show 0<=sizeLine;decide,.nil⟩⟩ .nil))))))))),DA (fs:=Ic) (.cons ⟨rfl,_,rfl,fun H=>.inr ⟨_,_,_,mn,mq,mr,by show 2<=sizeLine;decide,(.cons ⟨_,rfl⟩ (.cons ⟨_,rfl⟩ .nil))⟩⟩ (.cons ⟨rfl,_,rfl,fun H=>.inr ⟨_,_,_,jz,jA,jB,by show 2<=sizeLine;decide,(.cons ⟨_,rfl⟩ (.cons ⟨_,rfl⟩ .nil))⟩⟩ (.cons ⟨rfl,_,rfl,fun H=>.inr ⟨_,_,_,sN,sO,sP,by show 2<=sizeLine;decide,(.cons ⟨_,rfl⟩ (.cons ⟨_,rfl⟩ .nil))⟩⟩ (.cons ⟨rfl,_,rfl,fun H=>.inr ⟨_,_,_,sQ,sR,sS,by show 4<=sizeLine;decide,(.cons ⟨_,rfl⟩ (.cons ⟨_,rfl⟩ (.cons ⟨_,rfl⟩ (.cons ⟨_,rfl⟩ .nil))))⟩⟩ (.cons ⟨rfl,_,rfl,fun H=>.inr ⟨_,_,_,sU,sV,sW,by show 2<=sizeLine;decide,(.cons ⟨_,rfl⟩ (.cons ⟨_,rfl⟩ .nil))⟩⟩ (.cons ⟨rfl,_,rfl,fun H=>.inr ⟨_,_,_,sX,sY,sZ,by show 1<=sizeLine;decide,(.cons ⟨_,rfl⟩ .nil)⟩⟩ (.cons ⟨rfl,_,rfl,fun H=>.inr ⟨_,_,_,s_,tf,tm,by show 2<=sizeLine;decide,(.cons ⟨_,rfl⟩ (.cons ⟨_,rfl⟩ .nil))⟩⟩ (.cons ⟨rfl,_,rfl,fun H=>.inr ⟨_,_,_,yi,yj,yk,by show 3<=sizeLine;decide,(.cons ⟨_,rfl⟩ (.cons ⟨_,rfl⟩ (.cons ⟨_,rfl⟩ .nil)))⟩⟩ (.cons ⟨rfl,_,rfl,fun H=>.inr ⟨_,_,_,mv,mx,my,by show 0<=sizeLine;decide,.nil⟩⟩ .nil)))))))))⟩
 have J5:Mk K c8 hJ:=⟨uU,cp.me.at_,cp.me.fn,uV⟩
 have J6:Mk K ee hU:=⟨uW,cq.me.at_,cq.me.fn,uX⟩
 have CP:Mk K aO fX:=⟨nP,bT.me.at_,bT.me.fn,nQ⟩
 have J7:Mk K a_ hV:=⟨uY,cw.me.at_,cw.me.fn,uZ⟩
 obtain⟨er,rfl,rfl,rfl,rfl,rfl,rfl,rfl,rfl,rfl,rfl,rfl,rfl,rfl,rfl,rfl,rfl,rfl,rfl,rfl,rfl⟩:∃ er:Str->Addr,er "bad ring" = l7/\er "bad name" = l8/\er "taken" = sJ/\er "no island" = kz/\er "no person" = kA/\er "not neighbours" = fJ/\er "told twice" = sL/\er "not partners" = ip/\er "owing" = sM/\er "bad kind" = l9/\er "bad rank" = l_/\er "no thing" = l'/\er "wrong way" = kB/\er "no fleet" = md/\er "bad way" = pB/\er "away" = xT/\er "not away" = mf/\er "promised" = kC/\er "bad season" = jx/\er "bad text" = a0:=⟨fun wd=>[l7,l8,sJ,kz,kA,fJ,sL,ip,sM,l9,l_,l',kB,md,pB,xT,mf,kC,jx,a0].getD (kq.idxOf wd) 0,wM 0 (by left) rfl,wM 1 (by left) rfl,wM 2 (by left) rfl,wM 3 (by left) rfl,wM 4 (by left) rfl,wM 5 (by left) rfl,wM 6 (by left) rfl,wM 7 (by left) rfl,wM 8 (by left) rfl,wM 9 (by left) rfl,wM 10 (by left) rfl,wM 11 (by left) rfl,wM 12 (by left) rfl,wM 13 (by left) rfl,wM 14 (by left) rfl,wM 15 (by left) rfl,wM 16 (by left) rfl,wM 17 (by left) rfl,wM 18 (by left) rfl,wM 19 (by left) rfl⟩
 let c:Ct:=⟨a_,ee,c8,aO⟩
 have cok:c.Ok:=⟨JV,JW,JX⟩
 have abn:c.We:=⟨JY,JZ⟩
 have XG:Fc l.prog w K mg base (bu l.prog w) 4 "check_ring" ph _ ["islands"] (qk (er "bad ring")):=bN.fc iT (LU bN.F.d ET iU qJ u3)
 have XL:Fc l.prog w K mg base (bu l.prog w) 4 "check_island" lE _ ["islands", "island"] (um (er "no island")):=bP.fc ji (Pk bP.F.d ET hX)
 have XO:Fc l.prog w K mg base (bu l.prog w) 5 "onward" zZ _ ["islands", "island", "steps"] (Pl (er "bad ring") (er "no island")):=lO.fc J1 (Uo lO.F.d XG.G bN.m bN.F.kp iT XL.G bP.m bP.F.kp ji)
 have XAh:Fc l.prog w K mg base (bu l.prog w) 5 "ahead_of" uA _ ["islands", "island", "other"] (Pn (er "bad ring") (er "no island")):=jb.fc CI (Up jb.F.d XG.G bN.m bN.F.kp iT XL.G bP.m bP.F.kp ji)
 have XRo:Fc l.prog w K mg base (bu l.prog w) 5 "rounds_in" ra _ ["islands", "steps"] (Po (er "bad ring")):=iy.fc Ap (Uq iy.F.d XG.G bN.m bN.F.kp iT)
 have XNm:Fc l.prog w K mg base aY 1 "is_name" wN _ xI LN:=jY.fc FW (LO jY.F T N)
 have XIR:Fc l.prog w K mg base aY 1 "is_rank" wO _ PR PU:=jZ.fc FX (UT jZ.F RT)
 have XCK:Fc l.prog w K mg base (bu l.prog w) 4 "check_kind" pj _ ["kind"] (LH (er "bad kind")):=dE.fc pR (Ua dE.F.d ET iW KD)
 have XCW:Fc l.prog w K mg base (bu l.prog w) 4 "check_way" rf _ Pq (Pr (er "bad way")):=iz.fc Aq (Ur iz.F.d ET j3 WT)
 have WE:Fc l.prog w K mg base aY 1 "with_row" nL _ vz Fm:=fZ.fc u1 (Us fZ.F J3)
 have XWT:Fc l.prog w K mg base aY 1 "with_row" nL _ vz DE:=fZ.fc u1 (Pt fZ.F J3)
 have XBF:Fc l.prog w K mg base aY 1 "bond_for" uB _ Ma Mb:=jc.fc CJ (U0 jc.F KD)
 have XSI:Kc l.prog w K mg base aY 1 "State" ee hU _ LW (LX ee):=⟨Ut cq.F TS,J6,TS.m,qL⟩
 have R5:Mc l.prog w K mg base aY 3 ee "twin" pC _ zN (zO ee):=gT.mc yr (Uw gT.F TS XSI)
 have XH:Kc l.prog w K mg base (bu l.prog w) 5 "House" a_ hV _ Pu (Pw c (er "bad ring")):=⟨Ux cw.F TH TS XG XSI,J7,TH.m,qO⟩
 have R6:Mc l.prog w K mg base aY 1 a_ "stand" nc _ zP (zQ c):=fE.mc vZ (Uy cok fE.F TH)
 have XTI:Kc l.prog w K mg base aY 1 "Thing" c8 hJ _ LY (LZ c8):=⟨Uz cp.F TT,J5,TT.m,qK⟩
 have XTH:Mc l.prog w K mg base aY 1 c8 "holder" lG _ Ij (Ik c):=eM.mc u6 (UA (c:=c) eM.F TT)
 have XTS:Mc l.prog w K mg base aY 1 c8 "steps" m_ _ Px (Py c):=fz.mc vY (UB (c:=c) fz.F TT T)
 have XTP:Mc l.prog w K mg base aY 3 c8 "passed" lH _ Pz (PB c):=eO.mc u7 (UC (c:=c) eO.F TT XTI)
 have XPI:Kc l.prog w K mg base aY 1 "Pairing" aO fX _ ["self"] (L7 aO):=⟨UG bT.F TP,CP,TP.m,n_⟩
 have GCP:aE l.prog w K mg base aY 2 fY _ ["self", "one", "other"] (PK aO):=UK bU.F TP M KD gK.F gK.m ym
 have GCT:=L8 b8.F TP M jj GCP og
 have GST:=Fq cu.F TP M GCT pU
 have GAD:=PN c5.F TP M ET ia pS XCK.G dE.m dE.F.kp pR jj GST qN
 have XAd:Mc l.prog w K mg base (bu l.prog w) 5 aO "add" jE _ ["self", "kind", "rank"] (Ip aO (er "bad kind") (er "bad rank")):=c5.mc ng (GAD)
 have XUn:Mc l.prog w K mg base aY 2 aO "unsettled" eV _ ["self"] (BK aO de.oP):=bj.mc iO (PQ bj.F TP M jj)
 have XTw:Mc l.prog w K mg base aY 3 aO "twin" ja _ ["self"] (BL aO):=cG.mc lQ (L9 cG.F TP M XPI)
 have XCN:Fc l.prog w K mg base (bu l.prog w) 4 "check_new_name" jU _ DJ (DK (er "bad name") (er "taken")):=dg.fc qH (PX dg.F ET iV mh XNm)
 have WG:Fc l.prog w K mg base (bu l.prog w) 4 "check_person" lF _ wH (wI c (er "no person")):=eE.fc u2 (PZ (c:=c) eE.F TS ET h_)
 have XNb:Fc l.prog w K mg base (bu l.prog w) 6 "check_neighbours" i9 _ Iv (Iw c (er "not neighbours")):=cC.fc nZ (P9 (c:=c) cC.F TS ET cU XAh)
 have XPa:Fc l.prog w K mg base (bu l.prog w) 5 "check_partners" jV _ Iz (IA c (er "no person") (er "not partners")):=di.fc qI (P' (c:=c) di.F TS ET c0 WG)
 have XTh:Fc l.prog w K mg base (bu l.prog w) 4 "check_thing" mX _ IB (IC c (er "no thing")):=fm.fc vU (Qb (c:=c) fm.F TS ET iX)
 have XPs:Fc l.prog w K mg base (bu l.prog w) 5 "check_passing" kI _ DL (DM c (er "no thing") (er "no person") (er "not partners") (er "wrong way")):=dM.fc rW (Qd (c:=c) dM.F TS TT ET c0 ib XTh WG XTH XBF)
 have XFl:Fc l.prog w K mg base (bu l.prog w) 4 "check_fleet" mY _ IG (IH c (er "no fleet")):=fq.fc vV (Qg (c:=c) fq.F TS ET iY)
 have XSP:Fc l.prog w K mg base aY 1 "standing_promise" i7 _ IJ (IK c):=cz.fc nX (U2 (c:=c) cz.F TS RT Ay)
 have XFA:Fc l.prog w K mg base aY 2 "is_for_another" jT _ Qh (Qi c):=df.fc qG (U4 (c:=c) df.F TS XSP)
 have XNA:Fc l.prog w K mg base (bu l.prog w) 4 "check_not_for_another" gm _ Qj (Qk c):=bE.fc j4 (U5 (c:=c) bE.F ET f_ XFA)
 have XLs:Fc l.prog w K mg base (bu l.prog w) 4 "check_last_season" iN _ IL (IM c (er "bad season")):=cf.fc mP (Qm (c:=c) cf.F TS RT ET gu)
 have XUp:Fc l.prog w K mg base (bu l.prog w) 4 "check_unpromised" i_ _ IP (IQ c (er "promised")):=cD.fc n8 (Qo (c:=c) cD.F ET f_ XSP)
 have XRN:Fc l.prog w K mg base (bu l.prog w) 6 "rank_now" uC _ QB (QC c):=jd.fc CK (U' (c:=c) jd.F TT XRo XTS)
 have XPK:Fc l.prog w K mg base aY 1 "with_promise_kept" iM _ QD QE:=cc.fc mN (Va cc.F)
 have XPB:Fc l.prog w K mg base aY 1 "with_past_broken" i8 _ QR QS:=cA.fc nY (Vk cA.F T)
 have XWG:Fc l.prog w K mg base (bu l.prog w) 7 "with_gift" rg _ QF (QG c):=iA.fc Ar (Vc abn iA.F TS TT TP T XTH XRN XBF XTw XAd R5 WE XWT XTP XPK XSP)
 have XNS:Fc l.prog w K mg base aY 4 "with_next_season" i' _ QT (QU c):=cE.fc n9 (Vm (c:=c) cE.F TS R5 XPB)
 have X1:Mc l.prog w K mg base (bu l.prog w) 6 a_ "person" lJ _ IS (IT c er):=eQ.mc u_ (Qq eQ.F TH TS XCN XL R5 WE R6)
 have X2:Mc l.prog w K mg base (bu l.prog w) 7 a_ "partners" jX _ IV (IW c er):=dw.mc qP (Qs dw.F TH TS ET mi WG XNb R5 XWT R6 XPI)
 have X3:Mc l.prog w K mg base (bu l.prog w) 6 a_ "part" pD _ Jc (Jd c er):=gU.mc yu (QA gU.F TH TS TP ET mj XPa XUn)
 have X4:Mc l.prog w K mg base (bu l.prog w) 6 a_ "make" pE _ IX (IY c er):=gV.mc yv (Qw gV.F TH TS ET ia XCN XCK XIR WG R5 WE R6 XTI)
 have X5:Mc l.prog w K mg base (bu l.prog w) 6 a_ "sail" pF _ BQ (BR c er):=gX.mc yw (Me gX.F TH TS WT ET qB XL XCW R5 XO WE R6)
 have X6:Mc l.prog w K mg base (bu l.prog w) 5 a_ "home" pG _ BS (BU c er):=gY.mc yx (Mf gY.F TH TS ET iZ XL)
 have X7:Mc l.prog w K mg base (bu l.prog w) 8 a_ "give" pH _ Jf (Jg c er):=gZ.mc yy (QP gZ.F TH TS TT T XPs XFl XNA XWG R6 XTH)
 have X8:Mc l.prog w K mg base (bu l.prog w) 6 a_ "vow" rp _ Jj (Jk c er):=iF.mc Az (QY iF.F TH TS XPs XLs XUp)
 have X9:Mc l.prog w K mg base aY 5 a_ "season" lK _ Jh (Ji c):=eR.mc va (QW (c:=c) eR.F TH TS XNS R6)
 have XDD:Fc l.prog w K mg base (bu l.prog w) 9 "do_deed" wQ _ QZ (Q0 c er):=j0.fc FY (Vr j0.F TH X1 X2 X3 X4 X5 X6 X7 X8 X9)
 have XNu:Fc l.prog w K mg base (bu l.prog w) 4 "read_number" mZ _ HY (HZ (er "bad text")):=fu.fc vW (Pb fu.F T N ET dm)
 have XRW:Fc l.prog w K mg base (bu l.prog w) 5 "read_word" rl _ Pc (H_ (er "bad text")):=iD.fc Av (Uh iD.F T ET dm XNm XNu)
 have XRR:Fc l.prog w K mg base (bu l.prog w) 6 "read_row" uD _ LS (Dy K (er "bad text")):=je.fc CL (Uj je.F T ET dm VR XRW)
 have XFW:Fc l.prog w K mg base aY 1 "first_word" pk _ LQ LR:=gM.fc yn (Ug gM.F T)
 have XRD:Fc l.prog w K mg base (bu l.prog w) 7 "read_deed" rh _ Pg (Ie (er "bad text")):=iB.fc As (Ul iB.F FT ET dm XFW XRR)
 have XRg:Fc l.prog w K mg base (bu l.prog w) 7 "read_ring" rj _ Q2 (Q3 (er "bad text")):=iC.fc Au (Vs iC.F ET dm XFW XRR)
 have XRe:Fc l.prog w K mg base (bu l.prog w) 11 "read" Jx _ BX (BY c er):=uT.fc RE (Mh uT.F T XRg XRD XH XDD)
 have XDs:Fc l.prog w K mg base aY 1 "deeds" D0 _ Q6 (Q7 c):=pQ.fc MG (Vv (c:=c) pQ.F TH)
 have EW:∀ wd∈kq,ErW K aM (er "bad text") (er wd) wd:=fun wd h=>by
  unfold kq at h
  simp only[List.mem_cons,List.not_mem_nil,or_false] at h
  rcases h with rfl | rfl | rfl | rfl | rfl | rfl | rfl | rfl | rfl | rfl | rfl | rfl | rfl | rfl | rfl | rfl | rfl | rfl | rfl | rfl
  ·exact⟨iU.ex,iU.cls,iU.na,(by rw[decide_eq_false (by left)];exact eW)⟩
  ·exact⟨iV.ex,iV.cls,iV.na,(by rw[decide_eq_false (by left)];exact eX)⟩
  ·exact⟨mh.ex,mh.cls,mh.na,(by rw[decide_eq_false (by left)];exact gP)⟩
  ·exact⟨hX.ex,hX.cls,hX.na,(by rw[decide_eq_false (by left)];exact eI)⟩
  ·exact⟨h_.ex,h_.cls,h_.na,(by rw[decide_eq_false (by left)];exact eJ)⟩
  ·exact⟨cU.ex,cU.cls,cU.na,(by rw[decide_eq_false (by left)];exact cO)⟩
  ·exact⟨mi.ex,mi.cls,mi.na,(by rw[decide_eq_false (by left)];exact gQ)⟩
  ·exact⟨c0.ex,c0.cls,c0.na,(by rw[decide_eq_false (by left)];exact dn)⟩
  ·exact⟨mj.ex,mj.cls,mj.na,(by rw[decide_eq_false (by left)];exact gS)⟩
  ·exact⟨iW.ex,iW.cls,iW.na,(by rw[decide_eq_false (by left)];exact eY)⟩
  ·exact⟨ia.ex,ia.cls,ia.na,(by rw[decide_eq_false (by left)];exact eZ)⟩
  ·exact⟨iX.ex,iX.cls,iX.na,(by rw[decide_eq_false (by left)];exact e_)⟩
  ·exact⟨ib.ex,ib.cls,ib.na,(by rw[decide_eq_false (by left)];exact eK)⟩
  ·exact⟨iY.ex,iY.cls,iY.na,(by rw[decide_eq_false (by left)];exact fe)⟩
  ·exact⟨j3.ex,j3.cls,j3.na,(by rw[decide_eq_false (by left)];exact gb)⟩
  ·exact⟨qB.ex,qB.cls,qB.na,(by rw[decide_eq_false (by left)];exact ic)⟩
  ·exact⟨iZ.ex,iZ.cls,iZ.na,(by rw[decide_eq_false (by left)];exact fh)⟩
  ·exact⟨f_.ex,f_.cls,f_.na,(by rw[decide_eq_false (by left)];exact eL)⟩
  ·exact⟨gu.ex,gu.cls,gu.na,(by rw[decide_eq_false (by left)];exact dZ)⟩
  ·exact⟨dm.ex,dm.cls,dm.na,(eu _ _)⟩
 have XLR:Fc l.prog w K mg base aY 12 "_law_read" rn _ Q8 Q9:=iE.fc Ax (Vy iE.F T ET dm EW XRe XDs)
 have XDr:Fc l.prog w K mg base aY 1 "_law_draws" pz _ ["_law_cell_here", "_law_parts"] (sG K):=gN.fc yo (HV gN.F T)
 have XLL:Fc l.prog w K mg base aY 2 "_law_lines" pA _ Q_ (Ra K):=gO.fc yp (Vz gO.F T XDr)
 exact Rp Ao.F T ⟨LK gr.F T,gr.m,gr.F.kp,Aw⟩ XDr XLL XLR ⟨LL eG.F T eG.m rq 1,eG.m,eG.F.kp,rq⟩
theorem walk{l:W.OpenLaw}{q:Program}{loose:List Str}{XP:(Str->Option Value)->Heap->Prop}{YP:World->Heap->Prop}{d:DefRec}{K:Params->W.Frag}(hn:l.most=some 63)(M0:d.params.defaults=[])
  (hY:∀ (w:World) (h:Heap),YP w h->(K w.params).In h)
  (F:∀ (w:World) (mg:Str->Option Value) (fa:Addr) (h:Heap),(K w.params).In h->h.Ns mainGlobals mg->mg d.name=some (.ref fa) ->
   ∃ fd:FuncData,(∀ (s:Shared) (u:Value),BindsTo s fd ⟨[u],[]⟩ [("_law_script",u)])/\∀ base:Heap,(K w.params).In base->base.Ns mainGlobals mg->aE l.prog w (K w.params) mg base aY 13 fa fd ["_law_script"] (DZ (K w.params))) :
  W.WalkO q loose XP YP l.row.toRowW d [] (fun f vs=>PySem.call f vs) :=
 L2.KR (n:=63) (k:=13) (x := "_law_script") (CX:=fun _=>aY) (sp:=fun w=>DZ (K w.params)) hn (by decide) M0 ⟨rfl,by decide,by decide⟩ hY F (fun _ _ a ns hl _ hS=>⟨a,ns,rfl,hS,hl,fun _=>rfl⟩) fun _ _ _ _ _ z=>z
end
end K29
namespace PySem.W.Fast
def tw17510667698553229438:=0
def tw8181686711176569663:=0
def tw17697827701455829222:=0
def tw15525817482666324610:=0
def tw1128529794987548594:=0
def tw16720478512915445018:=0
def tw13772223256803875978:=0
def tw15843345564724064672:=0
def tw800932281156193931:=0
def tw4426697566697496385:=0
def tw13729805979271963432:=0
def tw822950685684033948:=0
def tw13245451792451795874:=0
def tw5622182934004900449:=0
def tw4189033835853752989:=0
def tw16039434898414443000:=0
def tw15941460916986361943:=0
def tw2057705016876268862:=0
def tw10034101942743822083:=0
def tw11022508841906425283:=0
def tw10966109410457851231:=0
def tw3482392699103641501:=0
def tw3188373227011909242:=0
def tw2584065461924634092:=0
def tw12433396920237637125:=0
def tw11067487543892619975:=0
def tw7482536590476274192:=0
def tw9116697634966060686:=0
def tw11652278767105000721:=0
def tw1706184017404821976:=0
def tw3992945128769205405:=0
def tw12123512781401379639:=0
def tw5183564669474178706:=0
def tw13619385892937363173:=0
def tw6368377650631968587:=0
def tw9444323029392641731:=0
def tw9715355333112090663:=0
def tw14443895043438304989:=0
def tw4656932419787729441:=0
def tw14885983167372338966:=0
def tw8362739158361704817:=0
def tw3147740609016301695:=0
def tw6100176599048521550:=0
def tw6309817423597204819:=0
def tw5053709265202205011:=0
def tw2697949543846837951:=0
def tw12734238723805552036:=0
def tw7110995034824431111:=0
def tw15473926399938026692:=0
def tw15342539329519994757:=0
def tw8045371490797187434:=0
def tw2773802071262453481:=0
def tw3324621518496394370:=0
def tw2497318323266816391:=0
def tw11380350358521804434:=0
def tw1524689813579561336:=0
def tw9315424035810751382:=0
def tw8355576754301952585:=0
def tw8771648007970100211:=0
def tw8197094351264112814:=0
def tw8191437808853580514:=0
def tw14320727715970328598:=0
def tw9327139805217670610:=0
def tw1311008330609844810:=0
def tw12458901751025022541:=0
def tw13295351321464346977:=0
def tw8358541161684699018:=0
def tw11375589576258665075:=0
def tw17314443492627022294:=0
def tw6096937800168250044:=0
def tw9393910190498733570:=0
def tw5245073930356633701:=0
def tw14373565530032273110:=0
def tw1473721080114173946:=0
def tw6451132369172419550:=0
def tw14296320777651833390:=0
def tw9431293514162915838:=0
def tw5105461859690550381:=0
def tw3738982795641602615:=0
def tw7412431694640473176:=0
def tw5753417986459867364:=0
def tw2956715361886162888:=0
def tw2751260483417221213:=0
def tw15021109386776317399:=0
def tw11508183601851469976:=0
def tw4873146198851917819:=0
def tw6292752409374712871:=0
def tw12201946065970788176:=0
def tw2666078926724826971:=0
def tw5942874913964357578:=0
def tw9276745000456766250:=0
def tw14691816114830438975:=0
def tw10812324411617403634:=0
def tw14872791933294189209:=0
def tw2834894810782591524:=0
def tw7102194406703844434:=0
def tw441297746979934983:=0
def tw11633977931918135685:=0
def tw8421906113697393930:=0
def tw14396427728276193167:=0
def tw2510646477575730322:=0
def tw3578665124151786940:=0
def tw1176479225837698553:=0
def tw17302038456952237476:=0
def tw10522906318747361840:=0
def tw5335697188476933037:=0
def tw111093269757144336:=0
def tw12122848456979662467:=0
def tw2455705080391401959:=0
def tw11652361720215227480:=0
def tw861988733642264843:=0
def tw1432166451659467116:=0
def tw9912791557934784062:=0
def tw10371085785444245081:=0
def tw16209715948449445129:=0
def tw17161281576529609506:=0
def tw6852893916849535730:=0
def tw3062124483576624102:=0
def tw7902556689987285407:=0
def tw13364046409583299657:=0
def tw6720050619512284594:=0
def tw17473341119603737471:=0
def tw9581933989411419505:=0
def tw7824565962205795702:=0
def tw14210060622777975608:=0
def tw12231247986282916792:=0
def tw10268194130126457050:=0
def tw18152327139666284452:=0
def tw12253116134625885174:=0
def tw12216819611456622520:=0
def tw17504152197228738553:=0
def tw2830740127263143006:=0
def tw16492501161742391731:=0
def tw13473063283088413471:=0
def tw3956371862901036983:=0
def tw6232468794253145402:=0
def tw10947369823930421809:=0
def tw7063581758132724265:=0
def tw11777588642160894718:=0
def tw18126529690708346705:=0
def tw17424116389456201324:=0
def tw5710174381934247710:=0
def tw5895625806842375831:=0
def tw4618877662435574404:=0
def tw16224658343754673325:=0
def tw10569688063739252326:=0
def tw4775078474835910001:=0
def tw2973547216030988703:=0
def tw9387396679821883173:=0
def tw4183855242337694270:=0
def tw11621853554694078464:=0
def tw17457284006969093923:=0
def tw10286650307553613954:=0
def tw13157150615279768754:=0
def tw1846347224342446893:=0
def tw6214342010015387203:=0
def tw1695862500211038815:=0
def tw7120841377056098771:=0
def tw1213558809383002669:=0
def tw12986706693819102578:=0
def tw4774130369269203592:=0
def tw9267055788913955493:=0
def tw10736188097349671353:=0
def tw16001936254062999719:=0
def tw4887707322024408790:=0
def tw14203663745017645217:=0
def tw18225777388339316431:=0
def tw12800233416172085914:=0
def tw18231162857462947475:=0
def tw3980252041815762834:=0
def tw4620107064457820659:=0
def tw17148989468638148539:=0
def tw185863783371012637:=0
def tw15382314725141541376:=0
def tw15884075748370056127:=0
def tw17537317812551422938:=0
def tw4132411083880005878:=0
def tw489141884986165299:=0
def tw16895560128780208957:=0
def tw2170897176296525707:=0
def tw15365019851617020945:=0
def tw16659962286500905566:=0
def tw10967331679847688962:=0
def tw7942014674717838:=0
def tw15913697383159204795:=0
def tw7588810767310593343:=0
def tw17614205765141729342:=0
def tw5775326893104637439:=0
def tw10073420525465751922:=0
def tw11473355137700676997:=0
def tw3608933811135053734:=0
def tw17010592952322771271:=0
def tw17964077836889005026:=0
def tw2566862784928734223:=0
def tw15914124511671222833:=0
def tw6977477478577662283:=0
def tw2031973517459815030:=0
def tw7176670490873106050:=0
def tw8447038180958227119:=0
def tw4506579373528225056:=0
def tw521686200371039914:=0
def tw15204169786838694265:=0
def tw764984671978622846:=0
def tw3746067664208397265:=0
def tw17714271791119730038:=0
def tw17157392484586313272:=0
def tw17507763040968346706:=0
def tw17671412808835709579:=0
def tw17535851168801371879:=0
def tw14137731733573724260:=0
def tw6197045775273123713:=0
def tw14402914033336155942:=0
def tw2690875133375052448:=0
def tw6639842516687826272:=0
def tw13369864014945140821:=0
def tw1731431003881638790:=0
def tw2560764986794722250:=0
def tw14237534732541888865:=0
def tw10297738066698991508:=0
def tw5784987981610564036:=0
def tw15031601403223827202:=0
def tw17040705753262312274:=0
def tw3085479182032563470:=0
def tw8158349252143776758:=0
def tw700232318995825728:=0
def tw17922468014845119111:=0
def tw16766471569361288587:=0
def tw9611223342414867129:=0
def tw6183496043762710111:=0
def tw6275288169258071611:=0
def tw8690466442103826588:=0
def tw6427614712993049369:=0
def tw2879606025125537416:=0
def tw12476347221732193785:=0
def tw10307506463698669482:=0
def tw2693971950307290279:=0
def tw12148994602440753477:=0
def tw4394052859260635872:=0
def tw11013065201657246104:=0
def tw17510848400634107045:=0
def tw8951696019254367185:=0
def tw3365798343666840206:=0
def tw8763665487691874738:=0
def tw11408510053227040313:=0
def tw4561795241999427969:=0
def tw6884485452542249311:=0
def tw13898711694790740959:=0
def tw13144331107446679970:=0
def tw17717236458439179785:=0
def tw12422903792708241946:=0
def tw7785755322114447781:=0
def tw7840094507615112358:=0
def tw13234162320299998425:=0
def tw6009645046620535363:=0
def tw8079677449375912992:=0
def tw4781379710503380437:=0
def tw11762069585373622980:=0
def tw2271651894767130857:=0
def tw17999477677483032465:=0
def tw17087921507530436437:=0
def tw15374948531755012106:=0
def tw14497725951551768401:=0
def tw8536106503740915390:=0
def tw1352565161872251919:=0
def tw672702320730870881:=0
def tw11502469056833463529:=0
def tw18059553080600093410:=0
def tw9563766393562291411:=0
def tw12811886137255506662:=0
def tw7869136312702992648:=0
def tw1111297647348228378:=0
def tw8454142931809057691:=0
def tw8566338845413221226:=0
def tw4460234977581603758:=0
def tw6624587683286899422:=0
def tw1549191105530249873:=0
def tw12727265449465304700:=0
def tw16486479154322880950:=0
def tw4954178905132304887:=0
def tw15116906511408156914:=0
def tw17235196131485973212:=0
def tw6419793441351437114:=0
def tw5993202660595679096:=0
def tw3459950101477074385:=0
def tw6925032579934341506:=0
def tw10212167581322594556:=0
def tw17848111159080121551:=0
def tw8324188792960375752:=0
def tw5493527323546507288:=0
def tw9361084580002611436:=0
def tw13063128190130022192:=0
def tw12684807874071213295:=0
def tw13587342529133114822:=0
def tw15654240935444833349:=0
def tw18289317251109761428:=0
def tw18446133362729488603:=0
def tw10260264367738552366:=0
def tw13052964377557184689:=0
def tw5257822461710801346:=0
def tw11387589454701915065:=0
def tw2685102381782762497:=0
def tw16767961162179888125:=0
def tw17749396409715575834:=0
def tw15001169810828239665:=0
def tw14621833684390874423:=0
def tw13375891732851395167:=0
def tw18202092458296815005:=0
def tw2361668920160763794:=0
def tw2644782562198732154:=0
def tw4981952238715915463:=0
def tw16600190732535800961:=0
def tw9567709218336520562:=0
def tw9747562845278805512:=0
def tw15890856180037560658:=0
def tw17842694844853669237:=0
def tw4760097970056525698:=0
def tw604151463366255018:=0
def tw13822932594895112241:=0
def tw3017322745083144860:=0
def tw2673796173292882442:=0
def tw7713794507745485096:=0
def tw5443912608639603257:=0
def tw17227784634129415141:=0
def tw12277813112378267889:=0
def tw8157410762373270428:=0
def tw17559986394623831331:=0
def tw9378819518223728967:=0
def tw17080170984877603939:=0
def tw2264931196736263167:=0
def tw13926848989004518825:=0
def tw16300600714743226885:=0
def tw2149624780878961407:=0
def tw14137478414751916388:=0
def tw4366515610951655334:=0
def tw5691696311290681905:=0
def tw12416278037153678843:=0
def tw6302826771420255360:=0
def tw7979274335525063936:=0
def tw14781937268168349265:=0
def tw2588468047829486755:=0
def tw12967279857287438081:=0
def tw10763190547189522361:=0
def tw1552151189025602662:=0
def tw9283580119602607311:=0
def tw2840379116541485584:=0
def tw2939830921938272859:=0
def tw342637176224713051:=0
def tw3535786004873828314:=0
def tw6396430880382734803:=0
def tw2987252588633832590:=0
def tw2287912947649777860:=0
def tw5295941491934091996:=0
def tw1227353843489094967:=0
def tw3169379052625990026:=0
def tw6478060929559807452:=0
def tw11322152002707533650:=0
def tw9434743570858402526:=0
def tw6863238552967085519:=0
def tw15592049198140468149:=0
def tw7888900052682597981:=0
def tw9349960553303479632:=0
def tw12123881941880838236:=0
def tw11116569840533618572:=0
def tw9431778073554563344:=0
def tw6547168417273617692:=0
def tw5989851486856177681:=0
def tw5650561067693021115:=0
def tw15043227417612924827:=0
def tw2507686664084233433:=0
def tw13979286962240025213:=0
def tw886803241028873548:=0
def tw6016277281421317937:=0
def tw5975326274664328923:=0
def tw16086403143005938684:=0
def tw8436223193825438262:=0
def tw12962508860264658206:=0
def tw12209683626469185678:=0
def tw12042648019415426170:=0
def tw7944874894962977129:=0
def tw7968763114233046436:=0
def tw1790928468172558907:=0
def tw4535680159380344425:=0
def tw16671412143924060590:=0
def tw14744904719213696414:=0
def tw15129287395708606849:=0
def tw4716418477184923389:=0
def tw1860683069378938535:=0
def tw9309066605875730077:=0
def tw17714776598742804717:=0
def tw8084950793210635012:=0
def tw15011004704794228592:=0
def tw14676770711719545780:=0
def tw1853164014536544230:=0
def tw16118809980680357638:=0
def tw2851121620979948828:=0
def tw18250374204138724955:=0
def tw16661502816526362621:=0
def tw10127950631035257542:=0
def tw10300515309187712069:=0
def tw7891062745199000739:=0
def tw13987346131273260967:=0
def tw3089385309417746529:=0
def tw16638229680896895254:=0
def tw1119395950213052522:=0
def tw8182156004596552319:=0
def tw5451967634253793804:=0
def tw16961525201068727165:=0
def tw6855821951719799820:=0
def tw16283466958391842055:=0
def tw7087686025367450230:=0
def tw9558549784770780329:=0
def tw6862416877389219474:=0
def tw12145606074815814790:=0
def tw16282448574678743980:=0
def tw3582631221874921289:=0
def tw18207564964199158789:=0
def tw12030713973422516527:=0
def tw603217425658997671:=0
def tw766828595902160465:=0
def tw2538417258990767879:=0
def tw13287786530672857909:=0
def tw11482083751417364168:=0
def tw15281435056098688428:=0
def tw10781741370430776979:=0
def tw13442021263851860858:=0
def tw9663951199295973455:=0
def tw15070648228048919559:=0
def tw12512435971949938694:=0
def tw10878420680022983906:=0
def tw7471893467175060588:=0
def tw11510205513197445990:=0
def tw13750197605228096702:=0
def tw6716469979949925155:=0
def tw11911015953972800316:=0
def tw8993580965655253152:=0
def tw15061282553754701837:=0
def tw1948285123096977131:=0
def tw13925092538288446325:=0
def tw8304494099697390116:=0
def tw6793161302841868087:=0
def tw15964223302132105039:=0
def tw12296493248902593275:=0
def tw8890604458229455384:=0
def tw5047263870680293369:=0
def tw15603110533059387101:=0
def tw12783551799651639585:=0
def tw1329622247720435538:=0
def tw15040164509798901102:=0
def tw7639183522422700914:=0
def tw7871206796353500961:=0
def tw8413876632523266985:=0
def tw7478404682706284263:=0
def tw7195247686801277231:=0
def tw8591683111644926748:=0
def tw4757133789142690907:=0
def tw18439704398135307383:=0
def tw6590341396994461193:=0
def tw16106352174318182899:=0
def tw1735466515252454324:=0
def tw6610052803969441297:=0
def tw11739286240939879556:=0
def tw17608726409206691968:=0
def tw5055424021068456770:=0
def tw16789429980449532208:=0
def tw8671240121345685337:=0
def tw3096956796066652373:=0
def tw4528707996914830838:=0
def tw8971860935127138196:=0
def tw13367686577612914606:=0
def tw2136794720327568167:=0
def tw17014792314270826864:=0
def tw2081388236114111127:=0
def tw5217355518721113254:=0
def tw12007269917169199407:=0
def tw13424769423268478467:=0
def tw7974657618758184514:=0
def tw1861986786777714419:=0
def tw13494112952163498341:=0
def tw6480095723751266994:=0
def tw12209743038867902552:=0
def tw16427081655141901859:=0
def tw15220819606112538145:=0
def tw12297412854775242276:=0
def tw18375308146550227589:=0
def tw4981019992941391037:=0
def tw3017959987282694697:=0
def tw18176235465959518493:=0
def tw15368114375564333979:=0
def tw7250757462970158858:=0
def tw15983976112503145976:=0
def tw16428998982852962321:=0
def tw9531577782266937163:=0
def tw9866370342632612522:=0
def tw2747559190044134295:=0
def tw7785372741672153745:=0
def tw10349138619723792220:=0
def tw11120989664263758037:=0
def tw11970941406553292247:=0
def tw10959286000499132548:=0
def tw13126762801198152368:=0
def tw5052234025793025976:=0
def tw10165905084566600184:=0
def tw16399583795059923615:=0
def tw12652821509653391089:=0
def tw15232158671165549894:=0
def tw11166889513157336365:=0
def tw14541039762204328238:=0
def tw924958402020358830:=0
def tw15628508963773214367:=0
def tw8298311627982026833:=0
def tw2420415553131376664:=0
def tw15060786373505671284:=0
def tw14060159636085770503:=0
def tw6921241454705709179:=0
def tw73552795575012465:=0
def tw9891330506193332264:=0
def tw1222425918526168477:=0
def tw13901209615812316002:=0
def tw5727827221647881013:=0
def tw3170861308645484725:=0
def tw11022132721618335660:=0
def tw17607684353672943374:=0
def tw5715090098267654272:=0
def tw16043247689301793992:=0
def tw2133629887693654898:=0
def tw8742992201487801768:=0
def tw3431939686886548689:=0
def tw6457367074310628893:=0
def tw1411055474090205579:=0
def tw2156065243487284745:=0
def tw11092277777638516914:=0
def tw13522303941616819427:=0
def tw14422942695917295980:=0
def tw8513312748374958697:=0
def tw13736361989746991662:=0
def tw14614457907780004411:=0
def tw2642445462397013367:=0
def tw4786348060284895598:=0
def tw3302665802828504687:=0
def tw14649530948215628056:=0
def tw73385172149465794:=0
def tw14168091745312375975:=0
def tw6543933166133454719:=0
def tw13082609480834053982:=0
def tw13751200321733695558:=0
def tw14565269146545573892:=0
def tw11612696536523008082:=0
def tw6855891196683319090:=0
def tw15751049815074256561:=0
def tw2069553867530619261:=0
def tw3223486860547295803:=0
def tw14602511973587332563:=0
def tw1716518312477809148:=0
def tw1387982320511338834:=0
def tw16248453167500247356:=0
def tw9368760518086726626:=0
def tw13356928553883204271:=0
def tw15365754019697455630:=0
def tw12042684624170199137:=0
def tw4764741610469261004:=0
def tw13769348092159480318:=0
def tw6704361078156904969:=0
def tw6033750911784366124:=0
def tw12206475627565290171:=0
def tw4797401823007107817:=0
def tw10230447675843455584:=0
def tw11856357761905432595:=0
def tw15976807364801016722:=0
def tw14440098235102240040:=0
def tw2099671285289915583:=0
def tw8848232164979799775:=0
def tw14975081912309766267:=0
def tw6502708783192337311:=0
def tw12795704914560546903:=0
def tw5145759588630149909:=0
def tw8643581490026264243:=0
def tw6764017095427513708:=0
def tw16592767619874752066:=0
def tw17809397989464715997:=0
def tw17386903462367276250:=0
def tw8805323393674443610:=0
def tw5433808584745932462:=0
def tw1591757461515996731:=0
def tw14935647790526383408:=0
def tw9159033459125211175:=0
def tw16215088141136963161:=0
def tw352005661359054134:=0
def tw11461638078541229118:=0
def tw17842729253855535408:=0
def tw14972017660763491156:=0
def tw14779885722274537016:=0
def tw14348120423831502860:=0
def tw5009229418998109040:=0
def tw7722966221474985980:=0
def tw5237639392206236131:=0
def tw3766184432471692403:=0
def tw13505252033344238305:=0
def tw11566689735449088682:=0
def tw870079349688738101:=0
def tw4617052425963154720:=0
def tw14031475410980138535:=0
def tw15042655725084131341:=0
def tw7253952491808617035:=0
def tw4350950179429980084:=0
def tw12469841377136430855:=0
def tw10135025449052979377:=0
def tw17797918462055321098:=0
def tw3270912931983036803:=0
def tw8476420379073938364:=0
def tw13564992258429081260:=0
def tw7929926416768802633:=0
def tw3103008619316705754:=0
def tw13271989902994588516:=0
def tw7689367670908716328:=0
def tw9615295268973956976:=0
def tw9107209570093597742:=0
def tw1183487157175770310:=0
def tw1739105193405065912:=0
def tw8546474952356835510:=0
def tw10618879520116618247:=0
def tw6493028943916895432:=0
def tw13098048653847314408:=0
def tw7765612370347325691:=0
def tw3575836219171241533:=0
def tw10217780442984494650:=0
def tw7725190744323808974:=0
def tw2068817831905939529:=0
def tw13922174738524756784:=0
def tw781256720137927011:=0
def tw13628127915017930274:=0
def tw7095456473440403678:=0
def tw16390522780710936769:=0
def tw7840913640100834549:=0
def tw17469429447384648442:=0
def tw17547329868858203864:=0
def tw1454289968282881495:=0
def tw7351237423467085128:=0
def tw5503966698438741143:=0
def tw11761793309153571842:=0
def tw7163019927251588971:=0
def tw16360660449149069494:=0
def tw12331055546637023490:=0
def tw3205471764849040260:=0
def tw3943254509570816952:=0
def tw9033027291751005797:=0
def tw5986281694166984824:=0
def tw14168488579742053748:=0
def tw3385495353395472595:=0
def tw14757810352534429701:=0
def tw1652359962444203121:=0
def tw8197064536886356639:=0
def tw14901928362507655479:=0
def tw15598132631981540068:=0
def tw12934353049709244012:=0
def tw8498189710414452623:=0
def tw14084692308288587050:=0
def tw13158080002978782380:=0
def tw13419170384144032202:=0
def tw2472688113584817121:=0
def tw2688148605812599829:=0
def tw14684361094058377529:=0
def tw1567614612398365119:=0
def tw5347556372569359701:=0
def tw7394243341451935051:=0
def tw12092160709630642974:=0
def tw10388825249365303333:=0
def tw15026118747698793249:=0
def tw13432316465717429909:=0
def tw14681933601988741253:=0
def tw7675215897093019853:=0
def tw17838599417679133091:=0
def tw12520564997983390964:=0
def tw7652148453121546744:=0
def tw18003728990156256983:=0
def tw12417500256390052743:=0
def tw16827345683844229426:=0
def tw6628833443238445621:=0
def tw13046745291989714153:=0
def tw12267181180535397266:=0
def tw14245402507121967904:=0
def tw14206220649116980357:=0
def tw12794301755233030282:=0
def tw15263838752937459390:=0
def tw452485356783002837:=0
def tw1387214534233990804:=0
def tw7182399708097990983:=0
def tw12095974074961763551:=0
def tw13616504153975077154:=0
def tw11338401858380071350:=0
def tw5853619567984419093:=0
def tw17936787338357271997:=0
def tw16977194406362032625:=0
def tw17015376406681326936:=0
def tw17904362668917915087:=0
def tw4946939377722967058:=0
def tw1558479909086726098:=0
def tw1074340142281773616:=0
def tw8774770912665675399:=0
def tw16350753713541933525:=0
def tw12141830129273024726:=0
def tw4842052514716857200:=0
def tw14628777258614590134:=0
def tw12590509906476619335:=0
def tw17191985692640953934:=0
def tw6947827323142115003:=0
def tw6676414981127584219:=0
def tw9534398870245696465:=0
def tw12061306976255188776:=0
def tw8758477735515367039:=0
def tw6128081435739041457:=0
def tw3483039987523559954:=0
def tw9216497042101599396:=0
def tw14248582122829514203:=0
def tw14309013701206486030:=0
def tw2483233145778250966:=0
def tw4049099426643078608:=0
def tw1534274930477422671:=0
def tw17709958343294762129:=0
def tw8546912715367443861:=0
def tw11516456566398773305:=0
def tw6261601506337178377:=0
def tw1443323994805055633:=0
def tw1293076635404362597:=0
def tw10052991204413340770:=0
def tw11029341964515162084:=0
def tw1978958010617159953:=0
def tw13837404079405356944:=0
def tw17051008694596500389:=0
def tw6848736039735643656:=0
def tw5313582832953075495:=0
def tw7316854082639924889:=0
def tw3449305199928441069:=0
def tw14337870517391780640:=0
def tw5376993530539330100:=0
def tw14851301567251326053:=0
def tw12803416634372093249:=0
def tw14482186217046024774:=0
def tw15099880913890227020:=0
def tw18004581913773787524:=0
def tw8857307889981008248:=0
def tw10936742183224662635:=0
def tw9289338263799875554:=0
def tw495663212807114089:=0
def tw17875154395930408223:=0
def tw6057891790019638169:=0
def tw11326859818539940701:=0
def tw2989505399327877640:=0
def tw757983762941526609:=0
def tw9093161522501484562:=0
def tw10091680565361983914:=0
def tw11343852434696655806:=0
def tw18245905386800026111:=0
def tw16940553816825787419:=0
def tw17111731215351041499:=0
def tw1015105827177127634:=0
def tw12448505403086891146:=0
def tw7212204033591125140:=0
def tw1494532672574246746:=0
def tw5192720053069609877:=0
def tw5595568311738746798:=0
def tw3034485515663842715:=0
def tw8912301818314116361:=0
def tw11357946369027035108:=0
def tw7034916877288437823:=0
def tw8483592318112357570:=0
def tw10112121872717344571:=0
def tw14258397928625491431:=0
def tw16063395232152947332:=0
def tw11673219404838316394:=0
def tw17712664197631340657:=0
def tw2467916295725221753:=0
def tw8486160900982520191:=0
def tw10854331288411691412:=0
def tw4617213947120397845:=0
def tw12636754817951646178:=0
def tw4338335583731876872:=0
def tw18223650489406122999:=0
def tw6587691437872692355:=0
def tw14145801224879150005:=0
def tw17185190568399405924:=0
def tw1912846783127423145:=0
def tw15875393096136189201:=0
def tw13688427695613088800:=0
def tw1017876546203687998:=0
def tw8200462887169306255:=0
def tw11384804500934953720:=0
def tw11621906866117812422:=0
def tw16772513336137495346:=0
def tw16143912064972136946:=0
def tw12793627345795166646:=0
def tw16154694496026113077:=0
def tw4125760627580517102:=0
def tw11058569795965929488:=0
def tw17165891226148849691:=0
def tw15570751547773191090:=0
def tw8482825933517897591:=0
def tw7066298025049564444:=0
def tw14390024124435964937:=0
def tw16983233147862348301:=0
def tw8178375518856318215:=0
def tw8770561376323088595:=0
def tw12403280668098286852:=0
def tw12520399047135533962:=0
def tw12488659881515407325:=0
def tw13829893976197082940:=0
def tw9178177684242684617:=0
def tw8973819245870638251:=0
def tw2672556443559055934:=0
def tw7644242726143647479:=0
def tw5820850745848422872:=0
def tw510121809586999138:=0
def tw8391015765758416135:=0
def tw16606381958288720632:=0
def tw8017559429165119756:=0
def tw8877631339833918072:=0
def tw1533881060786624937:=0
def tw15401875970587929512:=0
def tw18301340576909152760:=0
def tw2334471595835228737:=0
def tw8879478942434105902:=0
def tw16567604430409646509:=0
def tw16525221079765494355:=0
def tw5030180576277353264:=0
def tw118374423869874043:=0
def tw17398179449825301804:=0
def tw2109754064670712493:=0
def tw13526958692346711865:=0
def tw12449761949813766491:=0
def tw13687652086254105916:=0
def tw13341619206729111289:=0
def tw8134624267902763389:=0
def tw6980932445861330999:=0
def tw2393836432453255760:=0
def tw5367953587532861040:=0
def tw11556787657809251787:=0
def tw10602612913144397771:=0
def tw14738392391691449124:=0
def tw4252495430156004923:=0
def tw4033091238227011363:=0
def tw932706231573310614:=0
def tw3673819432520026323:=0
def tw7659234166576772566:=0
def tw9194736098366302624:=0
def tw15516562138706804114:=0
def tw664084857619790303:=0
def tw2565844295723621025:=0
def tw560954065714781519:=0
def tw11024898508100421484:=0
def tw16826433837864147386:=0
def tw4810752150645384016:=0
def tw3822078156860854083:=0
def tw3742571702105822828:=0
def tw3970003937766030100:=0
def tw2779926577839308704:=0
def tw9770414317260694518:=0
def tw2642481981687176857:=0
def tw2657851079564708558:=0
def tw7505119457693429329:=0
def tw14934059693802716664:=0
def tw4004820897263995548:=0
def tw10432235017513159452:=0
def tw12037822501318813019:=0
def tw15323294232814948496:=0
def tw6029824349352466988:=0
def tw1264297186139051437:=0
def tw13761278295349423901:=0
def tw18064806623224785263:=0
def tw10301411559860084624:=0
def tw17890591185455224526:=0
def tw698616638461292861:=0
def tw6090546676982941871:=0
def tw13320039591720998756:=0
def tw5831080763312655020:=0
def tw12525157423769711129:=0
def tw14553190371312381325:=0
def tw13921898266090913454:=0
def tw796680230894924423:=0
def tw6867938539618834324:=0
def tw2783264626209653581:=0
def tw10317596444865885251:=0
def tw10105296389239066824:=0
def tw9059028793117605444:=0
def tw3011983309334800018:=0
def tw13642347656964611644:=0
def tw3681249975974917703:=0
def tw3443303369799360581:=0
def tw13307367618439026214:=0
def tw6798183189005559668:=0
def tw5814592035698721273:=0
def tw1215563340738032634:=0
def tw1958889980078982354:=0
def tw10747787910979329839:=0
def tw10588169746020049382:=0
def tw10331932004322831582:=0
def tw13102656933618518459:=0
def tw7113803628295344906:=0
def tw14016937689640693660:=0
def tw995083494575483068:=0
def tw14374043069307879653:=0
def tw17396370482749775594:=0
def tw1361466349421339035:=0
def tw7545475653045522307:=0
def tw3390241189024187925:=0
def tw14544538547638155375:=0
def tw10869547560137766293:=0
def tw3299209314408936787:=0
def tw14055712067362189172:=0
def tw12138650277596367649:=0
def tw17248294480514480212:=0
def tw213513555624445449:=0
def tw5890345809515156453:=0
def tw3806731565860414017:=0
def tw10674392216293317391:=0
def tw17467072841370321478:=0
def tw7822700689435577275:=0
def tw17778712555109787353:=0
def tw14258213109901563027:=0
def tw6871185293956285169:=0
def tw15966562454467668593:=0
def tw16114605424289848325:=0
def tw13699019427169317635:=0
def tw18362080516378870645:=0
def tw9403399344012416910:=0
def tw4292510520674187186:=0
def tw4233402079782136012:=0
def tw2166163731098357445:=0
def tw14914810112729152979:=0
def tw18264213464110418563:=0
def tw4776633588398176951:=0
def tw12151684112711865023:=0
def tw11599111480386145280:=0
def tw17228371365256515377:=0
def tw15386620927781100005:=0
def tw6356408242416183878:=0
def tw10811043146953602172:=0
def tw13317787949283881248:=0
def tw13070350380912830509:=0
def tw8759810400934514800:=0
def tw1262250338930226389:=0
def tw4528961411068451664:=0
def tw6132410874081642107:=0
def tw4151568543747535393:=0
def tw1174862501380252728:=0
def tw5773469022855768217:=0
def tw13777246866818633962:=0
def tw15958096248586625223:=0
def tw9766814576953879505:=0
def tw5219832998092056064:=0
def tw17777694381108754001:=0
def tw5809863282721431533:=0
def tw18267308190727363824:=0
def tw13754109703586848194:=0
def tw8626889523087342755:=0
def tw12652889737884074412:=0
def tw8232266460133281243:=0
def tw7114433753994249767:=0
def tw5381034329105417204:=0
def tw8447558768029729886:=0
def tw7483162760671401719:=0
def tw16228398107004074922:=0
def tw9168101260779309057:=0
def tw7427769912644382213:=0
def tw9689578184228182422:=0
def tw10576280181577764892:=0
def tw17871374858720756812:=0
def tw16309727291045133643:=0
def tw15764419874835067076:=0
def tw5942935553797071028:=0
def tw3461505784957544803:=0
def tw13120768037767586529:=0
def tw12957724291934897639:=0
def tw5028511695591925197:=0
def tw17955680546377824474:=0
def tw15279112446874917773:=0
def tw4926780088707011797:=0
def tw3766163824681025696:=0
def tw2558469712178520521:=0
def tw10686466814912325359:=0
def tw3203333271715383602:=0
def tw2760759863021287385:=0
def tw4102760103266107069:=0
def tw17710725575699354197:=0
def tw2958028410784098742:=0
def tw359242425227331961:=0
def tw17027307983717056186:=0
def tw8835404414785230534:=0
def tw12132225616266683763:=0
def tw17057235539411908114:=0
def tw13146704285280353337:=0
def tw18295194600152490584:=0
def tw16984313491735688991:=0
def tw12722623008960732701:=0
def tw9097542967633397437:=0
def tw2753444625898560875:=0
def tw1543173255700303963:=0
def tw8849252003758487654:=0
def tw1306665934430794052:=0
def tw3108040549113987389:=0
def tw243329986815332534:=0
def tw13281856358458756776:=0
def tw8555223443688792289:=0
def tw11835287753625564214:=0
def tw682585525044786706:=0
def tw18243811978154318052:=0
def tw7235689446188377106:=0
def tw12986172799950418149:=0
def tw11908380483533656925:=0
def tw17347869095274692719:=0
def tw17271210294360793573:=0
def tw8290068691073191777:=0
def tw5795471390412846156:=0
def tw13116146807130942622:=0
def tw17397928628663235978:=0
def tw6861836241027794858:=0
def tw12386423160328490757:=0
def tw4323265993858629190:=0
def tw1661833612260918892:=0
def tw8412712997215285760:=0
def tw12180925296480872502:=0
def tw13324999225616600449:=0
def tw11816949400351794148:=0
def tw17210293843932454338:=0
def tw16379213696193705329:=0
def tw15574240307918595920:=0
def tw1432881710585802807:=0
def tw5300368936147557910:=0
def tw2619658002260656331:=0
def tw9812090378775987564:=0
def tw2863311007212725077:=0
def tw15910580206396717442:=0
def tw14220002692032617265:=0
def tw2633458174954447342:=0
def tw10150882617234478902:=0
def tw1041617581820761826:=0
def tw4056246897742420602:=0
def tw820635479462192536:=0
def tw8405966800046535340:=0
def tw13368986908139206432:=0
def tw8462859315451748435:=0
def tw6690508624394699716:=0
def tw16827580440896732505:=0
def tw13769599784575524482:=0
def tw5999453848993392240:=0
def tw10029537811513315544:=0
def tw1361963215257184321:=0
def tw9874537792988113404:=0
def tw13396285809933731269:=0
def tw5936434590625918439:=0
def tw17350056819689863789:=0
def tw14563731756269324483:=0
def tw16578523284795949633:=0
def tw4965906644346197401:=0
def tw1284431387417554822:=0
def tw6244686787932296704:=0
def tw2874560095259245129:=0
def tw5265463235599355816:=0
def tw10793907542477396588:=0
def tw2815584672549148483:=0
def tw9983171212794352571:=0
def tw8594568910983223069:=0
def tw16454404472476657282:=0
def tw10264522825141590375:=0
def tw2093043839316582349:=0
def tw15701336375799146580:=0
def tw9504321354283532602:=0
def tw4250339280082353752:=0
def tw6204527386550515111:=0
def tw16204680617010642759:=0
def tw6606381271859773365:=0
def tw3623203160449220887:=0
def tw9730964764806001138:=0
def tw5816936475989306114:=0
def tw15190591306364610412:=0
def tw10014238181902744321:=0
def tw115664879469783991:=0
def tw16993759976947581207:=0
def tw7462478671994901128:=0
def tw17010215990246089992:=0
def tw13890901411379218146:=0
def tw12081561853801894909:=0
def tw6035976798288464575:=0
def tw14875422434951924007:=0
def tw8841583704402130897:=0
def tw3809053220177161407:=0
def tw12976864396291940325:=0
def tw12665655171329469315:=0
def tw10404761841153548911:=0
def tw2033560392016588741:=0
def tw5099899773685621227:=0
def tw16149638643347204688:=0
def tw2110069708120152666:=0
def tw3012070955574052526:=0
def tw1340862438012604571:=0
def tw4864695230639274688:=0
def tw18319509749060102335:=0
def tw9567147175393175389:=0
def tw9671374364680736339:=0
def tw8541029712474669240:=0
def tw6070055001359254183:=0
def tw8274063467495114250:=0
def tw13101928086750810595:=0
def tw4562044860788809268:=0
def tw6382401444118227387:=0
def tw12886023781509031335:=0
def tw14467335798278752035:=0
def tw9685168119611217958:=0
def tw7505961200015209629:=0
def tw2689219479711487310:=0
def tw2286653153404227990:=0
def tw2291926032867207556:=0
def tw1919738483982634042:=0
def tw6108832109768381247:=0
def tw18181848848383947169:=0
def tw5868850399280897112:=0
def tw12174459752087172672:=0
def tw1918695656153613151:=0
def tw2398545090773690990:=0
def tw8858927710818043727:=0
def tw11002564542884580864:=0
def tw12444241633710349008:=0
def tw8367590668456115616:=0
def tw14158289421690690101:=0
def tw18736255165895721:=0
def tw16478927443423420359:=0
def tw5981220702952448787:=0
def tw17725363273541941330:=0
def tw13374933310522614035:=0
def tw2418737351249093782:=0
def tw18424247397693382268:=0
def tw13633941164226618940:=0
def tw13872299894372577288:=0
def tw14684392168110681819:=0
def tw11285332002816582603:=0
def tw17839120427319682568:=0
def tw461662663834371111:=0
def tw13538243979913003612:=0
def tw9551785140574341366:=0
def tw2279073031347352832:=0
def tw11219040741880524576:=0
def tw10244058214262932480:=0
def tw17125781153075924421:=0
def tw10192115124700471012:=0
def tw1314328881845981369:=0
def tw7831971071761266498:=0
def tw14242391334030592084:=0
def tw11397318211133581207:=0
def tw15178311896011645470:=0
def tw12522299524623341096:=0
def tw10275192807914070591:=0
def tw4736839136129620679:=0
def tw17244208703173695692:=0
def tw14355120576847620082:=0
def tw11771936614781018015:=0
def tw17274230759427659118:=0
def tw2413688891938600221:=0
def tw17881112116978166791:=0
def tw5759966713564140692:=0
def tw12700564067190450017:=0
def tw12124238086223205296:=0
def tw10785109385729496217:=0
def tw13075648040140190232:=0
def tw7837940659419327611:=0
def tw9469691493494097869:=0
def tw12710984307154044707:=0
def tw15505610276664230985:=0
def tw153018004675219020:=0
def tw17075485867523719386:=0
def tw2247830569670201321:=0
def tw8937900299627861073:=0
def tw16197692130207456320:=0
def tw2872841045056754030:=0
def tw13680314056965016236:=0
def tw17276464061106066680:=0
def tw6942778567885124840:=0
def tw2784250764227137723:=0
def tw16792794662186615593:=0
def tw11603193638756149547:=0
def tw1086920533173665859:=0
def tw6991625239780873280:=0
def tw3878535501086467726:=0
def tw7049833162614485002:=0
def tw10026157263121601815:=0
def tw15067714661092816638:=0
def tw1218160180233265556:=0
def tw12445255129743166009:=0
def tw7592275058260936871:=0
def tw9948935846912718451:=0
def tw485297964517807854:=0
def tw6196889370787641607:=0
def tw14849298205942712313:=0
def tw4015550001106881920:=0
def tw1639851301781793272:=0
def tw8382172212918837524:=0
def tw13280231077872941627:=0
def tw5041564761654772802:=0
def tw8666787833292431751:=0
def tw3827590183165441095:=0
def tw7478708404612779702:=0
def tw5263397765011433454:=0
def tw8733512912167165516:=0
def tw14230214581118362140:=0
def tw980898253698198026:=0
end PySem.W.Fast
open PySem PySem.W PyProof.Rows
set_option maxRecDepth 100000 in
set_option maxHeartbeats 0 in
theorem PySem.Challenge.cw_shellround_k29_texts_of_no_house_holds : PySem.Challenge.rw_shellround_k29_texts_of_no_house.Holds := by
 w_on; o_law; k_head; (case hw=>w_witness2)
 k_fill
 refine K29.walk (l:=PySem.Challenge.rw_shellround_k29_texts_of_no_house) rfl rfl (fun w h Y=>PySem.W.kIn_of Y) ?F
 case F =>
  intro w mg fa h KX G SK
  refine' K29.all_mk KX G SK ?bN ?bP ?lO ?jb ?iy ?jY ?jZ ?dE ?iz ?gK ?fZ ?jc ?jd ?cz ?df ?cc ?cA ?dg ?eE ?cC ?di ?fm ?dM ?fq ?bE ?cf ?cD ?pQ ?j0 ?iA ?cE ?iB ?uT ?iC ?gM ?je ?iD ?fu ?gr ?gN ?eG ?iE ?gO ?Ao ?ET ?iU ?iV ?mh ?hX ?h_ ?cU ?mi ?c0 ?mj ?iW ?ia ?iX ?ib ?iY ?j3 ?qB ?iZ ?f_ ?gu ?dm ?eW ?eX ?gP ?eI ?eJ ?cO ?gQ ?dn ?gS ?eY ?eZ ?e_ ?eK ?fe ?gb ?ic ?fh ?eL ?dZ ?TT ?uU ?uV ?cp ?eM ?fz ?eO ?TS ?uW ?uX ?cq ?gT ?TP ?nP ?nQ ?bT ?c5 ?eP ?bj ?cG ?bU ?cu ?b8 ?TH ?uY ?uZ ?cw ?eQ ?dw ?gU ?gV ?gX ?gY ?gZ ?iF ?eR ?fE ?ie ?jf ?qC ?qD ?jg ?jh ?kF ?iI ?jG ?nR ?qE ?qF ?nS ?nU ?JN ?JO ?JP ?kH ?CF ?JQ ?JR ?CG ?yg ?yh ?JS ?JT ?CH ?JU ?lP ?RB ?RC ?RD ?mn ?mq ?mr ?jz ?jA ?jB ?sN ?sO ?sP ?sQ ?sR ?sS ?sU ?sV ?sW ?sX ?sY ?sZ ?s_ ?tf ?tm ?yi ?yj ?yk ?mv ?mx ?my ?JV ?JW ?JX ?JY ?JZ
  (case bN=>exact K29.bp KX G (by k_is) (by k_is) (by k_is) (by k_is))
  (case bP=>exact K29.bp KX G (by k_is) (by k_is) (by k_is) (by k_is))
  (case lO=>exact K29.bp KX G (by k_is) (by k_is) (by k_is) (by k_is))
  (case jb=>exact K29.bp KX G (by k_is) (by k_is) (by k_is) (by k_is))
  (case iy=>exact K29.bp KX G (by k_is) (by k_is) (by k_is) (by k_is))
  (case jY=>exact K29.bp KX G (by k_is) (by k_is) (by k_is) (by k_is))
  (case jZ=>exact K29.bp KX G (by k_is) (by k_is) (by k_is) (by k_is))
  (case dE=>exact K29.bp KX G (by k_is) (by k_is) (by k_is) (by k_is))
  (case iz=>exact K29.bp KX G (by k_is) (by k_is) (by k_is) (by k_is))
  (case gK=>exact K29.bp KX G (by k_is) (by k_is) (by k_is) (by k_is))
  (case fZ=>exact K29.bp KX G (by k_is) (by k_is) (by k_is) (by k_is))
  (case jc=>exact K29.bp KX G (by k_is) (by k_is) (by k_is) (by k_is))
  (case jd=>exact K29.bp KX G (by k_is) (by k_is) (by k_is) (by k_is))
  (case cz=>exact K29.bp KX G (by k_is) (by k_is) (by k_is) (by k_is))
  (case df=>exact K29.bp KX G (by k_is) (by k_is) (by k_is) (by k_is))
  (case cc=>exact K29.bp KX G (by k_is) (by k_is) (by k_is) (by k_is))
  (case cA=>exact K29.bp KX G (by k_is) (by k_is) (by k_is) (by k_is))
  (case dg=>exact K29.bp KX G (by k_is) (by k_is) (by k_is) (by k_is))
  (case eE=>exact K29.bp KX G (by k_is) (by k_is) (by k_is) (by k_is))
  (case cC=>exact K29.bp KX G (by k_is) (by k_is) (by k_is) (by k_is))
  (case di=>exact K29.bp KX G (by k_is) (by k_is) (by k_is) (by k_is))
  (case fm=>exact K29.bp KX G (by k_is) (by k_is) (by k_is) (by k_is))
  (case dM=>exact K29.bp KX G (by k_is) (by k_is) (by k_is) (by k_is))
  (case fq=>exact K29.bp KX G (by k_is) (by k_is) (by k_is) (by k_is))
  (case bE=>exact K29.bp KX G (by k_is) (by k_is) (by k_is) (by k_is))
  (case cf=>exact K29.bp KX G (by k_is) (by k_is) (by k_is) (by k_is))
  (case cD=>exact K29.bp KX G (by k_is) (by k_is) (by k_is) (by k_is))
  (case pQ=>exact K29.bp KX G (by k_is) (by k_is) (by k_is) (by k_is))
  (case j0=>exact K29.bp KX G (by k_is) (by k_is) (by k_is) (by k_is))
  (case iA=>exact K29.bp KX G (by k_is) (by k_is) (by k_is) (by k_is))
  (case cE=>exact K29.bp KX G (by k_is) (by k_is) (by k_is) (by k_is))
  (case iB=>exact K29.bp KX G (by k_is) (by k_is) (by k_is) (by k_is))
  (case uT=>exact K29.bp KX G (by k_is) (by k_is) (by k_is) (by k_is))
  (case iC=>exact K29.bp KX G (by k_is) (by k_is) (by k_is) (by k_is))
  (case gM=>exact K29.bp KX G (by k_is) (by k_is) (by k_is) (by k_is))
  (case je=>exact K29.bp KX G (by k_is) (by k_is) (by k_is) (by k_is))
  (case iD=>exact K29.bp KX G (by k_is) (by k_is) (by k_is) (by k_is))
  (case fu=>exact K29.bp KX G (by k_is) (by k_is) (by k_is) (by k_is))
  (case gr=>exact K29.bp KX G (by k_is) (by k_is) (by k_is) (by k_is))
  (case gN=>exact K29.bp KX G (by k_is) (by k_is) (by k_is) (by k_is))
  (case eG=>exact K29.bp KX G (by k_is) (by k_is) (by k_is) (by k_is))
  (case iE=>exact K29.bp KX G (by k_is) (by k_is) (by k_is) (by k_is))
  (case gO=>exact K29.bp KX G (by k_is) (by k_is) (by k_is) (by k_is))
  (case Ao=>exact K29.bp KX G (by k_is) (by k_is) (by k_is) (by k_is))
  (case ET=>exact K29.Mn KX G (by k_is) (by k_is) (by k_is) (by k_is) (by k_is) (by k_is) (by k_is) (by k_is) (by k_is) (by k_is))
  (case iU=>exact K29.b7 KX G K29.E2 (by k_is) (by k_is) (by k_is) (by k_is) (by k_is) (by k_is) (by k_is) (by rfl) (by rfl) (by k_is) (by k_is) (by k_is) (by k_is) (by k_is) (by k_is) (by k_is) (by k_is) (by rfl) (by rfl) (by rfl) (by rfl) (by k_is) (by k_is) (by kts_exm))
  (case iV=>exact K29.b7 KX G K29.E4 (by k_is) (by k_is) (by k_is) (by k_is) (by k_is) (by k_is) (by k_is) (by rfl) (by rfl) (by k_is) (by k_is) (by k_is) (by k_is) (by k_is) (by k_is) (by k_is) (by k_is) (by rfl) (by rfl) (by rfl) (by rfl) (by k_is) (by k_is) (by kts_exm))
  (case mh=>exact K29.b7 KX G K29.LB (by k_is) (by k_is) (by k_is) (by k_is) (by k_is) (by k_is) (by k_is) (by rfl) (by rfl) (by k_is) (by k_is) (by k_is) (by k_is) (by k_is) (by k_is) (by k_is) (by k_is) (by rfl) (by rfl) (by rfl) (by rfl) (by k_is) (by k_is) (by kts_exm))
  (case hX=>exact K29.b7 KX G K29.Bz (by k_is) (by k_is) (by k_is) (by k_is) (by k_is) (by k_is) (by k_is) (by rfl) (by rfl) (by k_is) (by k_is) (by k_is) (by k_is) (by k_is) (by k_is) (by k_is) (by k_is) (by rfl) (by rfl) (by rfl) (by rfl) (by k_is) (by k_is) (by kts_exm))
  (case h_=>exact K29.b7 KX G K29.BB (by k_is) (by k_is) (by k_is) (by k_is) (by k_is) (by k_is) (by k_is) (by rfl) (by rfl) (by k_is) (by k_is) (by k_is) (by k_is) (by k_is) (by k_is) (by k_is) (by k_is) (by rfl) (by rfl) (by rfl) (by rfl) (by k_is) (by k_is) (by kts_exm))
  (case cU=>exact K29.b7 KX G K29.rH (by k_is) (by k_is) (by k_is) (by k_is) (by k_is) (by k_is) (by k_is) (by rfl) (by rfl) (by k_is) (by k_is) (by k_is) (by k_is) (by k_is) (by k_is) (by k_is) (by k_is) (by rfl) (by rfl) (by rfl) (by rfl) (by k_is) (by k_is) (by kts_exm))
  (case mi=>exact K29.b7 KX G K29.LD (by k_is) (by k_is) (by k_is) (by k_is) (by k_is) (by k_is) (by k_is) (by rfl) (by rfl) (by k_is) (by k_is) (by k_is) (by k_is) (by k_is) (by k_is) (by k_is) (by k_is) (by rfl) (by rfl) (by rfl) (by rfl) (by k_is) (by k_is) (by kts_exm))
  (case c0=>exact K29.b7 KX G K29.vy (by k_is) (by k_is) (by k_is) (by k_is) (by k_is) (by k_is) (by k_is) (by rfl) (by rfl) (by k_is) (by k_is) (by k_is) (by k_is) (by k_is) (by k_is) (by k_is) (by k_is) (by rfl) (by rfl) (by rfl) (by rfl) (by k_is) (by k_is) (by kts_exm))
  (case mj=>exact K29.b7 KX G K29.LG (by k_is) (by k_is) (by k_is) (by k_is) (by k_is) (by k_is) (by k_is) (by rfl) (by rfl) (by k_is) (by k_is) (by k_is) (by k_is) (by k_is) (by k_is) (by k_is) (by k_is) (by rfl) (by rfl) (by rfl) (by rfl) (by k_is) (by k_is) (by kts_exm))
  (case iW=>exact K29.b7 KX G K29.E6 (by k_is) (by k_is) (by k_is) (by k_is) (by k_is) (by k_is) (by k_is) (by rfl) (by rfl) (by k_is) (by k_is) (by k_is) (by k_is) (by k_is) (by k_is) (by k_is) (by k_is) (by rfl) (by rfl) (by rfl) (by rfl) (by k_is) (by k_is) (by kts_exm))
  (case ia=>exact K29.b7 KX G K29.E8 (by k_is) (by k_is) (by k_is) (by k_is) (by k_is) (by k_is) (by k_is) (by rfl) (by rfl) (by k_is) (by k_is) (by k_is) (by k_is) (by k_is) (by k_is) (by k_is) (by k_is) (by rfl) (by rfl) (by rfl) (by rfl) (by k_is) (by k_is) (by kts_exm))
  (case iX=>exact K29.b7 KX G K29.E_ (by k_is) (by k_is) (by k_is) (by k_is) (by k_is) (by k_is) (by k_is) (by rfl) (by rfl) (by k_is) (by k_is) (by k_is) (by k_is) (by k_is) (by k_is) (by k_is) (by k_is) (by rfl) (by rfl) (by rfl) (by rfl) (by k_is) (by k_is) (by kts_exm))
  (case ib=>exact K29.b7 KX G K29.BD (by k_is) (by k_is) (by k_is) (by k_is) (by k_is) (by k_is) (by k_is) (by rfl) (by rfl) (by k_is) (by k_is) (by k_is) (by k_is) (by k_is) (by k_is) (by k_is) (by k_is) (by rfl) (by rfl) (by rfl) (by rfl) (by k_is) (by k_is) (by kts_exm))
  (case iY=>exact K29.b7 KX G K29.Fd (by k_is) (by k_is) (by k_is) (by k_is) (by k_is) (by k_is) (by k_is) (by rfl) (by rfl) (by k_is) (by k_is) (by k_is) (by k_is) (by k_is) (by k_is) (by k_is) (by k_is) (by rfl) (by rfl) (by rfl) (by rfl) (by k_is) (by k_is) (by kts_exm))
  (case j3=>exact K29.b7 KX G K29.HN (by k_is) (by k_is) (by k_is) (by k_is) (by k_is) (by k_is) (by k_is) (by rfl) (by rfl) (by k_is) (by k_is) (by k_is) (by k_is) (by k_is) (by k_is) (by k_is) (by k_is) (by rfl) (by rfl) (by rfl) (by rfl) (by k_is) (by k_is) (by kts_exm))
  (case qB=>exact K29.b7 KX G K29.O8 (by k_is) (by k_is) (by k_is) (by k_is) (by k_is) (by k_is) (by k_is) (by rfl) (by rfl) (by k_is) (by k_is) (by k_is) (by k_is) (by k_is) (by k_is) (by k_is) (by k_is) (by rfl) (by rfl) (by rfl) (by rfl) (by k_is) (by k_is) (by kts_exm))
  (case iZ=>exact K29.b7 KX G K29.Ff (by k_is) (by k_is) (by k_is) (by k_is) (by k_is) (by k_is) (by k_is) (by rfl) (by rfl) (by k_is) (by k_is) (by k_is) (by k_is) (by k_is) (by k_is) (by k_is) (by k_is) (by rfl) (by rfl) (by rfl) (by rfl) (by k_is) (by k_is) (by kts_exm))
  (case f_=>exact K29.b7 KX G K29.BF (by k_is) (by k_is) (by k_is) (by k_is) (by k_is) (by k_is) (by k_is) (by rfl) (by rfl) (by k_is) (by k_is) (by k_is) (by k_is) (by k_is) (by k_is) (by k_is) (by k_is) (by rfl) (by rfl) (by rfl) (by rfl) (by k_is) (by k_is) (by kts_exm))
  (case gu=>exact K29.b7 KX G K29.zL (by k_is) (by k_is) (by k_is) (by k_is) (by k_is) (by k_is) (by k_is) (by rfl) (by rfl) (by k_is) (by k_is) (by k_is) (by k_is) (by k_is) (by k_is) (by k_is) (by k_is) (by rfl) (by rfl) (by rfl) (by rfl) (by k_is) (by k_is) (by kts_exm))
  (case dm=>exact K29.b7 KX G K29.Fh (by k_is) (by k_is) (by k_is) (by k_is) (by k_is) (by k_is) (by k_is) (by rfl) (by rfl) (by k_is) (by k_is) (by k_is) (by k_is) (by k_is) (by k_is) (by k_is) (by k_is) (by rfl) (by rfl) (by rfl) (by rfl) (by k_is) (by k_is) (by kts_exm))
  (case eW=>kit_is)
  (case eX=>kit_is)
  (case gP=>kit_is)
  (case eI=>kit_is)
  (case eJ=>kit_is)
  (case cO=>kit_is)
  (case gQ=>kit_is)
  (case dn=>kit_is)
  (case gS=>kit_is)
  (case eY=>kit_is)
  (case eZ=>kit_is)
  (case e_=>kit_is)
  (case eK=>kit_is)
  (case fe=>kit_is)
  (case gb=>kit_is)
  (case ic=>kit_is)
  (case fh=>kit_is)
  (case eL=>kit_is)
  (case dZ=>kit_is)
  (case TT=>exact ⟨PySem.W.mg_of KX G (by k_is),⟨by k_is,by k_is,by k_is,by k_is⟩,K29.ix (by k_is),K29.ix (by k_is),K29.ix (by k_is)⟩)
  (case uU=>k_is)
  (case uV=>k_is)
  (case cp=>exact K29.dJ (by k_is) (by k_is) (by k_is) (by k_is) (by k_is))
  (case eM=>exact K29.dJ (by k_is) (by k_is) (by k_is) (by k_is) (by k_is))
  (case fz=>exact K29.dJ (by k_is) (by k_is) (by k_is) (by k_is) (by k_is))
  (case eO=>exact K29.dJ (by k_is) (by k_is) (by k_is) (by k_is) (by k_is))
  (case TS=>exact ⟨PySem.W.mg_of KX G (by k_is),⟨by k_is,by k_is,by k_is,by k_is⟩,K29.ix (by k_is),K29.ix (by k_is),K29.ix (by k_is),K29.ix (by k_is),K29.ix (by k_is),K29.ix (by k_is),K29.ix (by k_is)⟩)
  (case uW=>k_is)
  (case uX=>k_is)
  (case cq=>exact K29.dJ (by k_is) (by k_is) (by k_is) (by k_is) (by k_is))
  (case gT=>exact K29.dJ (by k_is) (by k_is) (by k_is) (by k_is) (by k_is))
  (case TP=>exact ⟨PySem.W.mg_of KX G (by k_is),⟨by k_is,by k_is,by k_is,by k_is⟩,K29.ix (by k_is),K29.ix (by k_is),K29.ix (by k_is)⟩)
  (case nP=>k_is)
  (case nQ=>k_is)
  (case bT=>exact K29.dJ (by k_is) (by k_is) (by k_is) (by k_is) (by k_is))
  (case c5=>exact K29.dJ (by k_is) (by k_is) (by k_is) (by k_is) (by k_is))
  (case eP=>exact K29.dJ (by k_is) (by k_is) (by k_is) (by k_is) (by k_is))
  (case bj=>exact K29.dJ (by k_is) (by k_is) (by k_is) (by k_is) (by k_is))
  (case cG=>exact K29.dJ (by k_is) (by k_is) (by k_is) (by k_is) (by k_is))
  (case bU=>exact K29.dJ (by k_is) (by k_is) (by k_is) (by k_is) (by k_is))
  (case cu=>exact K29.dJ (by k_is) (by k_is) (by k_is) (by k_is) (by k_is))
  (case b8=>exact K29.dJ (by k_is) (by k_is) (by k_is) (by k_is) (by k_is))
  (case TH=>exact ⟨PySem.W.mg_of KX G (by k_is),⟨by k_is,by k_is,by k_is,by k_is⟩,K29.ix (by k_is),K29.ix (by k_is),K29.ix (by k_is),K29.ix (by k_is)⟩)
  (case uY=>k_is)
  (case uZ=>k_is)
  (case cw=>exact K29.dJ (by k_is) (by k_is) (by k_is) (by k_is) (by k_is))
  (case eQ=>exact K29.dJ (by k_is) (by k_is) (by k_is) (by k_is) (by k_is))
  (case dw=>exact K29.dJ (by k_is) (by k_is) (by k_is) (by k_is) (by k_is))
  (case gU=>exact K29.dJ (by k_is) (by k_is) (by k_is) (by k_is) (by k_is))
  (case gV=>exact K29.dJ (by k_is) (by k_is) (by k_is) (by k_is) (by k_is))
  (case gX=>exact K29.dJ (by k_is) (by k_is) (by k_is) (by k_is) (by k_is))
  (case gY=>exact K29.dJ (by k_is) (by k_is) (by k_is) (by k_is) (by k_is))
  (case gZ=>exact K29.dJ (by k_is) (by k_is) (by k_is) (by k_is) (by k_is))
  (case iF=>exact K29.dJ (by k_is) (by k_is) (by k_is) (by k_is) (by k_is))
  (case eR=>exact K29.dJ (by k_is) (by k_is) (by k_is) (by k_is) (by k_is))
  (case fE=>exact K29.dJ (by k_is) (by k_is) (by k_is) (by k_is) (by k_is))
  (case ie=>k_is)
  (case jf=>k_is)
  (case qC=>k_is)
  (case qD=>k_is)
  (case jg=>k_is)
  (case jh=>k_is)
  (case kF=>k_is)
  (case iI=>k_is)
  (case jG=>k_is)
  (case nR=>k_is)
  (case qE=>k_is)
  (case qF=>k_is)
  (case nS=>k_is)
  (case nU=>k_is)
  (case JN=>k_is)
  (case JO=>k_is)
  (case JP=>k_is)
  (case kH=>k_is)
  (case CF=>k_is)
  (case JQ=>k_is)
  (case JR=>k_is)
  (case CG=>k_is)
  (case yg=>k_is)
  (case yh=>k_is)
  (case JS=>k_is)
  (case JT=>k_is)
  (case CH=>k_is)
  (case JU=>k_is)
  (case lP=>k_is)
  (case RB=>k_is)
  (case RC=>k_is)
  (case RD=>rfl)
  (case mn=>k_is)
  (case mq=>rfl)
  (case mr=>rfl)
  (case jz=>k_is)
  (case jA=>rfl)
  (case jB=>rfl)
  (case sN=>k_is)
  (case sO=>rfl)
  (case sP=>rfl)
  (case sQ=>k_is)
  (case sR=>rfl)
  (case sS=>rfl)
  (case sU=>k_is)
  (case sV=>rfl)
  (case sW=>rfl)
  (case sX=>k_is)
  (case sY=>rfl)
  (case sZ=>rfl)
  (case s_=>k_is)
  (case tf=>rfl)
  (case tm=>rfl)
  (case yi=>k_is)
  (case yj=>rfl)
  (case yk=>rfl)
  (case mv=>k_is)
  (case mx=>rfl)
  (case my=>rfl)
  (case JV=>decide)
  (case JW=>decide)
  (case JX=>decide)
  (case JY=>decide)
  (case JZ=>decide)
