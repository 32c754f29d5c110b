import PyProof.Rows.All
import Wide.All
import OpenK.AllK
import Wide.FinOn
import Lean
import PyProof.EqAt
import PyProof.EqKinds
import PyProof.TupleCall
import PySem.Challenge.RW_allelse_k46_grounds_told
set_option Elab.async false
set_option linter.all false
set_option maxRecDepth 100000
set_option maxHeartbeats 4000000
namespace L2
open PySem PySem.Spec PyProof.Rows
abbrev Key:=Sum Int Str
def zdO:Key->Value->Bool
 | .inl k,v=>Value.isInt k v
 | .inr x,v=>Value.isStrOf x v
def keyH (w:World):Key->Int
 | .inl k=>hashInt k
 | .inr x=>hashStr w x
theorem zI:∀ {k:Key} {v:Value},zdO k v=true->(∃ i t,k=Sum.inl i/\v=Value.int i t)\/(∃ x t,k=Sum.inr x/\v=Value.str x t)
 | .inl i,v,h=>by
  obtain ⟨t,e⟩:=Value.isInt_shape (k:=i) (v:=v) h
  exact .inl ⟨i,t,rfl,e⟩
 | .inr x,v,h=>by
  obtain ⟨t,e⟩:=Value.isStrOf_shape (x:=x) (v:=v) h
  exact .inr ⟨x,t,rfl,e⟩
theorem zeP (i:Int)(t:Tok):zdO (.inl i) (.int i t)=true:=by simp [zdO,Value.isInt]
theorem zeQ (x:Str)(t:Tok):zdO (.inr x) (.str x t)=true:=by simp [zdO,Value.isStrOf]
theorem zkL (a b:Int):decide ((Sum.inl a:Key)=Sum.inl b)=(a==b):=by grind
theorem zkO (a b:Str):decide ((Sum.inr a:Key)=Sum.inr b)=decide (a=b):=by grind
theorem zkM (a:Int)(b:Str):decide ((Sum.inl a:Key)=Sum.inr b)=false:=rfl
theorem zkN (a:Str)(b:Int):decide ((Sum.inr a:Key)=Sum.inl b)=false:=rfl
def zT (prog:Program)(w:World):PySem.KeyKind prog w Key where
 is:=zdO
 hash:=keyH w
 inj:=fun v a b ha hb=>by
  rcases zI ha with ⟨i,t,rfl,rfl⟩ | ⟨x,t,rfl,rfl⟩
  ·rcases zI hb with ⟨j,u,rfl,e⟩ | ⟨y,u,rfl,e⟩
   ·injection e with e1 _;rw [e1]
   ·exact nomatch e
  ·rcases zI hb with ⟨j,u,rfl,e⟩ | ⟨y,u,rfl,e⟩
   ·exact nomatch e
   ·injection e with e1 _;rw [e1]
 byValue:=fun k v h=>by
  rcases zI h with ⟨i,t,rfl,rfl⟩ | ⟨x,t,rfl,rfl⟩ <;> rfl
 pyHash:=fun hv h=>by
  rcases zI hv with ⟨i,t,rfl,rfl⟩ | ⟨x,t,rfl,rfl⟩
  ·exact wpAny_pyHash_int h
  ·exact wpAny_pyHash_str h
 eqBool:=fun hu hv h=>by
  rcases zI hu with ⟨i,t,rfl,rfl⟩ | ⟨x,t,rfl,rfl⟩
  ·rcases zI hv with ⟨j,u,rfl,rfl⟩ | ⟨y,u,rfl,rfl⟩
   ·rw [zkL] at h;exact wpAny_eqBool_int h
   ·rw [zkM] at h;exact SeqAt.EqAt.int_str i t y u _ _ _ _ h
  ·rcases zI hv with ⟨j,u,rfl,rfl⟩ | ⟨y,u,rfl,rfl⟩
   ·rw [zkN] at h;exact SeqAt.EqAt.str_int x t j u _ _ _ _ h
   ·rw [zkO] at h;exact wpAny_eqBool_str h
 «strs»:=fun k x t v h=>by
  rcases zI h with ⟨i,u,rfl,e⟩ | ⟨y,u,rfl,e⟩
  ·exact nomatch e
  ·injection e with e1 _
   subst e1
   cases v <;> rfl
theorem u5 (prog:Program)(w:World)(i:Int)(t:Tok):(zT prog w).is (.inl i) (.int i t)=true:=zeP i t
theorem zcD (prog:Program)(w:World)(x:Str)(t:Tok):(zT prog w).is (.inr x) (.str x t)=true:=zeQ x t
inductive V where
 | non | bl (b:Bool) | int (i:Int) | str (x:Str) | byt (b:Array UInt8) | flt (b:UInt64) | ref (a:Addr) | ty (n:String)
 deriving DecidableEq
def zX:V->Value->Prop
 | .non,u=>u=Value.none
 | .bl b,u=>u=Value.bool b
 | .int i,u=>∃ t,u=Value.int i t
 | .str x,u=>∃ t,u=Value.str x t
 | .byt b,u=>∃ t,u=Value.bytes b t
 | .flt b,u=>∃ t,u=Value.float b t
 | .ref a,u=>u=Value.ref a
 | .ty n,u=>u=Value.type n
abbrev zY:List V->List Value->Prop:=Paired zX
theorem zY.length {xs:List V}{us:List Value}(r:zY xs us):xs.length=us.length:=Paired.length r
theorem zY.get:∀ {xs:List V} {us:List Value} {i:Nat} {x:V},zY xs us->xs[i]?=some x->∃ u,us[i]?=some u/\zX x u
 | _,_,_,_,.nil,e=>by simp at e
 | _,_,0,_,.cons r _,e=>by simp_all
 | _,_,i+1,x,.cons _ t,e=>by
  obtain ⟨u,h1,h2⟩:=zY.get (i:=i) (x:=x) t (by simpa using e)
  simp_all
theorem zY.append:∀ {xs ys:List V} {us ws:List Value},zY xs us->zY ys ws->zY (xs++ys) (us++ws)
 | _,_,_,_,.nil,s=>s
 | _,_,_,_,.cons r t,s=>.cons r (zY.append t s)
theorem zY.take:∀ {xs:List V} {us:List Value} (n:Nat),zY xs us->zY (xs.take n) (us.take n)
 | _,_,0,_=>.nil
 | _,_,_+1,.nil=>.nil
 | _,_,n+1,.cons r t=>.cons r (zY.take n t)
theorem zY.drop:∀ {xs:List V} {us:List Value} (n:Nat),zY xs us->zY (xs.drop n) (us.drop n)
 | _,_,0,r=>r
 | _,_,_+1,.nil=>.nil
 | _,_,n+1,.cons _ t=>zY.drop n t
def zd5:Option V->Option Value->Prop
 | some v,some u=>zX v u
 | none,none=>True
 | _,_=>False
def KV {κ:Type}:List (κ×V)->List (κ×Value)->Prop:=Paired fun (p:κ×V) (q:κ×Value)=>p.1=q.1/\zX p.2 q.2
def kV:Key->V
 | .inl i=>.int i
 | .inr x=>.str x
inductive HO where
  | lst (xs:List V)
  | tup (xs:List V)
  | dK (kvs:List (Key×V)) | dT (kvs:List (List Key×V))
  | set (S:Int->Bool) (n:Nat)
  | ins (C dx:Addr) (fs:List (Str×V))
  | own (x:Addr)
  | xd (fs:List (Str×V))
  | met (f x:Addr)
  | rng (lo hi:Int)
  | frz (o:Obj) (u:HO)
  | tbl (ps:Array Value)
  | ext (φ:Heap->Prop)
abbrev Hp:=Addr->Option HO
def upd (H:Hp)(a:Addr)(o:HO):Hp:=fun b=>if b=a then some o else H b
theorem zh {H:Hp}{a:Addr}{o:HO}:upd H a o a=some o:=by unfold upd;rw [if_pos rfl]
theorem zd {H:Hp}{a b:Addr}{o:HO}(h:b≠a):upd H a o b=H b:=by unfold upd;rw [if_neg h]
theorem zkW {H:Hp}{a b:Addr}{o u:HO}(h:H a=some o)(h':H b=some u)(d:o≠u):a≠b:=by grind
theorem zb {H:Hp}{a b:Addr}{o:HO}(h:H a=some o)(h':H b=none):a≠b:=by grind
def y8 (h:Heap)(a:Addr)(items:Array Value):Prop:=∃ o,h.get? a=some o/\o.cls = .type "tuple" /\ (∃ n,o.data = .seq items n)/\o.dict=none
theorem y8.tup {h:Heap}{a:Addr}{items:Array Value}(x:y8 h a items):IsTup h a items:=let ⟨o,h1,h2,h3,_⟩:=x;⟨o,h1,h2,h3⟩
theorem y8.lt {h:Heap}{a:Addr}{items:Array Value}(x:y8 h a items):a<h.objs.size:=x.tup.lt
theorem y8.new (h:Heap)(items:Array Value):y8 (h.push { cls:=.type "tuple",data:=.seq items }) h.objs.size items:=⟨_,Heap.get?_push_size _ rfl,rfl,⟨_,rfl⟩,rfl⟩
section
variable (P:Program)(w:World)
def zG (H:Hp)(h:Heap)(a:Addr):HO->Prop
 | .lst xs=>xs.length<=sizeLine/\∃ (its:List Value) (n:Nat),zY xs its/\h.get? a=some { cls:=.type "list",data:=.seq its.toArray n }
 | .tup xs=>xs.length<=sizeLine/\∃ its:List Value,zY xs its/\y8 h a its.toArray
 | .dK kvs=>kvs.length<=sizeLine/\(a==sysModules)=false/\∃ vs,KV kvs vs/\h.DictOf (zT P w) a vs
 | .dT kvs=>kvs.length<=sizeLine/\(a==sysModules)=false/\∃ xs:List (List Key×Addr×Value),
   Paired (fun (p:List Key×V) (q:List Key×Addr×Value)=>p.1=q.1/\H q.2.1=some (.tup (p.1.map kV))/\zX p.2 q.2.2) kvs xs/\
   ∃ o es ep,h.get? a=some o/\o.ExactDict/\o.data = .dict es ep/\es.toList=xs.map (entryOfKey (tupleKind (zT P w)))/\(xs.map (·.1)).Nodup
 | .set S n=>h.SetOf (intKind P w) a S n
 | .ins C dx fs=>H dx=some (.own a)/\fs.length<=1000/\dx≠a/\h.get? a=some (PySem.W.instObj C dx)/\
   ∃ mA,h.Ns1 dx mA/\(∀ f,zd5 (fs.lookup f) (mA f))/\PySem.Within mA (fs.map (·.1))
 | .own _=>∃ o,h.get? a=some o
 | .xd fs=>∃ mA,h.Ns1 a mA/\∀ f,zd5 (fs.lookup f) (mA f)
 | .rng lo hi=>∃ t u v,h.get? a=some { cls:=.type "range",data:=.fields #[.int lo t,.int hi u,.int 1 v] }
 | .frz o u=>h.get? a=some o/\zG H h a u
 | .tbl ps=>h.get? a=some { cls:=.none,data:=.fields ps }
 | .met f x=>h.get? a=some (PySem.W.methodObj (.ref f) (.ref x))
 | .ext φ=>φ h/\(∃ o,h.get? a=some o)/\∀ h1 h2:Heap,φ h1->(∀ o,h1.get? a=some o->h2.get? a=some o)->φ h2
def HOk (H:Hp)(h:Heap):Prop:=∀ a o,H a=some o->zG P w H h a o
end
section
variable {P:Program}{w:World}{H H':Hp}{h h':Heap}{a:Addr}{o:HO}
theorem zG.lt (x:zG P w H h a o):a<h.objs.size:=by
 cases o with
 | lst xs=>obtain ⟨_,_,_,_,e⟩:=x;exact Heap.lt_size e
 | tup xs=>obtain ⟨_,_,_,p⟩:=x;exact p.lt
 | dK kvs=>obtain ⟨_,_,_,_,o,_,_,e,_⟩:=x;exact Heap.lt_size e
 | dT kvs=>obtain ⟨_,_,_,_,o,_,_,e,_⟩:=x;exact Heap.lt_size e
 | set S n=>obtain ⟨o,_,_,_,e,_⟩:=x;exact Heap.lt_size e
 | ins C dx fs=>obtain ⟨_,_,_,e,_⟩:=x;exact Heap.lt_size e
 | own y=>obtain ⟨_,e⟩:=x;exact Heap.lt_size e
 | xd fs=>obtain ⟨_,⟨_,_,_,e,_⟩,_⟩:=x;exact Heap.lt_size e
 | rng lo hi=>obtain ⟨_,_,_,e⟩:=x;exact Heap.lt_size e
 | frz ob u=>obtain ⟨e,_⟩:=x;exact Heap.lt_size e
 | tbl ps=>exact Heap.lt_size (show h.get? a=some _ from x)
 | met f y=>exact Heap.lt_size (show h.get? a=some _ from x)
 | ext φ=>obtain ⟨_,⟨_,e⟩,_⟩:=x;exact Heap.lt_size e
theorem Paired.mapP {α β:Type}{F G:α->β->Prop}:∀ {l₁:List α} {l₂:List β},Paired F l₁ l₂->(∀ a b,F a b->G a b)->Paired G l₁ l₂
 | _,_,.nil,_=>.nil
 | _,_,.cons r t,f=>.cons (f _ _ r) (Paired.mapP t f)
theorem zG.stay (x:zG P w H h a o)(k:∀ b u,(b=a\/H b=some (.own a))->h.get? b=some u->h'.get? b=some u)
  (ho:∀ b,H b=some (.own a)->H' b=some (.own a)) (ht:∀ b xs,H b=some (.tup xs)->H' b=some (.tup xs)):zG P w H' h' a o:=by
 induction o with
 | lst xs=>obtain ⟨z,its,n,r,e⟩:=x;exact ⟨z,its,n,r,k _ _ (.inl rfl) e⟩
 | tup xs=>obtain ⟨z,its,r,ob,e,c⟩:=x;exact ⟨z,its,r,ob,k _ _ (.inl rfl) e,c⟩
 | dK kvs=>obtain ⟨z,y,vs,r,ob,es,ep,e,c⟩:=x;exact ⟨z,y,vs,r,ob,es,ep,k _ _ (.inl rfl) e,c⟩
 | dT kvs=>
  obtain ⟨z,y,xs,r,ob,es,ep,e,c⟩:=x
  exact ⟨z,y,xs,Paired.mapP r fun p q z=>⟨z.1,ht _ _ z.2.1,z.2.2⟩,ob,es,ep,k _ _ (.inl rfl) e,c⟩
 | set S n=>obtain ⟨ob,es,ep,t,e,c⟩:=x;exact ⟨ob,es,ep,t,k _ _ (.inl rfl) e,c⟩
 | ins C dx fs=>
  obtain ⟨d,z,ne,e,mA,⟨od,es,ep,e2,c⟩,r⟩:=x
  exact ⟨ho _ d,z,ne,k _ _ (.inl rfl) e,mA,⟨od,es,ep,k _ _ (.inr d) e2,c⟩,r⟩
 | own y=>obtain ⟨ob,e⟩:=x;exact ⟨ob,k _ _ (.inl rfl) e⟩
 | xd fs=>obtain ⟨mA,⟨od,es,ep,e,c⟩,r⟩:=x;exact ⟨mA,⟨od,es,ep,k _ _ (.inl rfl) e,c⟩,r⟩
 | rng lo hi=>obtain ⟨t,u,v,e⟩:=x;exact ⟨t,u,v,k _ _ (.inl rfl) e⟩
 | frz ob u ih=>obtain ⟨e,q⟩:=x;exact ⟨k _ _ (.inl rfl) e,ih q⟩
 | tbl ps=>
  have e:h.get? a=some { cls:=.none,data:=.fields ps }:=x
  show h'.get? a=some { cls:=.none,data:=.fields ps }
  exact k a _ (.inl rfl) e
 | met f y=>
  have e:h.get? a=some (PySem.W.methodObj (.ref f) (.ref y)):=x
  show h'.get? a=some (PySem.W.methodObj (.ref f) (.ref y))
  exact k a _ (.inl rfl) e
 | ext φ=>obtain ⟨p,⟨o,e⟩,st⟩:=x;exact ⟨st _ _ p fun o q=>k _ _ (.inl rfl) q,⟨o,k _ _ (.inl rfl) e⟩,st⟩
theorem HOk.lt (x:HOk P w H h)(e:H a=some o):a<h.objs.size:=(x a o e).lt
theorem HOk.fresh (x:HOk P w H h)(e:h.objs.size<=a):H a=none:=by
 cases q:H a with
 | none=>rfl
 | some u=>exact absurd (Nat.lt_of_lt_of_le (x.lt q) e) (Nat.lt_irrefl _)
theorem HOk.kept (x:HOk P w H h)(k:∀ b u,h.get? b=some u->h'.get? b=some u):HOk P w H h':=fun a o e=>
 (x a o e).stay (fun b u _ q=>k b u q) (fun _ q=>q) fun _ _ q=>q
theorem HOk.laid (x:HOk P w H h)(k:∀ b u,h.get? b=some u->h'.get? b=some u)(hp:h.objs.size<=a)(new:zG P w (upd H a o) h' a o):HOk P w (upd H a o) h':=fun b u e=>by
 have hn:=x.fresh hp
 by_cases hb:b=a
 ·subst hb;rw [zh] at e;cases e;exact new
 ·rw [zd hb] at e
  exact (x b u e).stay (fun c v _ q=>k c v q) (fun c q=>by rw [zd (zb q hn)];exact q) fun c xs q=>by rw [zd (zb q hn)];exact q
end
def Rd (H:Hp)(a:Addr)(u:HO):Prop:=H a=some u\/∃ o,H a=some (.frz o u)
theorem Rd.ok {P:Program}{w:World}{H:Hp}{h:Heap}{a:Addr}{u:HO}(r:Rd H a u)(x:HOk P w H h):zG P w H h a u:=by
 rcases r with r | ⟨o,r⟩
 ·exact x a u r
 ·obtain ⟨_,q⟩:=x a _ r
  exact q
def Mut:Option HO->Prop
 | some (.lst _)=>True
 | some (.dK _)=>True
 | some (.dT _)=>True
 | some (.set _ _)=>True
 | some (.ins _ _ _)=>True
 | some (.ext _)=>True
 | _=>False
section
variable {P:Program}{w:World}{H:Hp}{h h':Heap}{x e:Addr}{o':HO}
theorem HOk.write (ok:HOk P w H h)(mu:Mut (H x))(he:e=x\/H e=some (.own x))(k:∀ b u,b≠e->h.get? b=some u->h'.get? b=some u)(heo:∃ u,h'.get? e=some u)
  (new:zG P w (upd H x o') h' x o'):HOk P w (upd H x o') h':=fun b u q=>by
 have nown:∀ c y,H c=some (.own y)->c≠x:=fun c y r z=>by subst z;rw [r] at mu;exact mu
 have ntup:∀ c xs,H c=some (.tup xs)->c≠x:=fun c xs r z=>by subst z;rw [r] at mu;exact mu
 by_cases hb:b=x
 ·subst hb;rw [zh] at q;cases q;exact new
 ·rw [zd hb] at q
  by_cases hbe:b=e
  ·have q':H b=some (.own x):=by
    grind
   rw [q] at q';cases q'
   obtain ⟨v,hv⟩:=heo
   exact ⟨v,by rw [hbe];exact hv⟩
  ·refine (ok b u q).stay (fun c v hc r=>k c v ?_ r) (fun c r=>by rw [zd (nown c b r)];exact r) fun c xs r=>by rw [zd (ntup c xs r)];exact r
   grind
end
structure Un (fs ex:List Addr)(H H':Hp)(h h':Heap):Prop where
 keep:∀ b o,h.get? b=some o->H b=none->b∉fs->b∉ex->h'.get? b=some o
 slot:∀ b o,h.get? b=some o->H b=none->b∈fs->b∉ex->∃ sl,h'.get? b=some { o with slots:=sl }
 free:∀ b o,h.get? b=some o->H b=none->b∉ex->H' b=none
 there:∀ b o,h.get? b=some o->b∉ex->∃ o',h'.get? b=some o'
 tups:∀ b xs,H b=some (.tup xs)->H' b=some (.tup xs)
 frzs:∀ b o u,H b=some (.frz o u)->H' b=some (.frz o u)
 tbls:∀ b ps,H b=some (.tbl ps)->∃ more,H' b=some (.tbl (ps++more))
section
variable {fs fs' ex ex':List Addr}{H H1 H2:Hp}{h h1 h2 h':Heap}{a x e:Addr}{o:HO}
theorem Un.any (u:Un fs ex H H1 h h1){b:Addr}{ob:Obj}(q:h.get? b=some ob)(n:H b=none)(hx:b∉ex):∃ sl,h1.get? b=some { ob with slots:=sl }:=by
 by_cases hb:b∈fs
 ·exact u.slot b ob q n hb hx
 ·exact ⟨ob.slots,u.keep b ob q n hb hx⟩
theorem Un.kept (k:∀ b u,h.get? b=some u->h'.get? b=some u):Un fs ex H H h h':=
 ⟨fun b ob q _ _ _=>k b ob q,fun b ob q _ _ _=>⟨ob.slots,k b ob q⟩,fun _ _ _ n _=>n,fun b ob q _=>⟨ob,k b ob q⟩,fun _ _ q=>q,fun _ _ _ q=>q,fun _ ps q=>⟨#[],by rw [q];simp⟩⟩
theorem Un.refl:Un fs ex H H h h:=Un.kept fun _ _ q=>q
theorem Un.laid (k:∀ b u,h.get? b=some u->h'.get? b=some u)(hp:h.objs.size<=a)(hn:H a=none):Un fs ex H (upd H a o) h h' where
 keep:=fun b u q _ _ _=>k b u q
 slot:=fun b u q _ _ _=>⟨u.slots,k b u q⟩
 free:=fun b u q n _=>by rw [zd (Nat.ne_of_lt (Nat.lt_of_lt_of_le (Heap.lt_size q) hp))];exact n
 there:=fun b u q _=>⟨u,k b u q⟩
 tups:=fun b xs q=>by rw [zd (zb q hn)];exact q
 frzs:=fun b u xs q=>by rw [zd (zb q hn)];exact q
 tbls:=fun b ps q=>⟨#[],by rw [zd (zb q hn),q];simp⟩
theorem Un.write (mu:Mut (H x))(he:e=x\/H e=some (.own x))(k:∀ b u,b≠e->h.get? b=some u->h'.get? b=some u)(heo:∃ u,h'.get? e=some u):Un fs ex H (upd H x o) h h':=by
 have hx:∀ b,H b=none->b≠x:=fun b n z=>by subst z;rw [n] at mu;exact mu
 have hb:∀ b,H b=none->b≠e:=fun b n z=>by
  grind
 have hm:∀ b u,H b=some u->¬ Mut (some u)->b≠x:=fun b u q nm z=>by subst z;rw [q] at mu;exact nm mu
 refine ⟨fun b u q n _ _=>k b u (hb b n) q,fun b u q n _ _=>⟨u.slots,k b u (hb b n) q⟩,fun b u q n _=>by rw [zd (hx b n)];exact n,fun b u q _=>?_,
  fun b xs q=>by rw [zd (hm b _ q fun z=>z)];exact q,fun b u xs q=>by rw [zd (hm b _ q fun z=>z)];exact q,fun b ps q=>⟨#[],by rw [zd (hm b _ q fun z=>z),q];simp⟩⟩
 grind
end
def trk (h:Heap)(H:Hp):List Addr:=(List.range h.objs.size).filter fun a=>(H a).isSome
def zfN (h:Heap)(H:Hp):Heap:=PySem.W.hideAll h (trk h H)
theorem zeD (h:Heap)(H:Hp):(zfN h H).objs.size=h.objs.size:=PySem.W.hideAll_size _ _
theorem zgc {h:Heap}{H:Hp}{b:Addr}{o:Obj}(e:h.get? b=some o)(n:H b=none):(zfN h H).get? b=some o:=
 PySem.W.hideAll_get _ e fun hm=>by
  have q:(H b).isSome=true:=(List.mem_filter.mp hm).2
  simp_all
theorem ziQ {h:Heap}{H:Hp}{b:Addr}{o:Obj}(e:(zfN h H).get? b=some o):h.get? b=some o/\H b=none:=by
 have e':h.get? b=some o:=PySem.W.of_hideAll (trk h H) e
 refine ⟨e',?_⟩
 cases q:H b with
 | none=>rfl
 | some x=>
  have hm:b∈trk h H:=List.mem_filter.mpr ⟨List.mem_range.mpr (Heap.lt_size e'),by simp [q]⟩
  have z:(zfN h H).get? b=none:=PySem.W.hideAll_none (trk h H) hm
  grind
def zhI (g h:Heap)(L:Addr):List (Addr×Obj):=(List.range h.objs.size).filterMap fun a=>if a=L\/(g.get? a).isSome=true then none else (h.get? a).map fun o=>(a,o)
def yy (g h:Heap)(L d:Addr):List (Addr×Obj):=(zhI g h L).filter fun p=>decide (p.1≠d)
structure Mod (K:PySem.W.Frag)(mg:Str->Option Value)(base:Heap):Prop where
 kin:K.In base
 glob:base.Ns mainGlobals mg
 blt:∃ mb,base.Ns builtinsNs mb/\∀ x:Str,x ≠ "__name__" -> mb x=bootBuiltins x
 nolimit:base.NoLimit
structure Cx where
 prog:Program
 w:World
 K:PySem.W.Frag
 mg:Str->Option Value
 base:Heap
 A:Around
 N:List Str
 s₀:Shared
 H₀:Hp
 env:Env
 outer:List Env
 stack:List Env
 ex:List Addr
 fn:Str->Bool
 calm:Bool
 pn:List (Addr×Obj)
 xe:Value->Shared->Prop
def frs (l:List Env):List Addr:=l.filterMap (·.frame)
abbrev Cx.fs (X:Cx):List Addr:=frs X.outer
def Vis (sc:Scope)(x:Str):Prop:=sc.names.lookup x=some .local\/sc.names.lookup x=some .cell\/sc.names.lookup x=some .free
def Loc (sc:Scope)(x:Str):Prop:=sc.names.lookup x=some .local\/sc.names.lookup x=some .cell
def Look (env:Env)(h:Heap)(m:Str->Option Value)(x:Str)(u:Value):Prop:=
 (env.kindOf x=some .local/\m x=some u)\/((env.kindOf x=some .cell\/env.kindOf x=some .free)/\∃ c,env.cells.lookup x=some c/\h.IsCell c (some u))
structure Cx.Ok (X:Cx):Prop where
 mod:Mod X.K X.mg X.base
 kind:X.env.scope.kind = .function
 glob:X.env.globals=mainGlobals
 blt:X.env.builtins=builtinsNs
 above:X.s₀.heap.objs.size<=X.env.locals
 inj:∀ x y c,X.env.cells.lookup x=some c->X.env.cells.lookup y=some c->x=y
 has:∀ x,(X.env.kindOf x=some .cell\/X.env.kindOf x=some .free)->∃ c,X.env.cells.lookup x=some c
 cab:∀ x c,X.fn x=true->X.env.cells.lookup x=some c->X.s₀.heap.objs.size<=c
 hd:X.calm=true->X.A.handled=none
 frames:X.A.frames=some X.stack
 stk:X.stack=X.outer\/(X.stack=X.env::X.outer/\X.env.frame=some X.env.locals)
 exf:∀ b∈X.ex,b≠X.env.locals/\∀ x c,X.env.cells.lookup x=some c->c≠b
 bs:∀ b o,X.base.get? b=some o->X.s₀.heap.get? b=some o/\X.H₀ b=none
 bsz:X.base.objs.size<=X.s₀.heap.objs.size
 noex:∀ b o,X.base.get? b=some o->b∉X.ex
 exfs:∀ b∈X.ex,b∉X.fs
 funs:X.s₀.heap.FunFrames X.base X.outer
 frf:∀ b∈X.fs,X.H₀ b=none
structure Inv (X:Cx)(pins:List (Addr×Obj))(σ:List (Option V))(H:Hp)(s:Shared):Prop where
 ok:X.Ok
 os:s.os=X.s₀.os
 bare:AllBare s.gens
 base:Un X.fs X.ex X.H₀ H X.s₀.heap s.heap
 loc:∃ m,s.heap.Ns X.env.locals m/\∀ (i:Nat) (x:Str) (v:V),X.N[i]?=some x->σ[i]?=some (some v)->Vis X.env.scope x->∃ u,zX v u/\Look X.env s.heap m x u
 cell:∀ x c,X.env.cells.lookup x=some c->∃ v,s.heap.IsCell c v
 free:H X.env.locals=none
 freeC:∀ x c,X.env.cells.lookup x=some c->H c=none
 pin:∀ p∈X.pn++pins,s.heap.get? p.1=some p.2/\H p.1=none/\p.1≠X.env.locals/\p.1∉X.fs/\∀ v,p.2.data≠.cell v
 hok:HOk X.prog X.w H s.heap
 len:σ.length=X.N.length
section
variable {X:Cx}{pins:List (Addr×Obj)}{σ:List (Option V)}{H H':Hp}{s:Shared}{h':Heap}
theorem Cx.Ok.nofr (ok:X.Ok){b:Addr}{o:Obj}(e:X.base.get? b=some o):b∉X.fs:=fun hb=>by
 have:=(ok.funs.mem hb).1
 grind
theorem Inv.bs (I:Inv X pins σ H s):∀ b o,X.base.get? b=some o->s.heap.get? b=some o/\H b=none:=fun b o e=>
 ⟨I.base.keep b o (I.ok.bs b o e).1 (I.ok.bs b o e).2 (I.ok.nofr e) (I.ok.noex b o e),I.base.free b o (I.ok.bs b o e).1 (I.ok.bs b o e).2 (I.ok.noex b o e)⟩
theorem Inv.bk (I:Inv X pins σ H s):∀ b o,X.base.get? b=some o->s.heap.get? b=some o:=fun b o e=>(I.bs b o e).1
theorem Inv.mod (I:Inv X pins σ H s):Mod X.K X.mg X.base:=I.ok.mod
theorem Inv.kIn (I:Inv X pins σ H s):X.K.In s.heap:=I.ok.mod.kin.keeps I.bk
theorem Inv.lt (I:Inv X pins σ H s):X.env.locals<s.heap.objs.size:=let ⟨_,hn,_⟩:=I.loc;hn.lt
theorem Inv.sz (I:Inv X pins σ H s):X.s₀.heap.objs.size<=s.heap.objs.size:=Nat.le_trans I.ok.above (Nat.le_of_lt I.lt)
theorem Inv.nofs (I:Inv X pins σ H s){a:Addr}(h:s.heap.objs.size<=a):a∉X.fs:=fun hb=>by
 obtain ⟨_,o,ho,_⟩:=I.ok.funs.mem hb
 exact absurd (Nat.lt_of_lt_of_le (Heap.lt_size ho) (Nat.le_trans I.sz h)) (Nat.lt_irrefl _)
theorem Inv.cne (I:Inv X pins σ H s):∀ x c,X.env.cells.lookup x=some c->c≠X.env.locals:=fun x c e z=>by
 obtain ⟨v,o,ho,hd⟩:=I.cell x c e
 obtain ⟨m,⟨o',es,ep,ho',hd',_⟩,_⟩:=I.loc
 grind
theorem Inv.funs (I:Inv X pins σ H s):s.heap.FunFrames X.base X.outer:=by
 have all:∀ (l:List Env),(∀ b∈frs l,b∈X.fs)->X.s₀.heap.FunFrames X.base l->s.heap.FunFrames X.base l:=by
  intro l
  induction l with
  | nil=>intro _ _;trivial
  | cons env r ih=>
   intro hs hl
   obtain ⟨hk,⟨L,o,hf,hn,ho,hd⟩,hr⟩:=hl
   have hL:L∈X.fs:=hs L (by unfold frs;rw [List.filterMap_cons,hf];exact List.mem_cons_self)
   obtain ⟨sl,e⟩:=I.base.slot L o ho (I.ok.frf L hL) hL fun z=>I.ok.exfs L z hL
   exact ⟨hk,⟨L,_,hf,hn,e,hd⟩,ih (fun b hb=>hs b (by unfold frs;rw [List.filterMap_cons,hf];exact List.mem_cons_of_mem _ hb)) hr⟩
 exact all X.outer (fun _ hb=>hb) I.ok.funs
theorem Inv.stack (I:Inv X pins σ H s):s.heap.FunFrames X.base X.stack:=by
 rcases I.ok.stk with e | ⟨e,hf⟩
 ·rw [e];exact I.funs
 ·rw [e]
  obtain ⟨m,hn,_⟩:=I.loc
  refine .cons (by rw [I.ok.kind];decide) hf hn ?_ I.funs
  exact Heap.get?_none_of_le (Nat.le_trans I.ok.bsz I.ok.above)
theorem Inv.stkSub (I:Inv X pins σ H s):∀ b∈frs X.stack,b∈X.env.locals::X.fs:=fun b hb=>by
 rcases I.ok.stk with e | ⟨e,hf⟩
 ·grind
 ·rw [e] at hb
  unfold frs at hb
  rw [List.filterMap_cons,hf] at hb
  exact hb
theorem Inv.stkFree (I:Inv X pins σ H s):∀ b∈frs X.stack,H b=none:=fun b hb=>by
 rcases List.mem_cons.mp (I.stkSub b hb) with e | hb
 ·rw [e];exact I.free
 ·obtain ⟨_,o,ho,_⟩:=I.ok.funs.mem hb
  exact I.base.free b o ho (I.ok.frf b hb) fun z=>I.ok.exfs b z hb
theorem Inv.step {g':Array GenState}{t':Nat}{d':Drawn}{ch:List Addr}(I:Inv X pins σ H s)
  (hch:∀ b∈ch,(b∈X.ex\/X.s₀.heap.objs.size<=b)/\b≠X.env.locals/\(∀ x c,X.env.cells.lookup x=some c->c≠b)/\∀ p∈X.pn++pins,p.1≠b)
  (keep:∀ b o,b≠X.env.locals->b∉X.fs->b∉ch->s.heap.get? b=some o->H b=none->h'.get? b=some o)
  (slot:∀ b o,b≠X.env.locals->b∈X.fs->b∉ch->s.heap.get? b=some o->H b=none->∃ sl,h'.get? b=some { o with slots:=sl }) (free:∀ b o,b∉ch->s.heap.get? b=some o->H b=none->H' b=none)
  (there:∀ b o,b∉ch->s.heap.get? b=some o->∃ o',h'.get? b=some o')
  (tups:∀ b xs,H b=some (.tup xs)->H' b=some (.tup xs)) (frzs:∀ b o u,H b=some (.frz o u)->H' b=some (.frz o u)) (tbls:∀ b ps,H b=some (.tbl ps)->∃ more,H' b=some (.tbl (ps++more)))
  (ns:∀ m,s.heap.Ns X.env.locals m->h'.Ns X.env.locals m) (hok:HOk X.prog X.w H' h') (hg:AllBare g') :
  Inv X pins σ H' { s with heap:=h',gens:=g',drawn:=d',toks:=t' }:=by
 have neL:∀ b o,X.s₀.heap.get? b=some o->b≠X.env.locals:=fun b o e=>Nat.ne_of_lt (Nat.lt_of_lt_of_le (Heap.lt_size e) I.ok.above)
 have neC:∀ b o,X.s₀.heap.get? b=some o->b∉X.ex->b∉ch:=fun b o e hx hb=>by
  rcases (hch b hb).1 with z | z
  ·exact hx z
  ·exact absurd (Nat.lt_of_lt_of_le (Heap.lt_size e) z) (Nat.lt_irrefl _)
 have cellK:∀ x c,X.env.cells.lookup x=some c->∀ v,s.heap.IsCell c v->h'.IsCell c v:=by
  rintro x c e v ⟨o,ho,hd⟩
  have nch:c∉ch:=fun z=>(hch c z).2.2.1 x c e rfl
  by_cases hc:c∈X.fs
  ·obtain ⟨sl,q⟩:=slot c o (I.cne x c e) hc nch ho (I.freeC x c e)
   exact ⟨_,q,hd⟩
  ·exact ⟨o,keep c o (I.cne x c e) hc nch ho (I.freeC x c e),hd⟩
 refine ⟨I.ok,I.os,hg,⟨fun b o e n hb hx=>?_,fun b o e n hb hx=>?_,fun b o e n hx=>?_,fun b o e hx=>?_,fun b xs e=>tups b xs (I.base.tups b xs e),fun b o xs e=>frzs b o xs (I.base.frzs b o xs e),fun b ps e=>?_⟩,?_,fun x c e=>?_,?_,fun x c e=>?_,fun p hp=>?_,hok,I.len⟩
 ·exact keep b o (neL b o e) hb (neC b o e hx) (I.base.keep b o e n hb hx) (I.base.free b o e n hx)
 ·obtain ⟨sl,e1⟩:=I.base.slot b o e n hb hx
  obtain ⟨sl',e2⟩:=slot b _ (neL b o e) hb (neC b o e hx) e1 (I.base.free b o e n hx)
  exact ⟨sl',e2⟩
 ·obtain ⟨o',e1⟩:=I.base.there b o e hx
  exact free b o' (neC b o e hx) e1 (I.base.free b o e n hx)
 ·obtain ⟨o',e1⟩:=I.base.there b o e hx
  simp_all
 ·obtain ⟨m1,e1⟩:=I.base.tbls b ps e
  grind
 ·obtain ⟨m,hn,hl⟩:=I.loc
  refine ⟨m,ns m hn,fun i x v e1 e2 e3=>?_⟩
  obtain ⟨u,r,l⟩:=hl i x v e1 e2 e3
  refine ⟨u,r,?_⟩
  rcases l with l | ⟨k,c,e,z⟩
  ·exact .inl l
  ·exact .inr ⟨k,c,e,cellK x c e _ z⟩
 ·obtain ⟨v,z⟩:=I.cell x c e
  exact ⟨v,cellK x c e v z⟩
 ·obtain ⟨m,⟨o,_,_,ho,_⟩,_⟩:=I.loc
  exact free _ o (fun z=>(hch _ z).2.1 rfl) ho I.free
 ·obtain ⟨v,o,ho,hd⟩:=I.cell x c e
  exact free c o (fun z=>(hch c z).2.2.1 x c e rfl) ho (I.freeC x c e)
 ·obtain ⟨e,n,ne,nf,d⟩:=I.pin p hp
  have nch:p.1∉ch:=fun z=>(hch p.1 z).2.2.2 p hp rfl
  simp_all
theorem Inv.un {t':Nat}(I:Inv X pins σ H s)(u:Un X.fs [] H H' s.heap h')(hok:HOk X.prog X.w H' h'):Inv X pins σ H' { s with heap:=h',toks:=t' }:=by
 obtain ⟨m,⟨o,es,ep,ho,r⟩,_⟩:=id I.loc
 obtain ⟨sl,hL⟩:=u.any ho I.free (by simp)
 exact I.step (g':=s.gens) (d':=s.drawn) (ch:=[]) (fun _ z=>nomatch z) (fun b o _ hb _ e n=>u.keep b o e n hb (by simp)) (fun b o _ hb _ e n=>u.slot b o e n hb (by simp)) (fun b o _ e n=>u.free b o e n (by simp)) (fun b o _ e=>u.there b o e (by simp)) u.tups u.frzs u.tbls (fun m' hm=>by
  obtain ⟨o',es',ep',ho',r'⟩:=hm
  rw [ho] at ho';cases ho'
  exact ⟨_,es',ep',hL,r'⟩) hok I.bare
theorem Inv.call {g':Array GenState}{t':Nat}{d':Drawn}{ch:List Addr}(I:Inv X pins σ H s)(u:Un (frs X.stack) ch H H' s.heap h')(hok:HOk X.prog X.w H' h')(hg:AllBare g')
  (hch:∀ b∈ch,(b∈X.ex\/X.s₀.heap.objs.size<=b)/\b≠X.env.locals/\(∀ x c,X.env.cells.lookup x=some c->c≠b)/\∀ p∈X.pn++pins,p.1≠b) :
  Inv X pins σ H' { s with heap:=h',gens:=g',drawn:=d',toks:=t' }:=by
 obtain ⟨m,⟨o,es,ep,ho,r⟩,_⟩:=id I.loc
 obtain ⟨sl,hL⟩:=u.any ho I.free fun z=>(hch _ z).2.1 rfl
 exact I.step (ch:=ch) hch (fun b o hL hb hc e n=>u.keep b o e n (fun z=>(List.mem_cons.mp (I.stkSub b z)).elim hL hb) hc) (fun b o _ _ hc e n=>u.any e n hc) (fun b o hc e n=>u.free b o e n hc) (fun b o hc e=>u.there b o e hc) u.tups u.frzs u.tbls (fun m' hm=>by
  obtain ⟨o',es',ep',ho',r'⟩:=hm
  rw [ho] at ho';cases ho'
  exact ⟨_,es',ep',hL,r'⟩) hok hg
theorem Inv.turned {t':Nat}{it:Addr}(I:Inv X pins σ H s)(k:∀ b o,b≠it->s.heap.get? b=some o->h'.get? b=some o)(hn:H it=none)(hL:it≠X.env.locals)
  (h1:it∈X.ex\/X.s₀.heap.objs.size<=it) (h2:∀ x c,X.env.cells.lookup x=some c->c≠it) (h3:∀ p∈X.pn++pins,p.1≠it):Inv X pins σ H { s with heap:=h',toks:=t' }:=by
 have nit:∀ b u,H b=some u->b≠it:=fun b u e z=>by rw [z,hn] at e;cases e
 refine I.step (g':=s.gens) (d':=s.drawn) (ch:=[it]) (fun b hb=>?_) (fun b o _ _ hc e _=>k b o (fun z=>hc (by simp [z])) e) (fun b o _ _ hc e _=>⟨o.slots,k b o (fun z=>hc (by simp [z])) e⟩) (fun _ _ _ _ n=>n)
  (fun b o hc e=>⟨o,k b o (fun z=>hc (by simp [z])) e⟩) (fun _ _ e=>e) (fun _ _ _ e=>e) (fun b ps e=>⟨#[],by rw [e];simp⟩) (fun m hm=>?_) (fun b u e=>?_) I.bare
 ·have e:b=it:=by simpa using hb
  subst e
  exact ⟨h1,hL,h2,h3⟩
 ·obtain ⟨o,es,ep,ho,r⟩:=hm
  exact ⟨o,es,ep,k _ o (Ne.symm hL) ho,r⟩
 ·refine (I.hok b u e).stay (fun c v hc q=>k c v ?_ q) (fun _ q=>q) fun _ _ q=>q
  grind
theorem Inv.tok (I:Inv X pins σ H s)(t:Nat):Inv X pins σ H { s with toks:=t }:=I.un (h':=s.heap) (t':=t) Un.refl I.hok
theorem Inv.kept {t':Nat}(I:Inv X pins σ H s)(k:∀ b u,s.heap.get? b=some u->h'.get? b=some u):Inv X pins σ H { s with heap:=h',toks:=t' }:=I.un (Un.kept k) (I.hok.kept k)
theorem Inv.laid {a:Addr}{o:HO}{t':Nat}(I:Inv X pins σ H s)(k:∀ b u,s.heap.get? b=some u->h'.get? b=some u)(hp:s.heap.objs.size<=a)(new:zG X.prog X.w (upd H a o) h' a o) :
  Inv X pins σ (upd H a o) { s with heap:=h',toks:=t' }:=I.un (Un.laid k hp (I.hok.fresh hp)) (I.hok.laid k hp new)
theorem Inv.write {x e:Addr}{o:HO}{t':Nat}(I:Inv X pins σ H s)(mu:Mut (H x))(he:e=x\/H e=some (.own x))(k:∀ b u,b≠e->s.heap.get? b=some u->h'.get? b=some u)(heo:∃ u,h'.get? e=some u)
  (new:zG X.prog X.w (upd H x o) h' x o):Inv X pins σ (upd H x o) { s with heap:=h',toks:=t' }:=I.un (Un.write mu he k heo) (I.hok.write mu he k heo new)
theorem Inv.pins_of {pins':List (Addr×Obj)}(I:Inv X pins σ H s)(h:∀ p∈pins',s.heap.get? p.1=some p.2/\H p.1=none/\p.1≠X.env.locals/\p.1∉X.fs/\∀ v,p.2.data≠.cell v):Inv X pins' σ H s:=
 ⟨I.ok,I.os,I.bare,I.base,I.loc,I.cell,I.free,I.freeC,fun p hp=>(List.mem_append.mp hp).elim (fun z=>I.pin p (List.mem_append_left _ z)) (h p),I.hok,I.len⟩
theorem zdn {N:List Str}(hN:N.Nodup){i j:Nat}{x:Str}(a:N[i]?=some x)(b:N[j]?=some x):i=j:=by
 obtain ⟨h1,e1⟩:=List.getElem?_eq_some_iff.mp a
 obtain ⟨h2,e2⟩:=List.getElem?_eq_some_iff.mp b
 exact (List.getElem_inj hN).mp (e1.trans e2.symm)
theorem zb5 {M:Model}{A:Around}{E:Value->Shared->Prop}{i:Nat}{x:Str}{v:V}{u:Value}{Q:Unit->Shared->Prop}(I:Inv X pins σ H s)(hN:X.N.Nodup)(hi:X.N[i]?=some x)(hx:Loc X.env.scope x)(r:zX v u)
  (h:∀ s',Inv X pins (σ.set i (some v)) H s'->(∃ a,Heap.SameBut a s.heap s'.heap/\(a=X.env.locals\/X.env.cells.lookup x=some a))->Q () s') (hf:X.fn x=true\/X.env.scope.names.lookup x=some .local:=by first | exact .inl rfl | exact .inr rfl | assumption):wpAny M A (storeName X.env x u) Q E s:=by
 obtain ⟨m,hn,hl⟩:=id I.loc
 have hcls:(X.env.scope.kind==.class || (X.env.scope.kind==.module&&X.env.locals != X.env.globals))=false:=by rw [I.ok.kind];rfl
 have hiσ:i<σ.length:=by rw [I.len];exact (List.getElem?_eq_some_iff.mp hi).1
 have cne:=I.cne
 have tracked:∀ {a:Addr} {h':Heap},(∃ o,s.heap.get? a=some o/\H a=none)->Heap.SameBut a s.heap h'->HOk X.prog X.w H h':=fun {a h'} ha hs b ob e=>by
  obtain ⟨_,_,hfree⟩:=ha
  refine (I.hok b ob e).stay (fun c w' hc q=>(hs.2 c ?_).trans q) (fun _ q=>q) fun _ _ q=>q
  grind
 rcases hx with hk | hk
 ·refine wpAny_storeName_local hk hn (fun h' hn' hs=>?_) hcls
  obtain ⟨oL,_,_,hoL,_⟩:=id hn
  refine h _ ⟨I.ok,I.os,I.bare,⟨fun b o e n hb hx=>?_,fun b o e n hb hx=>?_,I.base.free,fun b o e hx=>?_,I.base.tups,I.base.frzs,I.base.tbls⟩,⟨_,hn',fun j y v' e1 e2 e3=>?_⟩,fun y c e=>?_,I.free,I.freeC,fun p hp=>?_,tracked ⟨oL,hoL,I.free⟩ hs,by simpa using I.len⟩ ⟨_,hs,.inl rfl⟩
  ·exact (hs.2 b (Nat.ne_of_lt (Nat.lt_of_lt_of_le (Heap.lt_size e) I.ok.above))).trans (I.base.keep b o e n hb hx)
  ·obtain ⟨sl,e1⟩:=I.base.slot b o e n hb hx
   exact ⟨sl,(hs.2 b (Nat.ne_of_lt (Nat.lt_of_lt_of_le (Heap.lt_size e) I.ok.above))).trans e1⟩
  ·obtain ⟨o',e1⟩:=I.base.there b o e hx
   exact ⟨o',(hs.2 b (Nat.ne_of_lt (Nat.lt_of_lt_of_le (Heap.lt_size e) I.ok.above))).trans e1⟩
  ·by_cases hj:j=i
   ·subst hj
    rw [hi] at e1;cases e1
    rw [List.getElem?_set_self hiσ] at e2
    cases e2
    exact ⟨u,r,.inl ⟨hk,by simp⟩⟩
   ·rw [List.getElem?_set_ne (Ne.symm hj)] at e2
    obtain ⟨u',r',q⟩:=hl j y v' e1 e2 e3
    refine ⟨u',r',?_⟩
    rcases q with ⟨k,e⟩ | ⟨k,c,e,z⟩
    ·refine .inl ⟨k,?_⟩
     have:y≠x:=fun e=>hj (zdn hN e1 (e ▸ hi))
     simp [this,e]
    ·exact .inr ⟨k,c,e,z.sameBut hs (cne y c e)⟩
  ·obtain ⟨w',z⟩:=I.cell y c e
   exact ⟨w',z.sameBut hs (cne y c e)⟩
  ·obtain ⟨e,n,ne,nf,d⟩:=I.pin p hp
   exact ⟨(hs.2 p.1 ne).trans e,n,ne,nf,d⟩
 ·have hfn:X.fn x=true:=by
   grind
  obtain ⟨c,hc⟩:=I.ok.has x (.inl hk)
  obtain ⟨w',z⟩:=I.cell x c hc
  refine wpAny_storeName_cell I.ok.kind hk hc z (fun h' hc' hs=>?_)
  obtain ⟨oc,hoc,hocd⟩:=id z
  refine h { s with heap:=h' } ⟨I.ok,I.os,I.bare,⟨fun b o e n hb hx=>?_,fun b o e n hb hx=>?_,I.base.free,fun b o e hx=>?_,I.base.tups,I.base.frzs,I.base.tbls⟩,⟨m,hn.sameBut hs (Ne.symm (cne x c hc)),fun j y v' e1 e2 e3=>?_⟩,fun y c' e=>?_,I.free,I.freeC,fun p hp=>?_,tracked ⟨oc,hoc,I.freeC x c hc⟩ hs,by simpa using I.len⟩ ⟨c,hs,.inr hc⟩
  ·exact (hs.2 b (Nat.ne_of_lt (Nat.lt_of_lt_of_le (Heap.lt_size e) (I.ok.cab x c hfn hc)))).trans (I.base.keep b o e n hb hx)
  ·obtain ⟨sl,e1⟩:=I.base.slot b o e n hb hx
   exact ⟨sl,(hs.2 b (Nat.ne_of_lt (Nat.lt_of_lt_of_le (Heap.lt_size e) (I.ok.cab x c hfn hc)))).trans e1⟩
  ·obtain ⟨o',e1⟩:=I.base.there b o e hx
   exact ⟨o',(hs.2 b (Nat.ne_of_lt (Nat.lt_of_lt_of_le (Heap.lt_size e) (I.ok.cab x c hfn hc)))).trans e1⟩
  ·by_cases hj:j=i
   ·subst hj
    rw [hi] at e1;cases e1
    rw [List.getElem?_set_self hiσ] at e2
    cases e2
    exact ⟨u,r,.inr ⟨.inl hk,c,hc,hc'⟩⟩
   ·rw [List.getElem?_set_ne (Ne.symm hj)] at e2
    obtain ⟨u',r',q⟩:=hl j y v' e1 e2 e3
    refine ⟨u',r',?_⟩
    rcases q with q | ⟨k,c',e,z'⟩
    ·exact .inl q
    ·refine .inr ⟨k,c',e,z'.sameBut hs ?_⟩
     rintro rfl
     exact hj (zdn hN e1 (I.ok.inj _ _ _ e hc ▸ hi))
  ·by_cases hcc:c'=c
   ·subst hcc;exact ⟨_,hc'⟩
   ·obtain ⟨w2,z2⟩:=I.cell y c' e
    exact ⟨w2,z2.sameBut hs hcc⟩
  ·obtain ⟨e,n,ne,nf,d⟩:=I.pin p hp
   refine ⟨(hs.2 p.1 ?_).trans e,n,ne,nf,d⟩
   intro q
   simp_all
theorem zbl {M:Model}{A:Around}{E:Value->Shared->Prop}{i:Nat}{x:Str}{v:V}{u:Value}{Q:Unit->Shared->Prop}(I:Inv X pins σ H s)(hN:X.N.Nodup)(hi:X.N[i]?=some x)(hx:Loc X.env.scope x)(r:zX v u)
  (h:∀ s',Inv X pins (σ.set i (some v)) H s'->Q () s') (hf:X.fn x=true\/X.env.scope.names.lookup x=some .local:=by first | exact .inl rfl | exact .inr rfl | assumption):wpAny M A (storeName X.env x u) Q E s:=
 zb5 I hN hi hx r (fun s' I' _=>h s' I') hf
theorem Inv.call' {s':Shared}{ch:List Addr}(I:Inv X pins σ H s)(ho:s'.os=s.os)(u:Un (frs X.stack) ch H H' s.heap s'.heap)(hok:HOk X.prog X.w H' s'.heap)(hg:AllBare s'.gens)
  (hch:∀ b∈ch,(b∈X.ex\/X.s₀.heap.objs.size<=b)/\b≠X.env.locals/\(∀ x c,X.env.cells.lookup x=some c->c≠b)/\∀ p∈X.pn++pins,p.1≠b):Inv X pins σ H' s':=by
 obtain ⟨h',g',d',t',o'⟩:=s'
 have e:o'=s.os:=ho
 subst e
 exact I.call (g':=g') (t':=t') (d':=d') u hok hg hch
end
abbrev XK:=Value->Option Addr->Hp->Prop
abbrev St:=List (Option V)
abbrev VK:=V->Hp->Prop
abbrev TE:=St->Hp->VK->Prop
abbrev TT:=St->Hp->(Bool->Hp->Prop)->Prop
abbrev TA:=St->Hp->(List V->Hp->Prop)->Prop
structure Ends where
 nx:St->Hp->Prop
 rt:VK
 bk:St->Hp->Prop:=fun _ _=>False
 ct:St->Hp->Prop:=fun _ _=>False
abbrev TS:=Ends->St->Hp->Prop
def EP (X:Cx)(pins:List (Addr×Obj))(σ:St)(Q:VK)(u:Value)(s':Shared):Prop:=∃ v H',Inv X pins σ H' s'/\zX v u/\Q v H'
def TP (X:Cx)(pins:List (Addr×Obj))(σ:St)(Q:Bool->Hp->Prop)(b:Bool)(s':Shared):Prop:=∃ H',Inv X pins σ H' s'/\Q b H'
def AP (X:Cx)(pins:List (Addr×Obj))(σ:St)(Q:List V->Hp->Prop)(us:List Value)(s':Shared):Prop:=∃ vs H',Inv X pins σ H' s'/\zY vs us/\Q vs H'
def SP (X:Cx)(pins:List (Addr×Obj))(D:Ends)(f:Flow)(s':Shared):Prop:=
 match f with
 | .next=>∃ σ' H',Inv X pins σ' H' s'/\D.nx σ' H'
 | .brk=>∃ σ' H',Inv X pins σ' H' s'/\D.bk σ' H'
 | .cont=>∃ σ' H',Inv X pins σ' H' s'/\D.ct σ' H'
 | .ret u=>∃ v σ' H',Inv X pins σ' H' s'/\zX v u/\D.rt v H'
def PE (X:Cx)(e:Expr)(t:TE):Prop:=
 ∀ (pins:List (Addr×Obj)) (s:Shared) (σ:St) (H:Hp) (Q:VK),Inv X pins σ H s->t σ H Q->wpAny (model X.prog X.w) X.A (eval e X.env) (EP X pins σ Q) X.xe s
def PT (X:Cx)(e:Expr)(t:TT):Prop:=
 ∀ (pins:List (Addr×Obj)) (s:Shared) (σ:St) (H:Hp) (Q:Bool->Hp->Prop),Inv X pins σ H s->t σ H Q->wpAny (model X.prog X.w) X.A (isTrue e X.env (eval e X.env)) (TP X pins σ Q) X.xe s
def PW (X:Cx)(e:Expr)(t:TT):Prop:=
 ∀ (whole:Sem Value) (pins:List (Addr×Obj)) (s:Shared) (σ:St) (H:Hp) (Q:Bool->Hp->Prop),Inv X pins σ H s->t σ H Q->wpAny (model X.prog X.w) X.A (isTrue e X.env whole) (TP X pins σ Q) X.xe s
theorem PW.pt {X:Cx}{e:Expr}{t:TT}(h:PW X e t):PT X e t:=h _
def PA (X:Cx)(es:List Expr)(t:TA):Prop:=
 ∀ (pos:Pos) (pins:List (Addr×Obj)) (s:Shared) (σ:St) (H:Hp) (Q:List V->Hp->Prop),Inv X pins σ H s->t σ H Q->wpAny (model X.prog X.w) X.A (spliced (backTo pos (starEach es X.env))) (AP X pins σ Q) X.xe s
def PS (X:Cx)(st:Stmt)(t:TS):Prop:=
 ∀ (pins:List (Addr×Obj)) (s:Shared) (σ:St) (H:Hp) (D:Ends),Inv X pins σ H s->t D σ H->wpAny (model X.prog X.w) X.A (exec st X.env) (SP X pins D) X.xe s
def PSs (X:Cx)(st:List Stmt)(t:TS):Prop:=
 ∀ (pins:List (Addr×Obj)) (s:Shared) (σ:St) (H:Hp) (D:Ends),Inv X pins σ H s->t D σ H->wpAny (model X.prog X.w) X.A (execs st X.env) (SP X pins D) X.xe s
theorem thn {α:Type}{t:Sem α}{Q Q':α->Shared->Prop}{M:Model}{A:Around}{E:Value->Shared->Prop}{s:Shared}(h:wpAny M A t Q E s)(hQ:∀ a s,Q a s->Q' a s):wpAny M A t Q' E s:=wpAny_mono h hQ fun _ _ x=>x
section
variable {X:Cx}
def zgW (i:Nat):TE:=fun σ H Q=>∃ v,σ[i]?=some (some v)/\Q v H
def tC (v:V):TE:=fun _ H Q=>Q v H
theorem zhr {i:Nat}{x:Str}{pos:Pos}(hN:X.N[i]?=some x)(hv:Vis X.env.scope x)(hd:(x==("__debug__" : Str))=false:=by decide)(hcd:(x==("__classdict__" : Str))=false:=by decide):PE X (.Name x pos) (zgW i):=by
 intro pins s σ H Q I h
 obtain ⟨v,e,h⟩:=h
 obtain ⟨m,hn,hl⟩:=I.loc
 obtain ⟨u,r,l⟩:=hl i x v hN e hv
 have fin:EP X pins σ Q u s:=⟨v,H,I,r,h⟩
 rcases l with ⟨hk,hm⟩ | ⟨hk,c,hc,hcell⟩
 ·exact wpAny_Name (wpAny_loadName_local I.ok.kind hk hn hm fin) hd
 ·rcases hk with hk | hk
  ·exact wpAny_Name (wpAny_loadName_cell I.ok.kind hk hc hcell fin) hd
  ·exact wpAny_Name (wpAny_loadName_free I.ok.kind hk hc hcell fin hcd) hd
theorem zhq {i j pos}:PE X (.Constant (.int i) j pos) (tC (.int i)):=fun _ _ _ H _ I h=>wpAny_Constant_int ⟨.int i,H,I.tok _,⟨_,rfl⟩,h⟩
theorem zoa {b j pos}:PE X (.Constant (.bool b) j pos) (tC (.bl b)):=fun _ _ _ H _ I h=>Constant_bool ⟨.bl b,H,I,rfl,h⟩
theorem zll {j pos}:PE X (.Constant .none j pos) (tC .non):=fun _ _ _ H _ I h=>Constant_none ⟨.non,H,I,rfl,h⟩
theorem zlo {x j pos}:PE X (.Constant (.str x) j pos) (tC (.str x)):=fun _ _ _ H _ I h=>Calls.Constant_str ⟨.str x,H,I.tok _,⟨_,rfl⟩,h⟩
def Gl (X:Cx)(x:Str):Prop:=X.env.kindOf x=some .globalImplicit
theorem za0 {E:Value->Shared->Prop}{pins:List (Addr×Obj)}{s:Shared}{σ:St}{H:Hp}{x:Str}{u:Value}{pos:Pos}{Q:Value->Shared->Prop}(I:Inv X pins σ H s)(hg:Gl X x)(hm:X.mg x=some u)(h:Q u s)
  (hd:(x==("__debug__" : Str))=false:=by decide):wpAny (model X.prog X.w) X.A (eval (.Name x pos) X.env) Q E s:=
 Calls.Name_function_global I.ok.kind hg (Calls.loadGlobal_global (by rw [I.ok.glob];exact I.mod.glob.keeps I.bk) hm h) hd
theorem uX {E:Value->Shared->Prop}{pins:List (Addr×Obj)}{s:Shared}{σ:St}{H:Hp}{x:Str}{u:Value}{pos:Pos}{Q:Value->Shared->Prop}(I:Inv X pins σ H s)(hg:Gl X x)(hm:X.mg x=none)(hv:bootBuiltins x=some u)(h:Q u s)
  (hn:x ≠ "__name__" := by decide) (hd:(x==("__debug__" : Str))=false:=by decide):wpAny (model X.prog X.w) X.A (eval (.Name x pos) X.env) Q E s:=by
 obtain ⟨mb,h1,h2⟩:=I.mod.blt
 exact Calls.Name_function_global I.ok.kind hg (Calls.loadGlobal_builtin (by rw [I.ok.glob];exact I.mod.glob.keeps I.bk) hm (by rw [I.ok.blt];exact h1.keeps I.bk) ((h2 x hn).trans hv) h) hd
theorem zi5 {x:Str}{v:V}{u:Value}{pos:Pos}(hg:Gl X x)(hm:X.mg x=some u)(r:zX v u)(hd:(x==("__debug__" : Str))=false:=by decide):PE X (.Name x pos) (tC v):=
 fun _ _ _ H _ I h=>za0 I hg hm ⟨v,H,I,r,h⟩ hd
theorem zi0 {x:Str}{v:V}{u:Value}{pos:Pos}(hg:Gl X x)(hm:X.mg x=none)(hv:bootBuiltins x=some u)(r:zX v u)(hn:x ≠ "__name__" := by decide)(hd:(x==("__debug__" : Str))=false:=by decide):PE X (.Name x pos) (tC v):=
 fun _ _ _ H _ I h=>uX I hg hm hv ⟨v,H,I,r,h⟩ hn hd
variable {a b:Expr}{ta tb:TE}{pos:Pos}
def PC (X:Cx)(op:CmpOp)(a b:Expr)(t:TE):Prop:=
 ∀ (pins:List (Addr×Obj)) (s:Shared) (σ:St) (H:Hp) (Q:VK),Inv X pins σ H s->t σ H Q->
  wpAny (model X.prog X.w) X.A (eval a X.env) (fun v s₁=>wpAny (model X.prog X.w) X.A (eval b X.env) (fun u s₂=>wpAny (model X.prog X.w) X.A (compareOp op v u) (EP X pins σ Q) X.xe s₂) X.xe s₁) X.xe s
theorem za7 (b:Expr){op:CmpOp}(h:op≠.In)(h2:op≠.NotIn):behindInMarks op b=false:=by
 have e1:(op==CmpOp.In)=false:=by cases op <;> first | rfl | exact absurd rfl h
 have e2:(op==CmpOp.NotIn)=false:=by cases op <;> first | rfl | exact absurd rfl h2
 cases b <;> simp [behindInMarks,e1,e2]
def tB (t:TE):TT:=fun σ H Q=>t σ H fun x H1=>∃ c,x = .bl c/\Q c H1
theorem zlC {op:CmpOp}{t:TE}(h:PC X op a b t)(h1:behindInMarks op b=false:=by first | exact za7 _ (by decide) (by decide) | rfl):PT X (.Compare a [op] [b] pos) (tB t):=by
 intro pins s σ H Q I hw
 refine wpAny_isTrue_Compare1 (thn (h pins s σ H _ I hw) fun v s1 h1=>thn h1 fun u s2 h2=>thn h2 fun c s3 ⟨x,H1,I1,r1,q1⟩=>?_) h1
 obtain ⟨d,rfl,q⟩:=q1
 cases r1
 exact wpAny_truthy_bool ⟨H1,I1,q⟩
theorem zlE {e:Expr}{t:TE}(h:PE X e t)(he:∀ whole,isTrue e X.env whole=(do let v <- whole;standAt e.pos;holding [v] (truthy v)):=by intro _;rfl):PT X e (tB t):=by
 intro pins s σ H Q I hw
 refine isTrue_plain (thn (h pins s σ H _ I hw) fun v s1 ⟨x,H1,I1,r1,q1⟩=>?_) (he _)
 obtain ⟨d,rfl,q⟩:=q1
 cases r1
 exact wpAny_truthy_bool ⟨H1,I1,q⟩
variable {tA tB':TT}{yy:List Expr}
def zoq (t u:TT):TT:=fun σ H Q=>t σ H fun c H1=>if c=true then u σ H1 Q else Q false H1
def tOr (t u:TT):TT:=fun σ H Q=>t σ H fun c H1=>if c=true then Q true H1 else u σ H1 Q
def tNot (t:TT):TT:=fun σ H Q=>t σ H fun c H1=>Q (!c) H1
theorem zjp (ha:PT X a tA):PW X (.BoolOp .And [a] pos) tA:=by
 intro wh pins s σ H Q I h
 refine isTrue_and (thn (ha pins s σ H Q I h) fun c s1 e=>?_)
 cases c with
 | true=>exact isTrue_and_nil e
 | false=>exact e
theorem zlG (ha:PT X a tA):PW X (.BoolOp .Or [a] pos) tA:=by
 intro wh pins s σ H Q I h
 refine isTrue_or (thn (ha pins s σ H Q I h) fun c s1 e=>?_)
 cases c with
 | false=>exact isTrue_or_nil e
 | true=>exact e
theorem zlF (ha:PT X a tA)(hb:PW X (.BoolOp .And (b::yy) pos) tB'):PW X (.BoolOp .And (a::b::yy) pos) (zoq tA tB'):=by
 intro wh pins s σ H Q I h
 refine isTrue_and (thn (ha pins s σ H _ I h)  ?_)
 rintro c s1 ⟨H1,I1,q1⟩
 cases c with
 | true=>exact hb wh pins s1 σ H1 Q I1 q1
 | false=>exact ⟨H1,I1,q1⟩
theorem zoi (ha:PT X a tA)(hb:PW X (.BoolOp .Or (b::yy) pos) tB'):PW X (.BoolOp .Or (a::b::yy) pos) (tOr tA tB'):=by
 intro wh pins s σ H Q I h
 refine isTrue_or (thn (ha pins s σ H _ I h)  ?_)
 rintro c s1 ⟨H1,I1,q1⟩
 cases c with
 | true=>exact ⟨H1,I1,q1⟩
 | false=>exact hb wh pins s1 σ H1 Q I1 q1
theorem zlD (ha:PT X a tA):PT X (.UnaryOp .Not a pos) (tNot tA):=by
 intro pins s σ H Q I h
 exact isTrue_not (ha pins s σ H (fun c H1=>Q (!c) H1) I h)
def zmb (ta tb:TE):TE:=fun σ H Q=>ta σ H fun x H1=>∃ c,x = .bl c/\if c=true then tb σ H1 Q else Q (.bl false) H1
def zmh (ta:TE):TE:=fun σ H Q=>ta σ H fun x H1=>∃ c,x = .bl c/\Q (.bl (!c)) H1
theorem zln {op}{t:TE}(h:PE X a t):PE X (.BoolOp op [a] pos) t:=fun pins s σ H Q I hw=>BoolOp_one (h pins s σ H Q I hw)
theorem zli (ha:PE X a ta)(hb:PE X (.BoolOp .And (b::yy) pos) tb):PE X (.BoolOp .And (a::b::yy) pos) (zmb ta tb):=by
 intro pins s σ H Q I h
 refine BoolOp_and (thn (ha pins s σ H _ I h)  ?_)
 rintro v s1 ⟨x,H1,I1,r1,q1⟩
 obtain ⟨c,rfl,q1⟩:=q1
 cases r1
 refine wpAny_truthy_bool ?_
 cases c with
 | true=>exact hb pins s1 σ H1 Q I1 q1
 | false=>exact ⟨.bl false,H1,I1,rfl,q1⟩
theorem zlm (ha:PE X a ta):PE X (.UnaryOp .Not a pos) (zmh ta):=by
 intro pins s σ H Q I h
 refine UnaryOp_ (thn (ha pins s σ H _ I h)  ?_)
 rintro v s1 ⟨x,H1,I1,r1,q1⟩
 obtain ⟨c,rfl,q1⟩:=q1
 cases r1
 exact not_of (wpAny_truthy_bool ⟨.bl (!c),H1,I1,rfl,q1⟩)
def tIf (t:TT)(ta tb:TE):TE:=fun σ H Q=>t σ H fun c H1=>if c=true then ta σ H1 Q else tb σ H1 Q
theorem zgB {c:Expr}(hc:PT X c tA)(ha:PE X a ta)(hb:PE X b tb):PE X (.IfExp c a b pos) (tIf tA ta tb):=by
 intro pins s σ H Q I h
 refine wpAny_IfExp (thn (hc pins s σ H _ I h)  ?_)
 rintro d s1 ⟨H1,I1,q1⟩
 cases d with
 | true=>exact ha pins s1 σ H1 Q I1 q1
 | false=>exact hb pins s1 σ H1 Q I1 q1
end
def SqL (K:PySem.W.Frag)(H:Hp)(a:Addr)(xs:List V):Prop:=
 Rd H a (.lst xs)\/
  ∃ (o:Obj) (its:Array Value) (n:Nat),K.lookup a=some o/\o.cls = .type "list" /\ o.dict=none/\o.data = .seq its n/\its.size<=sizeLine/\zY xs its.toList
def SqT (K:PySem.W.Frag)(H:Hp)(a:Addr)(xs:List V):Prop:=
 Rd H a (.tup xs)\/
  ∃ (o:Obj) (its:Array Value) (n:Nat),K.lookup a=some o/\o.cls = .type "tuple" /\ o.data = .seq its n/\its.size<=sizeLine/\zY xs its.toList
def absV:Value->Option V
 | .none=>some .non
 | .bool b=>some (.bl b)
 | .int i _=>some (.int i)
 | .str x _=>some (.str x)
 | .bytes b _=>some (.byt b)
 | .float b _=>some (.flt b)
 | .ref a=>some (.ref a)
 | .type n=>some (.ty n)
 | _=>none
theorem zX.abs {x:V}{u:Value}(r:zX x u):absV u=some x:=by
 cases x with
 | non=>cases r;rfl
 | bl _=>cases r;rfl
 | int _=>obtain ⟨t,rfl⟩:=r;rfl
 | str _=>obtain ⟨t,rfl⟩:=r;rfl
 | byt _=>obtain ⟨t,rfl⟩:=r;rfl
 | flt _=>obtain ⟨t,rfl⟩:=r;rfl
 | ref _=>cases r;rfl
 | ty _=>cases r;rfl
theorem zX.inj {x y:V}{u:Value}(r:zX x u)(q:zX y u):x=y:=Option.some.inj (r.abs.symm.trans q.abs)
theorem zY.inj:∀ {xs ys:List V} {us:List Value},zY xs us->zY ys us->xs=ys
 | _,_,_,.nil,.nil=>rfl
 | _,_,_,.cons r t,.cons r' t'=>by rw [r.inj r',zY.inj t t']
section
variable {X:Cx}{pins:List (Addr×Obj)}{σ:St}{H:Hp}{s:Shared}{a:Addr}{xs ys:List V}
theorem SqL.of {K:PySem.W.Frag}(h:H a=some (.lst xs)):SqL K H a xs:=.inl (.inl h)
theorem SqT.of {K:PySem.W.Frag}(h:H a=some (.tup xs)):SqT K H a xs:=.inl (.inl h)
theorem Inv.list (I:Inv X pins σ H s)(h:SqL X.K H a xs):∃ its:List Value,zY xs its/\PlainL s.heap a its.toArray/\xs.length<=sizeLine:=by
 rcases h with h | ⟨o,its,n,hk,hc,hd,hs,hz,r⟩
 ·obtain ⟨z,its,n,r,e⟩:=h.ok I.hok
  exact ⟨its,r,⟨_,n,e,rfl,rfl,rfl⟩,z⟩
 ·refine ⟨its.toList,r,⟨o,n,I.kIn a o hk,hc,hd,by simpa using hs⟩,?_⟩
  have e:=r.length
  grind
theorem Inv.tuple (I:Inv X pins σ H s)(h:SqT X.K H a xs):∃ its:List Value,zY xs its/\IsTup s.heap a its.toArray/\xs.length<=sizeLine:=by
 rcases h with h | ⟨o,its,n,hk,hc,hs,hz,r⟩
 ·obtain ⟨z,its,r,p⟩:=h.ok I.hok
  exact ⟨its,r,p.tup,z⟩
 ·refine ⟨its.toList,r,⟨o,I.kIn a o hk,hc,n,by simpa using hs⟩,?_⟩
  have e:=r.length
  grind
theorem Inv.list_inj (I:Inv X pins σ H s)(h:SqL X.K H a xs)(h':SqL X.K H a ys):xs=ys:=by
 obtain ⟨its,r,⟨o,n,e,_,_,d⟩,_⟩:=I.list h
 obtain ⟨its',r',⟨o',n',e',_,_,d'⟩,_⟩:=I.list h'
 rw [e] at e';cases e'
 rw [d] at d'
 injection d' with d1 _
 have:its=its':=by simpa using congrArg Array.toList d1
 subst this
 exact r.inj r'
theorem Inv.tuple_inj (I:Inv X pins σ H s)(h:SqT X.K H a xs)(h':SqT X.K H a ys):xs=ys:=by
 obtain ⟨its,r,⟨o,e,_,n,d⟩,_⟩:=I.tuple h
 obtain ⟨its',r',⟨o',e',_,n',d'⟩,_⟩:=I.tuple h'
 rw [e] at e';cases e'
 rw [d] at d'
 injection d' with d1 _
 have:its=its':=by simpa using congrArg Array.toList d1
 subst this
 exact r.inj r'
end
abbrev Cx.wish (X:Cx)(E:Value->Shared->Prop):Cx:={ X with xe:=E }
abbrev Cx.nox (X:Cx):Cx:=X.wish fun _ _=>False
theorem Cx.Ok.wish {X:Cx}(ok:X.Ok)(E:Value->Shared->Prop):(X.wish E).Ok:=
 ⟨ok.mod,ok.kind,ok.glob,ok.blt,ok.above,ok.inj,ok.has,ok.cab,ok.hd,ok.frames,ok.stk,ok.exf,ok.bs,ok.bsz,ok.noex,ok.exfs,ok.funs,ok.frf⟩
theorem Cx.Ok.unwish {X:Cx}{E:Value->Shared->Prop}(ok:(X.wish E).Ok):X.Ok:=
 ⟨ok.mod,ok.kind,ok.glob,ok.blt,ok.above,ok.inj,ok.has,ok.cab,ok.hd,ok.frames,ok.stk,ok.exf,ok.bs,ok.bsz,ok.noex,ok.exfs,ok.funs,ok.frf⟩
section
variable {X:Cx}{pins:List (Addr×Obj)}{σ:St}{H:Hp}{s:Shared}{E:Value->Shared->Prop}
theorem Inv.wish (I:Inv X pins σ H s)(E:Value->Shared->Prop):Inv (X.wish E) pins σ H s:=⟨I.ok.wish E,I.os,I.bare,I.base,I.loc,I.cell,I.free,I.freeC,I.pin,I.hok,I.len⟩
theorem Inv.unwish (I:Inv (X.wish E) pins σ H s):Inv X pins σ H s:=⟨I.ok.unwish,I.os,I.bare,I.base,I.loc,I.cell,I.free,I.freeC,I.pin,I.hok,I.len⟩
theorem SP.unwish {D:Ends}{f:Flow}{s':Shared}(h:SP (X.wish E) pins D f s'):SP X pins D f s':=by
 cases f with
 | next=>obtain ⟨σ',H',I,q⟩:=h;exact ⟨σ',H',I.unwish,q⟩
 | brk=>obtain ⟨σ',H',I,q⟩:=h;exact ⟨σ',H',I.unwish,q⟩
 | cont=>obtain ⟨σ',H',I,q⟩:=h;exact ⟨σ',H',I.unwish,q⟩
 | ret u=>obtain ⟨v,σ',H',I,r,q⟩:=h;exact ⟨v,σ',H',I.unwish,r,q⟩
theorem PSs.nox {st:List Stmt}{t:TS}(h:PSs X.nox st t):PSs X st t:=fun pins s σ H D I hw=>
 wpAny_mono (h pins s σ H D (I.wish _) hw) (fun _ _ q=>q.unwish) fun _ _ z=>False.elim z
end
section
variable {X:Cx}{st:Stmt}{yy:List Stmt}{t u:TS}{e:Expr}{te:TE}{pos:Pos}
def zmg:TS:=fun D σ H=>D.nx σ H
def zov (t u:TS):TS:=fun D σ H=>t { D with nx:=u D } σ H
theorem zjk:PSs X [] zmg:=fun _ _ σ H _ I h=>wpAny_execs_nil ⟨σ,H,I,h⟩
theorem zgJ (h1:PS X st t)(h2:PSs X yy u):PSs X (st::yy) (zov t u):=by
 intro pins s σ H D I h
 refine wpAny_execs_cons (thn (h1 pins s σ H { D with nx:=u D } I h) fun f s1 q=>?_)
 cases f with
 | next=>
  obtain ⟨σ',H',I',q⟩:=q
  exact h2 pins s1 σ' H' D I' q
 | ret v=>exact q
 | brk=>exact q
 | cont=>exact q
theorem zjl (h1:PS X st t):PSs X [st] t:=by
 intro pins s σ H D I h
 refine wpAny_execs_cons (thn (h1 pins s σ H D I h) fun f s1 q=>?_)
 cases f with
 | next=>exact wpAny_execs_nil q
 | ret v=>exact q
 | brk=>exact q
 | cont=>exact q
theorem Inv.quiet {pins:List (Addr×Obj)}{σ:St}{H:Hp}{s:Shared}(I:Inv X pins σ H s):interactive X.env=false:=by simp [interactive,I.ok.kind]
def zjQ (te:TE):TS:=fun D σ H=>te σ H fun _ H1=>D.nx σ H1
theorem zfd (he:PE X e te)(hs:swapsWith e none pos.line X.env=pure false:=by rfl):PS X (.Expr e pos) (zjQ te):=by
 intro pins s σ H D I h
 exact wpAny_Expr_any (thn (he pins s σ H _ I h) <| by rintro v s1 ⟨x,H1,I1,r1,q1⟩;exact ⟨σ,H1,I1,q1⟩) I.quiet hs
def zmU (te:TE):TS:=fun D σ H=>te σ H D.rt
theorem zlz (he:PE X e te):PS X (.Return (some e) pos) (zmU te):=by
 intro pins s σ H D I h
 exact wpAny_Return_some (thn (he pins s σ H _ I h) <| by rintro v s1 ⟨x,H1,I1,r1,q1⟩;exact ⟨x,σ,H1,I1,r1,q1⟩)
def tIfS (c:TT)(t u:TS):TS:=fun D σ H=>c σ H fun b H1=>if b=true then t D σ H1 else u D σ H1
theorem zoh {c:Expr}{a b:List Stmt}{tc:TT}(hc:PT X c tc)(ha:PSs X a t)(hb:PSs X b u):PS X (.If c a b pos) (tIfS tc t u):=by
 intro pins s σ H D I h
 refine wpAny_If (thn (hc pins s σ H _ I h)  ?_)
 rintro d s1 ⟨H1,I1,q1⟩
 cases d with
 | true=>exact ha pins s1 σ H1 D I1 q1
 | false=>exact hb pins s1 σ H1 D I1 q1
def zmf:TS:=fun _ _ _=>False
theorem zab {sts:List Stmt}:PSs X sts zmf:=fun _ _ _ _ _ _ h=>h.elim
end
abbrev TG:=V->St->Hp->(St->Hp->Prop)->Prop
abbrev TGs:=List V->St->Hp->(St->Hp->Prop)->Prop
def PG (X:Cx)(target:Expr)(t:TG):Prop:=
 ∀ (pins:List (Addr×Obj)) (s:Shared) (σ:St) (H:Hp) (v:V) (u:Value) (Q:St->Hp->Prop),Inv X pins σ H s->zX v u->t v σ H Q->
  wpAny (model X.prog X.w) X.A (assign target X.env u) (fun _ s'=>∃ σ' H',Inv X pins σ' H' s'/\Q σ' H') X.xe s
def PGs (X:Cx)(ts:List Expr)(t:TGs):Prop:=
 ∀ (pins:List (Addr×Obj)) (s:Shared) (σ:St) (H:Hp) (vs:List V) (us:List Value) (Q:St->Hp->Prop),Inv X pins σ H s->zY vs us->t vs σ H Q->
  wpAny (model X.prog X.w) X.A (assignInOrder ((assignEach ts X.env).map (·.2)) us) (fun _ s'=>∃ σ' H',Inv X pins σ' H' s'/\Q σ' H') X.xe s
section
variable {X:Cx}{pos:Pos}
def uy (i:Nat):TG:=fun v σ H Q=>Q (σ.set i (some v)) H
theorem zja {i:Nat}{x:Str}(hN:X.N.Nodup)(hi:X.N[i]?=some x)(hx:Loc X.env.scope x)(hf:X.fn x=true\/X.env.scope.names.lookup x=some .local:=by first | exact .inl rfl | exact .inr rfl | assumption):PG X (.Name x pos) (uy i):=by
 intro pins s σ H v u Q I r h
 exact wpAny_assign_Name (zbl I hN hi hx r (fun s' I'=>⟨_,H,I',h⟩) hf)
def gNil:TGs:=fun vs σ H Q=>vs=[]/\Q σ H
def zku (t:TG)(u:TGs):TGs:=fun vs σ H Q=>∃ v r,vs=v::r/\t v σ H fun σ' H'=>u r σ' H' Q
theorem zjb:PGs X [] gNil:=by
 intro pins s σ H vs us Q I r h
 obtain ⟨e,h⟩:=h
 subst e
 cases r
 exact assignInOrder_nil ⟨σ,H,I,h⟩
theorem zgE {e:Expr}{es:List Expr}{t:TG}{u:TGs}(h1:PG X e t)(h2:PGs X es u)
  (hs:(assignEach (e::es) X.env).map (·.2)=assign e X.env::(assignEach es X.env).map (·.2):=by rfl):PGs X (e::es) (zku t u):=by
 intro pins s σ H vs us Q I r h
 obtain ⟨v,vr,e1,h⟩:=h
 subst e1
 cases r with
 | cons r rr=>
  rw [hs]
  refine assignInOrder_cons (thn (h1 pins s σ H _ _ _ I r h)  ?_)
  rintro _ s1 ⟨σ1,H1,I1,q1⟩
  exact h2 pins s1 σ1 H1 _ _ Q I1 rr q1
def zns (K:PySem.W.Frag)(n:Nat)(t:TGs):TG:=fun v σ H Q=>∃ a xs,v = .ref a/\SqT K H a xs/\xs.length=n/\t xs σ H Q
theorem zlv {es:List Expr}{k:Nat}{t:TGs}{n:Nat}(hc:X.calm=true)(h:PGs X es t)
  (hn:(assignEach es X.env).length=n:=by rfl) (hst:(assignEach es X.env).findIdx? (·.1)=none:=by rfl):PG X (.Tuple es k pos) (zns X.K n t):=by
 intro pins s σ H v u Q I r hw
 obtain ⟨a,xs,e1,hq,hl,hw⟩:=hw
 subst e1
 cases r
 obtain ⟨its,rv,ht,hz⟩:=I.tuple hq
 refine assign_Tuple_tuple (I.ok.hd hc) ht (by simp [hn,<- hl,rv.length]) hst fun h' hx=>?_
 have I1:Inv X pins σ H { s with heap:=h' }:=I.kept (t':=s.toks) fun b o e=>hx b o (Nat.ne_of_lt (Heap.lt_size e)) e
 exact h pins _ σ H xs _ Q I1 (by simpa using rv) hw
def zd2 (te:TE)(g:TG):TS:=fun D σ H=>te σ H fun x H1=>g x σ H1 D.nx
theorem zlx {tg e:Expr}{te:TE}{g:TG}(he:PE X e te)(hg:PG X tg g)(hs:swapsWithSole [tg] e pos.line X.env=pure false:=by rfl)(hw:swappedStores [tg] e X.env=pure none:=by rfl)
  (h1:(assignEach [tg] X.env).map (·.2)=[assign tg X.env]:=by rfl):PS X (.Assign [tg] e pos) (zd2 te g):=by
 intro pins s σ H D I h
 refine wpAny_Assign_stores (thn (he pins s σ H _ I h) fun v s1 ⟨x,H1,I1,r1,q1⟩=>?_) hs hw
 rw [h1]
 exact thn (hg pins s1 σ H1 x v _ I1 r1 q1) fun _ s2 q=>q
theorem zlA {i:Nat}{x:Str}{e:Expr}{te:TE}{pos':Pos}(hN:X.N.Nodup)(hi:X.N[i]?=some x)(hx:Loc X.env.scope x)(he:PE X e te)(hs:swapsWith e (some (.Name x pos')) pos.line X.env=pure false:=by rfl)(hf:X.fn x=true\/X.env.scope.names.lookup x=some .local:=by first | exact .inl rfl | exact .inr rfl | assumption) :
  PS X (.Assign [.Name x pos'] e pos) (zd2 te (uy i)):=by
 intro pins s σ H D I h
 refine wpAny_Assign_Name (thn (he pins s σ H _ I h) fun v s1 ⟨y,H1,I1,r1,q1⟩=>?_) hs
 exact zbl I1 hN hi hx r1 (fun s2 I2=>⟨_,H1,I2,q1⟩) hf
end
section
variable {X:Cx}{pos:Pos}
end
structure It where
 go:Nat->Hp->Prop
 yld:Nat->Hp->V->Hp->Prop
 stop:Nat->Hp->Prop
def zbu (X:Cx)(pins:List (Addr×Obj))(H:Hp)(b:Addr):Prop:=
 H b=none/\b≠X.env.locals/\b∉X.fs/\(b∈X.ex\/X.s₀.heap.objs.size<=b)/\(∀ x c,X.env.cells.lookup x=some c->c≠b)/\∀ p∈X.pn++pins,p.1≠b
theorem Inv.fpOk {X:Cx}{pins:List (Addr×Obj)}{σ:St}{H H':Hp}{s:Shared}{b:Addr}(I:Inv X pins σ H s)(hb:s.heap.objs.size<=b)(hn:H' b=none):zbu X pins H' b:=by
 refine ⟨hn,Nat.ne_of_gt (Nat.lt_of_lt_of_le I.lt hb),I.nofs hb,.inr (Nat.le_trans I.sz hb),fun x c e z=>?_,fun p hp z=>?_⟩
 ·obtain ⟨v,q⟩:=I.cell x c e
  exact absurd (Nat.lt_of_lt_of_le q.lt (by rw [z];exact hb)) (Nat.lt_irrefl _)
 ·exact absurd (Nat.lt_of_lt_of_le (Heap.lt_size (I.pin p hp).1) (by rw [z];exact hb)) (Nat.lt_irrefl _)
structure Turn (P:Program)(w:World)(K:PySem.W.Frag)(tg:Expr)(J:It)(fp:List Addr)(it:Addr)(tn:Nat->Heap->Prop):Prop where
 mem:it∈fp
 obj:∀ i h,tn i h->∀ b∈fp,∃ o,h.get? b=some o/\∀ v,o.data≠.cell v
 keep:∀ i h h',tn i h->(∀ b∈fp,∀ o,h.get? b=some o->h'.get? b=some o)->tn i h'
 item:∀ (X:Cx),X.prog=P->X.w=w->X.K=K->X.calm=true->∀ (i:Nat) (pins:List (Addr×Obj)) (s:Shared) (σ:St) (H:Hp) (E:Value->Shared->Prop),Inv X pins σ H s->(∀ b∈fp,zbu X pins H b)->tn i s.heap->J.go i H->
  wpAny (model P w) X.A (pyNext (.ref it)) (fun r s1=>∃ u,r=some u/\
   wpAny (model P w) X.A (letOwnedTupleGo tg (.ref it) u) (fun _ s2=>∃ x H',Inv X pins σ H' s2/\zX x u/\J.yld i H x H'/\tn (i+1) s2.heap/\∀ b∈fp,H' b=none) E s1) E s
 done:∀ (X:Cx),X.prog=P->X.w=w->X.K=K->X.calm=true->∀ (i:Nat) (pins:List (Addr×Obj)) (s:Shared) (σ:St) (H:Hp) (E:Value->Shared->Prop),Inv X pins σ H s->(∀ b∈fp,zbu X pins H b)->tn i s.heap->J.stop i H->
  wpAny (model P w) X.A (pyNext (.ref it)) (fun r s1=>r=none/\Inv X pins σ H s1) E s
 self:∀ (A:Around) (i:Nat) (s:Shared) (Q:Value->Shared->Prop) (E:Value->Shared->Prop),tn i s.heap->Q (.ref it) s->wpAny (model P w) A (pyIter (.ref it)) Q E s
abbrev TI:=St->Hp->(It->Hp->Prop)->Prop
def PIE (X:Cx)(pins:List (Addr×Obj))(σ:St)(tg:Expr)(R:It->Hp->Prop)(itv:Value)(s2:Shared):Prop:=
 ∃ (it:Addr) (fp:List Addr) (tn:Nat->Heap->Prop) (J:It) (H':Hp),itv = .ref it/\Inv X pins σ H' s2/\Turn X.prog X.w X.K tg J fp it tn/\tn 0 s2.heap/\(∀ b∈fp,zbu X pins H' b)/\R J H'
def PI (X:Cx)(tg iter:Expr)(wi:TI):Prop:=
 ∀ (pins:List (Addr×Obj)) (s:Shared) (σ:St) (H:Hp) (R:It->Hp->Prop),Inv X pins σ H s->wi σ H R->
  wpAny (model X.prog X.w) X.A (eval iter X.env) (fun v s1=>wpAny (model X.prog X.w) X.A (pyIter v) (PIE X pins σ tg R) X.xe s1) X.xe s
theorem zh5 {M:Model}{A:Around}{E:Value->Shared->Prop}{s:Shared}{tg:Expr}{it:Addr}{u:Value}{o:Obj}{n:String}{vs:Array Value}{Q:Unit->Shared->Prop}(ho:s.heap.get? it=some o)(hc:o.cls = .type n)(hd:o.data = .fields vs)
  (hn:["enumerate","zip","dict_itemiterator","dict_reverseitemiterator","odict_iterator","itertools.zip_longest","itertools.pairwise"].contains n=false) (hQ:Q () s):wpAny M A (letOwnedTupleGo tg (.ref it) u) Q E s:=by
 unfold letOwnedTupleGo
 cases tg <;> first
  | exact wpAny_pure hQ
  | (cases u <;> first
    | exact wpAny_pure hQ
    | (refine wpAny_bind (wpAny_load ho ?_)
       rw [hc,hd]
       show wpAny M A (if (["enumerate","zip","dict_itemiterator","dict_reverseitemiterator","odict_iterator","itertools.zip_longest","itertools.pairwise"].contains n&&vs[0]?==some (rawInt _))=true then _ else _) Q E s
       rw [if_neg (by lia)]
       exact wpAny_pure hQ))
def Itl (K:PySem.W.Frag)(a:Addr):It:=
 ⟨fun i H=>∃ xs x,SqL K H a xs/\xs[i]?=some x,fun i H x H'=>H'=H/\∀ xs,SqL K H a xs->xs[i]?=some x,fun i H=>∃ xs,SqL K H a xs/\xs.length<=i⟩
def Itt (K:PySem.W.Frag)(a:Addr):It:=
 ⟨fun i H=>∃ xs x,SqT K H a xs/\xs[i]?=some x,fun i H x H'=>H'=H/\∀ xs,SqT K H a xs->xs[i]?=some x,fun i H=>∃ xs,SqT K H a xs/\xs.length<=i⟩
def Itr (lo:Int)(n:Nat):It:=⟨fun i _=>i<n,fun i H x H'=>H'=H/\x = .int (lo+i),fun i _=>n<=i⟩
theorem zfD {P:Program}{w:World}{K:PySem.W.Frag}{tg:Expr}(a it:Addr):Turn P w K tg (Itl K a) [it] it (fun i h=>h.IsListIter it a i) where
 mem:=by simp
 obj:=fun i h st b hb=>by
  have e:b=it:=by simpa using hb
  subst e
  obtain ⟨o,e,c,d⟩:=st
  simp_all
 keep:=fun i h h' st k=>st.at fun o e=>k it (by simp) o e
 item:=by
  intro X hP hw hK hc i pins s σ H E I hf st hg
  subst hP hw hK
  obtain ⟨xs,x,hq,hx⟩:=hg
  obtain ⟨its,rv,p,hz⟩:=I.list hq
  obtain ⟨u,hu,ru⟩:=rv.get hx
  obtain ⟨f0,f1,f2,f3,f4,f5⟩:=hf it (by simp)
  refine wpAny_pyNext_list_item st p.isList (x:=u) (by simpa using hu) fun h' st' sb=>?_
  have I1:Inv X pins σ H { s with heap:=h' }:=I.turned (t':=s.toks) (fun b o hb e=>(sb.2 b hb).trans e) f0 f1 f3 f4 f5
  obtain ⟨o,e,c,d⟩:=id st'
  exact ⟨u,rfl,zh5 (s:={ s with heap:=h' }) e c d (by decide) ⟨x,H,I1,ru,⟨rfl,fun ys hy=>by rw [I.list_inj hy hq];exact hx⟩,st',fun b hb=>(hf b hb).1⟩⟩
 done:=by
  intro X hP hw hK hc i pins s σ H E I hf st hg
  subst hP hw hK
  obtain ⟨xs,hq,hx⟩:=hg
  obtain ⟨its,rv,p,hz⟩:=I.list hq
  obtain ⟨f0,f1,f2,f3,f4,f5⟩:=hf it (by simp)
  have hl:=rv.length
  exact wpAny_pyNext_list_end (I.ok.hd hc) st p.isList (by simp;lia) fun h' eb=>⟨rfl,I.turned (t':=s.toks) (fun b o hb e=>eb b o hb e) f0 f1 f3 f4 f5⟩
 self:=fun _ _ _ _ _ st h=>wpAny_pyIter_listiter st h
theorem zdZ {P:Program}{w:World}{K:PySem.W.Frag}{tg:Expr}(a it:Addr):Turn P w K tg (Itt K a) [it] it (fun i h=>h.IsTupleIter it a i) where
 mem:=by simp
 obj:=fun i h st b hb=>by
  have e:b=it:=by simpa using hb
  subst e
  obtain ⟨o,e,c,d⟩:=st
  simp_all
 keep:=fun i h h' st k=>st.at fun o e=>k it (by simp) o e
 item:=by
  intro X hP hw hK hc i pins s σ H E I hf st hg
  subst hP hw hK
  obtain ⟨xs,x,hq,hx⟩:=hg
  obtain ⟨its,rv,p,hz⟩:=I.tuple hq
  obtain ⟨u,hu,ru⟩:=rv.get hx
  obtain ⟨f0,f1,f2,f3,f4,f5⟩:=hf it (by simp)
  refine wpAny_pyNext_tuple_item st (show s.heap.IsTuple a its.toArray from p) (x:=u) (by simpa using hu) fun h' st' sb=>?_
  have I1:Inv X pins σ H { s with heap:=h' }:=I.turned (t':=s.toks) (fun b o hb e=>(sb.2 b hb).trans e) f0 f1 f3 f4 f5
  obtain ⟨o,e,c,d⟩:=id st'
  exact ⟨u,rfl,zh5 (s:={ s with heap:=h' }) e c d (by decide) ⟨x,H,I1,ru,⟨rfl,fun ys hy=>by rw [I.tuple_inj hy hq];exact hx⟩,st',fun b hb=>(hf b hb).1⟩⟩
 done:=by
  intro X hP hw hK hc i pins s σ H E I hf st hg
  subst hP hw hK
  obtain ⟨xs,hq,hx⟩:=hg
  obtain ⟨its,rv,p,hz⟩:=I.tuple hq
  obtain ⟨f0,f1,f2,f3,f4,f5⟩:=hf it (by simp)
  have hl:=rv.length
  exact wpAny_pyNext_tuple_end (I.ok.hd hc) st (show s.heap.IsTuple a its.toArray from p) (by simp;lia) fun h' eb=>⟨rfl,I.turned (t':=s.toks) (fun b o hb e=>eb b o hb e) f0 f1 f3 f4 f5⟩
 self:=fun _ _ _ _ _ st h=>wpAny_pyIter_tupleiter st h
theorem zdY {P:Program}{w:World}{K:PySem.W.Frag}{tg:Expr}(it:Addr)(lo:Int)(n:Nat):Turn P w K tg (Itr lo n) [it] it (fun i h=>IsRangeIter h it (lo+(i:Nat) * 1) ((n:Int) - (i:Nat)) 1) where
 mem:=by simp
 obj:=fun i h st b hb=>by
  simp_all
 keep:=fun i h h' st k=>k it (by simp) _ st
 item:=by
  intro X hP hw hK hc i pins s σ H E I hf st hg
  subst hP hw hK
  obtain ⟨f0,f1,f2,f3,f4,f5⟩:=hf it (by simp)
  have W:=Walks.range (prog:=X.prog) (w:=X.w) (I.ok.hd hc) it lo 1 n
  refine W.item i s _ _ hg st fun v h' tk hv st' kk=>?_
  obtain ⟨t,rfl⟩:=hv
  have I1:Inv X pins σ H { s with heap:=h',toks:=tk }:=I.turned (fun b o hb e=>kk b o (by simpa using hb) e) f0 f1 f3 f4 f5
  refine ⟨_,rfl,zh5 (s:={ s with heap:=h',toks:=tk }) (n := "range_iterator") st' rfl rfl (by decide) ⟨.int (lo+i),H,I1,⟨t,?_⟩,⟨rfl,rfl⟩,st',fun b hb=>(hf b hb).1⟩⟩
  rw [Int.mul_one]
 done:=by
  intro X hP hw hK hc i pins s σ H E I hf st hg
  subst hP hw hK
  obtain ⟨f0,f1,f2,f3,f4,f5⟩:=hf it (by simp)
  exact wpAny_pyNext_range_end (I.ok.hd hc) st (by have:n<=i:=hg;lia) fun h' eb=>⟨rfl,I.turned (t':=s.toks) (fun b o hb e=>eb b o hb e) f0 f1 f3 f4 f5⟩
 self:=fun _ _ _ _ _ st h=>wpAny_pyIter_rangeiter st h
section
variable {X:Cx}{tg:Expr}
def zia (K:PySem.W.Frag)(tl:TE):TI:=fun σ H R=>tl σ H fun x H1=>∃ a,x = .ref a/\(∃ xs,SqL K H1 a xs)/\R (Itl K a) H1
def znv (K:PySem.W.Frag)(tl:TE):TI:=fun σ H R=>tl σ H fun x H1=>∃ a,x = .ref a/\(∃ xs,SqT K H1 a xs)/\R (Itt K a) H1
theorem zjd {l:Expr}{tl:TE}(hl:PE X l tl):PI X tg l (zia X.K tl):=by
 intro pins s σ H R I h
 refine thn (hl pins s σ H _ I h)  ?_
 rintro v s1 ⟨x,H1,I1,r1,q1⟩
 obtain ⟨a,e,⟨xs,hq⟩,q⟩:=q1
 subst e
 cases r1
 obtain ⟨its,rv,p,hz⟩:=I1.list hq
 refine wpAny_pyIter_list p.isList ?_
 refine ⟨s1.heap.objs.size,[s1.heap.objs.size],_,_,H1,rfl,I1.kept (t':=s1.toks) fun b o e=>Heap.get?_push_of_some _ e,zfD a _,⟨_,Heap.get?_push_size _ rfl,rfl,rfl⟩,fun b hb=>?_,q⟩
 have e:b=s1.heap.objs.size:=by simpa using hb
 subst e
 exact I1.fpOk (Nat.le_refl _) (I1.hok.fresh (Nat.le_refl _))
theorem zlw {l:Expr}{tl:TE}(hl:PE X l tl):PI X tg l (znv X.K tl):=by
 intro pins s σ H R I h
 refine thn (hl pins s σ H _ I h)  ?_
 rintro v s1 ⟨x,H1,I1,r1,q1⟩
 obtain ⟨a,e,⟨xs,hq⟩,q⟩:=q1
 subst e
 cases r1
 obtain ⟨its,rv,p,hz⟩:=I1.tuple hq
 refine wpAny_pyIter_tuple (show s1.heap.IsTuple a its.toArray from p) ?_
 refine ⟨s1.heap.objs.size,[s1.heap.objs.size],_,_,H1,rfl,I1.kept (t':=s1.toks) fun b o e=>Heap.get?_push_of_some _ e,zdZ a _,⟨_,Heap.get?_push_size _ rfl,rfl,rfl⟩,fun b hb=>?_,q⟩
 have e:b=s1.heap.objs.size:=by simpa using hb
 subst e
 exact I1.fpOk (Nat.le_refl _) (I1.hok.fresh (Nat.le_refl _))
theorem zgO {pins:List (Addr×Obj)}{σ:St}{H:Hp}{s:Shared}{R:It->Hp->Prop}{E:Value->Shared->Prop}{lo hi:Int}{t u v:Tok}{tk:Nat}(I:Inv X pins σ H s)(h1:-(2 ^ 62)<=lo)(h2:lo<2 ^ 62)(h3:-(2 ^ 62)<=hi)(h4:hi<2 ^ 62)
  (q:R (Itr lo (hi - lo).toNat) H):wpAny (model X.prog X.w) X.A (pyIter (.ref s.heap.objs.size)) (PIE X pins σ tg R) E { s with heap:=s.heap.push { cls:=.type "range",data:=.fields #[.int lo t,.int hi u,.int 1 v] },toks:=tk }:=by
 refine wpAny_pyIter_range (IsRange.new ..) (small_one h1 h2 h3 h4) ?_
 have I1:Inv X pins σ H { s with heap:=s.heap.push { cls:=.type "range",data:=.fields #[.int lo t,.int hi u,.int 1 v] },toks:=tk }:=I.kept fun b o e=>Heap.get?_push_of_some _ e
 refine ⟨(s.heap.push { cls:=.type "range",data:=.fields #[.int lo t,.int hi u,.int 1 v] }).objs.size,[(s.heap.push { cls:=.type "range",data:=.fields #[.int lo t,.int hi u,.int 1 v] }).objs.size],_,_,H,rfl,
  I1.kept (t':=tk) fun b o e=>Heap.get?_push_of_some _ e,zdY _ lo (hi - lo).toNat,?_,fun b hb=>?_,q⟩
 ·have e1:lo+((0:Nat):Int) * 1=lo:=by simp
  have e2:(((hi - lo).toNat:Nat):Int) - ((0:Nat):Int)=Builtin.Range.rangeSize lo hi 1:=by rw [rangeSize_one];split <;> lia
  show IsRangeIter _ _ (lo+((0:Nat):Int) * 1) ((((hi - lo).toNat:Nat):Int) - ((0:Nat):Int)) 1
  rw [e1,e2]
  exact Heap.get?_push_size _ rfl
 ·have e:b=(s.heap.push { cls:=.type "range",data:=.fields #[.int lo t,.int hi u,.int 1 v] }).objs.size:=by simpa using hb
  subst e
  exact I1.fpOk (Nat.le_refl _) (I1.hok.fresh (Nat.le_refl _))
def zkz (ta:TA):TI:=fun σ H R=>ta σ H fun vs H1=>∃ j:Int,vs=[.int j]/\-(2 ^ 62)<=j/\j<2 ^ 62/\R (Itr 0 j.toNat) H1
theorem zfa {a:Expr}{ta:TA}{p pos:Pos}(hg:Gl X "range")(hm:X.mg "range" = none)(ha:PA X [a] ta)(hs:starEach [a] X.env=[(false,eval a X.env)]:=by rfl):PI X tg (.Call (.Name "range" p) [a] [] pos) (zkz ta):=by
 intro pins s σ H R I h
 refine Call_ (uX I hg hm boot_range (PyProof.Rows.callWith_type1 (thn (ha pos pins s σ H _ I h) fun us s1 ⟨vs,H1,I1,r1,q1⟩=>?_) hs rfl))
 obtain ⟨j,e,q1,q2,q⟩:=q1
 subst e
 cases r1 with
 | cons r rr=>
  cases rr
  obtain ⟨t,rfl⟩:=r
  exact call_range_1 (zgO I1 (by lia) (by lia) q1 q2 (by simpa using q))
def zot (wi:TI)(g:TG)(tb:TS):TS:=fun D σ H=>wi σ H fun J H1=>∃ W:Nat->Nat->St->Hp->Prop,(∃ m,W 0 m σ H1)/\∀ i m σ H,W i m σ H->
 (J.stop i H/\D.nx σ H)\/(J.go i H/\∃ N:St->Hp->Prop,(∀ σ' H',N σ' H'->∃ m',m'<m/\W (i+1) m' σ' H')/\∀ x H',J.yld i H x H'->g x σ H' fun σ2 H2=>tb { D with nx:=N,ct:=N,bk:=D.nx } σ2 H2)
def zbX (fp:List Addr)(h:Heap):List (Addr×Obj):=fp.filterMap fun b=>(h.get? b).map fun o=>(b,o)
theorem x6 {fp:List Addr}{h:Heap}{b:Addr}{o:Obj}(hb:b∈fp)(e:h.get? b=some o):(b,o)∈zbX fp h:=List.mem_filterMap.mpr ⟨b,hb,by rw [e];rfl⟩
theorem ze2 {fp:List Addr}{h:Heap}{p:Addr×Obj}(hp:p∈zbX fp h):p.1∈fp/\h.get? p.1=some p.2:=by
 obtain ⟨b,hb,e⟩:=List.mem_filterMap.mp hp
 cases q:h.get? b with
 | none=>rw [q] at e;cases e
 | some o=>
  grind
theorem Inv.pinned {pins:List (Addr×Obj)}{σ:St}{H:Hp}{s:Shared}{fp:List Addr}(I:Inv X pins σ H s)(hf:∀ b∈fp,zbu X pins H b)(ho:∀ b∈fp,∃ o,s.heap.get? b=some o/\∀ v,o.data≠.cell v):Inv X (pins++zbX fp s.heap) σ H s:=
 I.pins_of fun p hp=>(List.mem_append.mp hp).elim (fun z=>I.pin p (List.mem_append_right _ z)) fun z=>by
  obtain ⟨hb,e⟩:=ze2 z
  obtain ⟨f0,f1,f2,_⟩:=hf p.1 hb
  obtain ⟨o,e',d⟩:=ho p.1 hb
  simp_all
theorem Inv.unpinned {pins pl:List (Addr×Obj)}{σ:St}{H:Hp}{s:Shared}(I:Inv X (pins++pl) σ H s):Inv X pins σ H s:=I.pins_of fun p hp=>I.pin p (List.mem_append_right _ (List.mem_append_left _ hp))
theorem zly {iter:Expr}{body:List Stmt}{wi:TI}{g:TG}{tb:TS}{pos:Pos}(hp:PassesOwn (model X.prog X.w) X.A X.env X.xe)(hc:X.calm=true)(hi:PI X tg iter wi)(hg:PG X tg g)(hb:PSs X body tb)
  (hs:∀ x,foldedSetIterable iter X.env x=pure x:=by intro _;rfl):PS X (.For tg iter body [] pos) (zot wi g tb):=by
 intro pins s σ H D I h
 refine wpAny_For (thn (hi pins s σ H _ I h) fun v s1 h1=>thn h1 fun itv s2 h2=>?_) hs
 obtain ⟨it,fp,tn,J,H2,e,I2,T,st2,f2,W,⟨m0,w0⟩,turn⟩:=h2
 subst e
 have stat:∀ {H':Hp},(∀ b∈fp,H' b=none)->∀ b∈fp,zbu X pins H' b:=fun hn b hb=>⟨hn b hb,(f2 b hb).2⟩
 refine codeAny_forLoop_any (fun n s'=>∃ i σ' H',Inv X pins σ' H' s'/\tn i s'.heap/\(∀ b∈fp,H' b=none)/\W i n σ' H') ?_ m0 ⟨0,σ,H2,I2,st2,fun b hb=>(f2 b hb).1,w0⟩
 rintro n s3 ⟨i,σ3,H3,I3,st3,fr3,w3⟩
 rcases turn i n σ3 H3 w3 with ⟨stop,qn⟩ | ⟨go,N,hN,step⟩
 ·refine wpAny_passesOwn hp (thn (T.done X rfl rfl rfl hc i pins s3 σ3 H3 X.xe I3 (stat fr3) st3 stop)  ?_)
  rintro r s4 ⟨hr,I4⟩
  subst hr
  exact wpAny_execs_nil ⟨σ3,H3,I4,qn⟩
 ·refine wpAny_passesOwn hp (thn (T.item X rfl rfl rfl hc i pins s3 σ3 H3 X.xe I3 (stat fr3) st3 go)  ?_)
  rintro r s4 ⟨u,hr,h4⟩
  subst hr
  refine wpAny_passesOwn hp (thn h4  ?_)
  rintro _ s5 ⟨x,H5,I5,r5,y5,st5,fr5⟩
  have I5':=I5.pinned (stat fr5) (T.obj _ _ st5)
  refine wpAny_passesOwn hp (thn (hg _ s5 σ3 H5 x u _ I5' r5 (step x H5 y5))  ?_)
  rintro _ s6 ⟨σ6,H6,I6,q6⟩
  refine wpAny_passesOwn hp (thn (hb _ s6 σ6 H6 _ I6 q6) fun f s7 q7=>?_)
  have again:∀ {σ7:St} {H7:Hp},Inv X (pins++zbX fp s5.heap) σ7 H7 s7->N σ7 H7->∃ m,m<n/\∃ i σ' H',Inv X pins σ' H' s7/\tn i s7.heap/\(∀ b∈fp,H' b=none)/\W i m σ' H':=fun {σ7 H7} I7 n7=>by
   obtain ⟨m',hm,w7⟩:=hN σ7 H7 n7
   refine ⟨m',hm,i+1,σ7,H7,I7.unpinned,T.keep _ _ _ st5 fun b hb o e=>(I7.pin (b,o) (List.mem_append_right _ (List.mem_append_right _ (x6 hb e)))).1,fun b hb=>?_,w7⟩
   obtain ⟨o,e,d⟩:=T.obj _ _ st5 b hb
   exact (I7.pin (b,o) (List.mem_append_right _ (List.mem_append_right _ (x6 hb e)))).2.1
  cases f with
  | next=>obtain ⟨σ7,H7,I7,n7⟩:=q7;exact again I7 n7
  | cont=>obtain ⟨σ7,H7,I7,n7⟩:=q7;exact again I7 n7
  | brk=>obtain ⟨σ7,H7,I7,q7⟩:=q7;exact ⟨σ7,H7,I7.unpinned,q7⟩
  | ret v=>obtain ⟨x7,σ7,H7,I7,r7,q7⟩:=q7;exact ⟨x7,σ7,H7,I7.unpinned,r7,q7⟩
end
theorem zgb {K:PySem.W.Frag}{a:Addr}{xs:List V}{g:TG}{tb:TS}{D:Ends}{σ:St}{H:Hp}(Pv:Nat->St->Hp->Prop)(h0:Pv 0 σ H)(hl:∀ i σ H,i<=xs.length->Pv i σ H->SqL K H a xs)
  (hs:∀ i x σ H,xs[i]?=some x->Pv i σ H->g x σ H fun σ2 H2=>tb { D with nx:=Pv (i+1),ct:=Pv (i+1),bk:=D.nx } σ2 H2) (hd:∀ σ H,Pv xs.length σ H->D.nx σ H) :
  ∃ W:Nat->Nat->St->Hp->Prop,(∃ m,W 0 m σ H)/\∀ i m σ H,W i m σ H->
   ((Itl K a).stop i H/\D.nx σ H)\/((Itl K a).go i H/\∃ N:St->Hp->Prop,(∀ σ' H',N σ' H'->∃ m',m'<m/\W (i+1) m' σ' H')/\∀ x H',(Itl K a).yld i H x H'->g x σ H' fun σ2 H2=>tb { D with nx:=N,ct:=N,bk:=D.nx } σ2 H2):=by
 refine ⟨fun i m σ H=>m=xs.length - i/\i<=xs.length/\Pv i σ H,⟨xs.length,by simp,Nat.zero_le _,h0⟩,?_⟩
 rintro i m σ H ⟨rfl,hi,p⟩
 have q:=hl i σ H hi p
 by_cases hlt:i<xs.length
 ·refine .inr ⟨⟨xs,xs[i],q,by simp [hlt]⟩,Pv (i+1),fun σ' H' p'=>⟨xs.length - (i+1),by lia,rfl,hlt,p'⟩,fun x H' y=>?_⟩
  obtain ⟨e,y⟩:=y
  subst e
  exact hs i x σ _ (y xs q) p
 ·have e:i=xs.length:=by lia
  subst e
  exact .inl ⟨⟨xs,q,Nat.le_refl _⟩,hd σ H p⟩
theorem zh0 {K:PySem.W.Frag}{a:Addr}{xs:List V}{g:TG}{tb:TS}{D:Ends}{σ:St}{H:Hp}(Pv:Nat->St->Hp->Prop)(h0:Pv 0 σ H)(hl:∀ i σ H,i<=xs.length->Pv i σ H->SqT K H a xs)
  (hs:∀ i x σ H,xs[i]?=some x->Pv i σ H->g x σ H fun σ2 H2=>tb { D with nx:=Pv (i+1),ct:=Pv (i+1),bk:=D.nx } σ2 H2) (hd:∀ σ H,Pv xs.length σ H->D.nx σ H) :
  ∃ W:Nat->Nat->St->Hp->Prop,(∃ m,W 0 m σ H)/\∀ i m σ H,W i m σ H->
   ((Itt K a).stop i H/\D.nx σ H)\/((Itt K a).go i H/\∃ N:St->Hp->Prop,(∀ σ' H',N σ' H'->∃ m',m'<m/\W (i+1) m' σ' H')/\∀ x H',(Itt K a).yld i H x H'->g x σ H' fun σ2 H2=>tb { D with nx:=N,ct:=N,bk:=D.nx } σ2 H2):=by
 refine ⟨fun i m σ H=>m=xs.length - i/\i<=xs.length/\Pv i σ H,⟨xs.length,by simp,Nat.zero_le _,h0⟩,?_⟩
 rintro i m σ H ⟨rfl,hi,p⟩
 have q:=hl i σ H hi p
 by_cases hlt:i<xs.length
 ·refine .inr ⟨⟨xs,xs[i],q,by simp [hlt]⟩,Pv (i+1),fun σ' H' p'=>⟨xs.length - (i+1),by lia,rfl,hlt,p'⟩,fun x H' y=>?_⟩
  obtain ⟨e,y⟩:=y
  subst e
  exact hs i x σ _ (y xs q) p
 ·have e:i=xs.length:=by lia
  subst e
  exact .inl ⟨⟨xs,q,Nat.le_refl _⟩,hd σ H p⟩
abbrev R2:=V->V->Hp->VK->Prop
def OpR (X:Cx)(f:Value->Value->Sem Value)(r:R2):Prop:=
 ∀ (pins:List (Addr×Obj)) (s:Shared) (σ:St) (H:Hp) (x y:V) (v u:Value) (Q:VK),Inv X pins σ H s->zX x v->zX y u->r x y H Q->
  wpAny (model X.prog X.w) X.A (f v u) (EP X pins σ Q) X.xe s
def UnR (X:Cx)(f:Value->Sem Value)(r:V->Hp->VK->Prop):Prop:=
 ∀ (pins:List (Addr×Obj)) (s:Shared) (σ:St) (H:Hp) (x:V) (v:Value) (Q:VK),Inv X pins σ H s->zX x v->r x H Q->
  wpAny (model X.prog X.w) X.A (f v) (EP X pins σ Q) X.xe s
def zaS (X:Cx)(f:Value)(r:List V->Hp->VK->Prop):Prop:=
 ∀ (pins:List (Addr×Obj)) (s:Shared) (σ:St) (H:Hp) (xs:List V) (us:List Value) (Q:VK),Inv X pins σ H s->zY xs us->r xs H Q->
  wpAny (model X.prog X.w) X.A (call f us) (EP X pins σ Q) X.xe s
def tOp (r:R2)(ta tb:TE):TE:=fun σ H Q=>ta σ H fun x H1=>tb σ H1 fun y H2=>r x y H2 Q
def tUn (r:V->Hp->VK->Prop)(ta:TE):TE:=fun σ H Q=>ta σ H fun x H1=>r x H1 Q
def rI (C:Int->Int->Prop)(g:Int->Int->V):R2:=fun x y H Q=>∃ i j,x = .int i/\y = .int j/\C i j/\Q (g i j) H
def rI0 (g:Int->Int->V):R2:=fun x y H Q=>∃ i j,x = .int i/\y = .int j/\Q (g i j) H
def rU (g:Int->V):V->Hp->VK->Prop:=fun x H Q=>∃ i,x = .int i/\Q (g i) H
section
variable {X:Cx}{a b c:Expr}{ta tb tc:TE}{pos:Pos}
theorem zm1 (ha:PE X a ta)(hb:PE X b tb){pins:List (Addr×Obj)}{s:Shared}{σ:St}{H:Hp}{R:V->V->Hp->Prop}(I:Inv X pins σ H s)
  (h:ta σ H fun x H1=>tb σ H1 fun y H2=>R x y H2) {Q:Value->Shared->Prop} {f:Value->Value->Sem Value}
  (hf:∀ v u s2 x y H2,Inv X pins σ H2 s2->zX x v->zX y u->R x y H2->wpAny (model X.prog X.w) X.A (f v u) Q X.xe s2) :
  wpAny (model X.prog X.w) X.A (eval a X.env) (fun v s₁=>wpAny (model X.prog X.w) X.A (eval b X.env) (fun u s₂=>wpAny (model X.prog X.w) X.A (f v u) Q X.xe s₂) X.xe s₁) X.xe s:=by
 refine thn (ha pins s σ H _ I h)  ?_
 rintro v s1 ⟨x,H1,I1,r1,q1⟩
 refine thn (hb pins s1 σ H1 _ I1 q1)  ?_
 rintro u s2 ⟨y,H2,I2,r2,q2⟩
 exact hf v u s2 x y H2 I2 r1 r2 q2
theorem zod {op:Operator}{r:R2}(ho:OpR X (binaryOp op) r)(ha:PE X a ta)(hb:PE X b tb):PE X (.BinOp a op b pos) (tOp r ta tb):=by
 intro pins s σ H Q I h
 exact wpAny_BinOp (zm1 ha hb I h fun v u s2 x y H2 I2 rx ry q=>ho pins s2 σ H2 x y v u Q I2 rx ry q)
theorem zoe {op:UnaryOp}{r:V->Hp->VK->Prop}(ho:UnR X (unaryOp op) r)(ha:PE X a ta):PE X (.UnaryOp op a pos) (tUn r ta):=by
 intro pins s σ H Q I h
 exact UnaryOp_ (thn (ha pins s σ H _ I h) <| by rintro v s1 ⟨x,H1,I1,r1,q1⟩;exact ho pins s1 σ H1 x v Q I1 r1 q1)
theorem opI {f:Value->Value->Sem Value}{C:Int->Int->Prop}{g:Int->Int->Int}
  (rule:∀ (i j:Int) (t u:Tok) (s:Shared) (Q:Value->Shared->Prop) (E:Value->Shared->Prop),C i j->Q (.int (g i j) s.toks) { s with toks:=s.toks+1 }->wpAny (model X.prog X.w) X.A (f (.int i t) (.int j u)) Q E s) :
  OpR X f (rI C fun i j=>.int (g i j)):=by
 intro pins s σ H x y v u Q I rx ry h
 obtain ⟨i,j,rfl,rfl,hc,q⟩:=h
 obtain ⟨t,rfl⟩:=rx
 obtain ⟨t',rfl⟩:=ry
 exact rule i j t t' s _ _ hc ⟨.int (g i j),H,I.tok _,⟨_,rfl⟩,q⟩
theorem opI0 {f:Value->Value->Sem Value}{g:Int->Int->Int}
  (rule:∀ (i j:Int) (t u:Tok) (s:Shared) (Q:Value->Shared->Prop) (E:Value->Shared->Prop),Q (.int (g i j) s.toks) { s with toks:=s.toks+1 }->wpAny (model X.prog X.w) X.A (f (.int i t) (.int j u)) Q E s) :
  OpR X f (rI0 fun i j=>.int (g i j)):=by
 intro pins s σ H x y v u Q I rx ry h
 obtain ⟨i,j,rfl,rfl,q⟩:=h
 obtain ⟨t,rfl⟩:=rx
 obtain ⟨t',rfl⟩:=ry
 exact rule i j t t' s _ _ ⟨.int (g i j),H,I.tok _,⟨_,rfl⟩,q⟩
theorem zmN {f:Value->Value->Sem Value}{g:Int->Int->Bool}
  (rule:∀ (i j:Int) (t u:Tok) (s:Shared) (Q:Value->Shared->Prop) (E:Value->Shared->Prop),Q (.bool (g i j)) s->wpAny (model X.prog X.w) X.A (f (.int i t) (.int j u)) Q E s) :
  OpR X f (rI0 fun i j=>.bl (g i j)):=by
 intro pins s σ H x y v u Q I rx ry h
 obtain ⟨i,j,rfl,rfl,q⟩:=h
 obtain ⟨t,rfl⟩:=rx
 obtain ⟨t',rfl⟩:=ry
 exact rule i j t t' s _ _ ⟨.bl (g i j),H,I,rfl,q⟩
def CDiv (i j:Int):Prop:=0<j/\j<1073741824
def CPow (i j:Int):Prop:=0<=j/\j<=1000000/\i.natAbs<2 ^ 64
def zgZ (i j:Int):Prop:=(-(2 ^ 64)<i/\i<2 ^ 64)\/(-(2 ^ 64)<j/\j<2 ^ 64)
theorem zgZ.ok {i j:Int}(h:zgZ i j):IntMulOk i j:=by
 rcases h with ⟨h1,h2⟩ | ⟨h1,h2⟩
 ·exact .of_left (intBits_le_64 h1 h2)
 ·exact .of_right (intBits_le_64 h1 h2)
theorem zk5:OpR X (binaryOp .Add) (rI0 fun i j=>.int (i+j)):=opI0 fun _ _ _ _ _ _ _ q=>add_int q
theorem zlb:OpR X (binaryOp .Sub) (rI0 fun i j=>.int (i - j)):=opI0 fun _ _ _ _ _ _ _ q=>sub_int q
theorem zk8:OpR X (binaryOp .Mult) (rI zgZ fun i j=>.int (i * j)):=opI fun _ _ _ _ _ _ _ hc q=>mul_int q hc.ok
theorem ziX:OpR X (binaryOp .FloorDiv) (rI CDiv fun i j=>.int (i / j)):=opI fun i j _ _ _ _ _ hc q=>by
 have h1:(0:Int)<j:=hc.1
 have h2:j<1073741824:=hc.2
 exact floordiv_int (by lia) (by rw [Int.fdiv_eq_ediv_of_nonneg i (by lia)];exact q) (.inl (PyProof.noPylong_small (by lia)))
theorem zk7:OpR X (binaryOp .Mod) (rI (fun _ j=>0<j) fun i j=>.int (i % j)):=opI fun i j _ _ _ _ _ hc q=>by
 have h1:(0:Int)<j:=hc
 exact mod_int' (by lia) (by rw [Int.fmod_eq_emod_of_nonneg i (by lia)];exact q)
theorem zla:OpR X (binaryOp .Pow) (rI CPow fun i j=>.int (i ^ j.toNat)):=opI fun _ _ _ _ _ _ _ hc q=>pow_int_small hc.1 hc.2.1 hc.2.2 q
theorem unI {f:Value->Sem Value}{g:Int->Int}
  (rule:∀ (i:Int) (t:Tok) (s:Shared) (Q:Value->Shared->Prop) (E:Value->Shared->Prop),Q (.int (g i) s.toks) { s with toks:=s.toks+1 }->wpAny (model X.prog X.w) X.A (f (.int i t)) Q E s) :
  UnR X f (rU fun i=>.int (g i)):=by
 intro pins s σ H x v Q I rx h
 obtain ⟨i,rfl,q⟩:=h
 obtain ⟨t,rfl⟩:=rx
 exact rule i t s _ _ ⟨.int (g i),H,I.tok _,⟨_,rfl⟩,q⟩
theorem zmp:UnR X (unaryOp .USub) (rU fun i=>.int (-i)):=unI fun _ _ _ _ _ q=>neg_int q
end
def zon:V->V->Bool
 | .non,.non=>true | .non,.int _=>true | .int _,.non=>true | .non,.bl _=>true | .bl _,.non=>true | .non,.str _=>true | .str _,.non=>true
 | .int _,.int _=>true | .bl _,.bl _=>true | .str _,.str _=>true | .byt _,.byt _=>true
 | .int _,.str _=>true | .str _,.int _=>true | .bl _,.str _=>true | .str _,.bl _=>true
 | _,_=>false
def rEq:R2:=fun x y H Q=>zon x y=true/\Q (.bl (decide (x=y))) H
def rNe:R2:=fun x y H Q=>zon x y=true/\Q (.bl (!decide (x=y))) H
theorem zeq {i j:Int}:decide (V.int i=V.int j)=(i==j):=by
 rw [Bool.eq_iff_iff]
 simp
theorem zg9 {i j:Bool}:decide (V.bl i=V.bl j)=(i==j):=by
 rw [Bool.eq_iff_iff]
 simp
theorem zer {i j:Str}:decide (V.str i=V.str j)=(i==j):=by
 rw [Bool.eq_iff_iff]
 simp
theorem zep {i j:Array UInt8}:decide (V.byt i=V.byt j)=(i.toList==j.toList):=by
 rw [Bool.eq_iff_iff]
 simp_all
section
variable {X:Cx}{a b c:Expr}{ta tb tc:TE}{pos:Pos}
theorem zC {pins:List (Addr×Obj)}{σ:St}{H:Hp}{s:Shared}{Q:VK}{k k':Bool}(I:Inv X pins σ H s)(q:Q (.bl k) H)(e:k=k'):EP X pins σ Q (.bool k') s:=by
 subst e
 exact ⟨.bl k,H,I,rfl,q⟩
theorem zn0:OpR X (compareOp .Eq) rEq:=by
 intro pins s σ H x y v u Q I rx ry h
 obtain ⟨hs,q⟩:=h
 cases x with
 | non=>
  cases rx
  cases y with
  | non=>cases ry;exact PySem.EqNone.eq_none_none (zC I q (by simp))
  | bl j=>cases ry;exact PySem.EqNone.eq_none_bool (zC I q (by simp))
  | int j=>obtain ⟨t',rfl⟩:=ry;exact PySem.EqNone.eq_none_int (zC I q (by simp))
  | str j=>obtain ⟨t',rfl⟩:=ry;exact PySem.EqNone.eq_none_str (zC I q (by simp))
  | _=>exact absurd (show false=true from hs) Bool.false_ne_true
 | bl i=>
  cases rx
  cases y with
  | non=>cases ry;exact PySem.EqNone.eq_bool_none (zC I q (by simp))
  | bl j=>cases ry;exact eq_bool (zC I q zg9)
  | str j=>obtain ⟨t',rfl⟩:=ry;exact PySem.EqMixed.eq_bool_str (zC I q (by simp))
  | _=>exact absurd (show false=true from hs) Bool.false_ne_true
 | int i=>
  obtain ⟨t,rfl⟩:=rx
  cases y with
  | non=>cases ry;exact PySem.EqNone.eq_int_none (zC I q (by simp))
  | int j=>obtain ⟨t',rfl⟩:=ry;exact eq_int (zC I q zeq)
  | str j=>obtain ⟨t',rfl⟩:=ry;exact PySem.EqMixed.eq_int_str (zC I q (by simp))
  | _=>exact absurd (show false=true from hs) Bool.false_ne_true
 | str i=>
  obtain ⟨t,rfl⟩:=rx
  cases y with
  | non=>cases ry;exact PySem.EqNone.eq_str_none (zC I q (by simp))
  | bl j=>cases ry;exact PySem.EqMixed.eq_str_bool (zC I q (by simp))
  | int j=>obtain ⟨t',rfl⟩:=ry;exact PySem.EqMixed.eq_str_int (zC I q (by simp))
  | str j=>obtain ⟨t',rfl⟩:=ry;exact eq_str (zC I q zer)
  | _=>exact absurd (show false=true from hs) Bool.false_ne_true
 | byt i=>
  obtain ⟨t,rfl⟩:=rx
  cases y with
  | byt j=>obtain ⟨t',rfl⟩:=ry;exact PySem.W.eq_bytes (zC I q zep)
  | _=>exact absurd (show false=true from hs) Bool.false_ne_true
 | _=>cases y <;> exact absurd (show false=true from hs) Bool.false_ne_true
theorem zn5:OpR X (compareOp .NotEq) rNe:=by
 intro pins s σ H x y v u Q I rx ry h
 obtain ⟨hs,q⟩:=h
 cases x with
 | non=>
  cases rx
  cases y with
  | non=>cases ry;exact PySem.EqNone.ne_none_none (zC I q (by simp))
  | bl j=>cases ry;exact PySem.EqNone.ne_none_bool (zC I q (by simp))
  | int j=>obtain ⟨t',rfl⟩:=ry;exact PySem.EqNone.ne_none_int (zC I q (by simp))
  | str j=>obtain ⟨t',rfl⟩:=ry;exact PySem.EqNone.ne_none_str (zC I q (by simp))
  | _=>exact absurd (show false=true from hs) Bool.false_ne_true
 | bl i=>
  cases rx
  cases y with
  | non=>cases ry;exact PySem.EqNone.ne_bool_none (zC I q (by simp))
  | bl j=>cases ry;exact ne_bool (zC I q (congrArg not zg9))
  | str j=>obtain ⟨t',rfl⟩:=ry;exact PySem.EqMixed.ne_bool_str (zC I q (by simp))
  | _=>exact absurd (show false=true from hs) Bool.false_ne_true
 | int i=>
  obtain ⟨t,rfl⟩:=rx
  cases y with
  | non=>cases ry;exact PySem.EqNone.ne_int_none (zC I q (by simp))
  | int j=>obtain ⟨t',rfl⟩:=ry;exact ne_int (zC I q (congrArg not zeq))
  | str j=>obtain ⟨t',rfl⟩:=ry;exact PySem.EqMixed.ne_int_str (zC I q (by simp))
  | _=>exact absurd (show false=true from hs) Bool.false_ne_true
 | str i=>
  obtain ⟨t,rfl⟩:=rx
  cases y with
  | non=>cases ry;exact PySem.EqNone.ne_str_none (zC I q (by simp))
  | bl j=>cases ry;exact PySem.EqMixed.ne_str_bool (zC I q (by simp))
  | int j=>obtain ⟨t',rfl⟩:=ry;exact PySem.EqMixed.ne_str_int (zC I q (by simp))
  | str j=>obtain ⟨t',rfl⟩:=ry;exact ne_str (zC I q (congrArg not zer))
  | _=>exact absurd (show false=true from hs) Bool.false_ne_true
 | byt i=>
  obtain ⟨t,rfl⟩:=rx
  cases y with
  | byt j=>obtain ⟨t',rfl⟩:=ry;exact PySem.W.ne_bytes (zC I q (congrArg not zep))
  | _=>exact absurd (show false=true from hs) Bool.false_ne_true
 | _=>cases y <;> exact absurd (show false=true from hs) Bool.false_ne_true
theorem zn4:OpR X (compareOp .Lt) (rI0 fun i j=>.bl (decide (i<j))):=zmN fun _ _ _ _ _ _ _ q=>lt_int q
theorem zn3:OpR X (compareOp .LtE) (rI0 fun i j=>.bl (decide (i<=j))):=zmN fun _ _ _ _ _ _ _ q=>le_int q
theorem zn2:OpR X (compareOp .Gt) (rI0 fun i j=>.bl (decide (j<i))):=zmN fun _ _ _ _ _ _ _ q=>gt_int q
theorem zn1:OpR X (compareOp .GtE) (rI0 fun i j=>.bl (decide (j<=i))):=zmN fun _ _ _ _ _ _ _ q=>ge_int q
theorem zL (b:Expr){op:CmpOp}(h:op≠.In:=by decide)(h2:op≠.NotIn:=by decide):behindInMarks op b=false:=by
 have e1:(op==CmpOp.In)=false:=by cases op <;> first | rfl | exact absurd rfl h
 have e2:(op==CmpOp.NotIn)=false:=by cases op <;> first | rfl | exact absurd rfl h2
 cases b <;> simp [behindInMarks,e1,e2]
theorem zi1 {op:CmpOp}{r:R2}(ho:OpR X (compareOp op) r)(ha:PE X a ta)(hb:PE X b tb)(hm:behindInMarks op b=false):PE X (.Compare a [op] [b] pos) (tOp r ta tb):=by
 intro pins s σ H Q I h
 exact wpAny_Compare1 (zm1 ha hb I h fun v u s2 x y H2 I2 rx ry q=>ho pins s2 σ H2 x y v u Q I2 rx ry q) hm
def zjR (t:TE):TT:=fun σ H Q=>t σ H fun x H'=>∃ k,x = .bl k/\Q k H'
theorem zjm {op:CmpOp}{r:R2}(ho:OpR X (compareOp op) r)(ha:PE X a ta)(hb:PE X b tb)(hm:behindInMarks op b=false):PT X (.Compare a [op] [b] pos) (zjR (tOp r ta tb)):=by
 intro pins s σ H Q I h
 refine wpAny_isTrue_Compare1 (thn (ha pins s σ H _ I h) fun v s1 ⟨x,H1,I1,r1,q1⟩=>thn (hb pins s1 σ H1 _ I1 q1) fun u s2 ⟨y,H2,I2,r2,q2⟩=>
  thn (ho pins s2 σ H2 x y v u _ I2 r1 r2 q2) fun c s3 ⟨z,H3,I3,r3,k,e,q3⟩=>?_) hm
 subst e
 cases r3
 exact wpAny_truthy_bool ⟨H3,I3,q3⟩
theorem zeV:(sizeLine:Nat)<2 ^ 63:=by rw [sizeLine_eq];decide
theorem zb6 {x:V}{us:List Value}(r:zY [x] us):∃ u,us=[u]/\zX x u:=by
 cases r with
 | cons r1 r2=>cases r2;exact ⟨_,rfl,r1⟩
theorem zfJ {x y:V}{us:List Value}(r:zY [x,y] us):∃ u w',us=[u,w']/\zX x u/\zX y w':=by
 cases r with
 | cons r1 r2=>
  cases r2 with
  | cons r3 r4=>cases r4;exact ⟨_,_,rfl,r1,r3⟩
theorem zfT:zaS X (.builtin "abs") (fun xs H Q=>∃ i,xs=[.int i]/\Q (.int (if i<0 then -i else i)) H):=by
 intro pins s σ H xs us Q I r h
 obtain ⟨i,rfl,q⟩:=h
 obtain ⟨u,rfl,t,rfl⟩:=zb6 r
 exact call_abs_int fun u tk=>⟨.int (if i<0 then -i else i),H,I.tok _,⟨_,rfl⟩,q⟩
def zmB (K:PySem.W.Frag)(x:V)(H:Hp)(n:Nat):Prop:=
 match x with
 | .str y=>y.length<=sizeLine/\n=y.length
 | .byt y=>y.size<=sizeLine/\n=y.size
 | .ref p=>(∃ xs,SqL K H p xs/\n=xs.length)\/∃ xs,SqT K H p xs/\n=xs.length
 | _=>False
theorem zfW:zaS X (.builtin "len") (fun xs H Q=>∃ x n,xs=[x]/\zmB X.K x H n/\Q (.int n) H):=by
 intro pins s σ H xs us Q I r h
 obtain ⟨x,n,rfl,e,q⟩:=h
 obtain ⟨u,rfl,rx⟩:=zb6 r
 have hl:=zeV
 have hs:sizeLine=16777216:=sizeLine_eq
 cases x with
 | str y=>
  obtain ⟨t,rfl⟩:=rx
  obtain ⟨hy,e'⟩:y.length<=sizeLine/\n=y.length:=e
  subst e'
  exact len_str (by lia) ⟨.int _,H,I.tok _,⟨_,rfl⟩,q⟩
 | byt y=>
  obtain ⟨t,rfl⟩:=rx
  obtain ⟨hy,e'⟩:y.size<=sizeLine/\n=y.size:=e
  subst e'
  exact PySem.W.len_bytes (by lia) ⟨.int _,H,I.tok _,⟨_,rfl⟩,q⟩
 | ref p=>
  cases rx
  have e':(∃ xs,SqL X.K H p xs/\n=xs.length)\/∃ xs,SqT X.K H p xs/\n=xs.length:=e
  rcases e' with ⟨xs,hx,e'⟩ | ⟨xs,hx,e'⟩
  ·subst e'
   obtain ⟨its,r',pl,hz⟩:=I.list hx
   have hlen:=r'.length
   exact Calls.call_len_list pl.isList (by simp only [List.size_toArray];lia) ⟨.int xs.length,H,I.tok _,⟨_,by simp only [List.size_toArray];rw [hlen]⟩,q⟩
  ·subst e'
   obtain ⟨its,r',pl,hz⟩:=I.tuple hx
   have hlen:=r'.length
   exact len_tuple pl (by simp only [List.size_toArray];lia) ⟨.int xs.length,H,I.tok _,⟨_,by simp only [List.size_toArray];rw [hlen]⟩,q⟩
 | _=>exact (show False from e).elim
end
structure ObjM (h:Heap)(x dx C:Addr)(mA:Str->Option Value):Prop where
 obj:h.get? x=some (PySem.W.instObj C dx)
 ns:h.Ns1 dx mA
 ne:dx≠x
theorem zeW {h:Heap}{dx:Addr}{mA:Str->Option Value}(n:h.Ns1 dx mA):∃ od,h.get? dx=some od/\∀ name,PySem.W.lookIn name od=some (mA name):=by
 obtain ⟨o,es,ep,ho,hd,hk,_,hm⟩:=n
 refine ⟨o,ho,fun name=>?_⟩
 have e:=hm name
 unfold nsFind findBy at e
 rw [<- Array.find?_toList] at e
 unfold PySem.W.lookIn
 rw [hd]
 dsimp only
 split
 ·simp_all
 ·rename_i q
  rw [q] at e
  have a:es.toList.any (·.refKey)=false:=by
   rw [List.any_eq_false]
   intro y hy
   obtain ⟨z,t,hkey⟩:=hk y (Array.mem_toList_iff.mp hy)
   simp [DictEntry.refKey,hkey]
  grind
theorem ObjM.look {h:Heap}{x dx C:Addr}{mA:Str->Option Value}(I:ObjM h x dx C mA):∃ od,PySem.W.InstAt h x (PySem.W.instObj C dx) C (some od)/\∀ name,PySem.W.lookIn name od=some (mA name):=
 let ⟨od,ho,hl⟩:=zeW I.ns
 ⟨od,⟨I.obj,rfl,rfl,ho⟩,hl⟩
section
variable {prog:Program}{w:World}{A:Around}{E:Value->Shared->Prop}{s:Shared}{K:PySem.W.Frag}{x dx C f:Addr}{mA:Str->Option Value}{name:Str}{v:Value}
end
theorem zd5.some_of {v:V}{o:Option Value}(r:zd5 (some v) o):∃ u,o=some u/\zX v u:=by
 cases o with
 | none=>exact (show False from r).elim
 | some u=>exact ⟨u,rfl,r⟩
section
variable {P:Program}{w:World}{H H':Hp}{h h':Heap}{a C dx:Addr}{fs fs':List (Str×V)}
theorem zib (hok:HOk P w H h)(e:H a=some (.ins C dx fs)):∃ mA,ObjM h a dx C mA/\(∀ f,zd5 (fs.lookup f) (mA f))/\PySem.Within mA (fs.map (·.1))/\fs.length<=1000/\H dx=some (.own a):=by
 obtain ⟨d,z,ne,ob,mA,n,r,q⟩:=(show zG P w H h a (.ins C dx fs) from hok a _ e)
 exact ⟨mA,⟨ob,n,ne⟩,r,q,z,d⟩
end
structure Cls (K:PySem.W.Frag)(C:Addr):Prop where
 pg:PySem.W.plainGet K C Str.empty=true
 hd:PySem.W.hasDictIn K C=true
 po:PySem.W.plainOver K C=true
 sa:PySem.W.findIn K (.ref C) "__setattr__" = some (some (.builtin "object.__setattr__"))
theorem Cls.get {K:PySem.W.Frag}{C:Addr}(c:Cls K C)(f:Str):PySem.W.plainGet K C f=true:=c.pg
section
variable {X:Cx}{pins:List (Addr×Obj)}{σ:St}{H:Hp}{s:Shared}{a C dx:Addr}{fs:List (Str×V)}{f:Str}{v:V}{A:Around}{E:Value->Shared->Prop}
end
section
variable {X:Cx}{o e value:Expr}{f:Str}{pos pos' tpos:Pos}{ta tv:TE}
end
section
variable {X:Cx}{pins:List (Addr×Obj)}{σ:St}{H:Hp}{s:Shared}{A:Around}{E:Value->Shared->Prop}{Q:Value->Shared->Prop}{c:Value}{b:Bool}
inductive TyOf (K:PySem.W.Frag) (H:Hp):V->Value->Prop where
 | non:TyOf K H .non (.type "NoneType")
 | bl (x:Bool):TyOf K H (.bl x) (.type "bool")
 | int (i:Int):TyOf K H (.int i) (.type "int")
 | str (x:Str):TyOf K H (.str x) (.type "str")
 | flt (x:UInt64):TyOf K H (.flt x) (.type "float")
 | lst {a:Addr} {xs:List V} (e:H a=some (.lst xs)):TyOf K H (.ref a) (.type "list")
 | frz {a:Addr} {o:Obj} {xs:List V} (e:H a=some (.frz o (.lst xs))):TyOf K H (.ref a) (.type "list")
 | tup {a:Addr} {xs:List V} (e:H a=some (.tup xs)):TyOf K H (.ref a) (.type "tuple")
 | dK {a:Addr} {kvs:List (Key×V)} (e:H a=some (.dK kvs)):TyOf K H (.ref a) (.type "dict")
 | dT {a:Addr} {kvs:List (List Key×V)} (e:H a=some (.dT kvs)):TyOf K H (.ref a) (.type "dict")
 | ins {a C dx:Addr} {fs:List (Str×V)} (e:H a=some (.ins C dx fs)) (cl:Cls K C) (ha:PySem.W.findIn K (.ref C) "__class__" = some (some (.builtin "object.__class__")))
   (hn:PySem.W.specialIn K (.builtin "object.__class__") "__get__" = some (some (.builtin "getset_descriptor.__get__"))) (htk:PySem.W.takesIn K (.builtin "object.__class__")=some true)
   (hm:PySem.W.mroIn K C (.type "object")=some true):TyOf K H (.ref a) (.ref C)
theorem zeJ {x:V}{u t:Value}(I:Inv X pins σ H s)(rx:zX x u)(ty:TyOf X.K H x t)(e:PySem.W.kitOne X.K t c=some b)(h:∀ tk,Q (.bool b) { s with toks:=tk }) :
  wpAny (model X.prog X.w) A (call (.builtin "isinstance") [u,c]) Q E s:=by
 cases ty with
 | non=>cases (show u=Value.none from rx);exact PySem.W.kia_one PySem.W.kitx_none I.kIn True.intro e (fun z=>nomatch z) h
 | bl y=>cases (show u=Value.bool y from rx);exact PySem.W.kia_one PySem.W.kitx_bool I.kIn True.intro e (fun z=>nomatch z) h
 | int i=>obtain ⟨t,q⟩:=(show ∃ t,u=Value.int i t from rx);cases q;exact PySem.W.kia_one PySem.W.kitx_int I.kIn True.intro e (fun z=>nomatch z) h
 | str y=>obtain ⟨t,q⟩:=(show ∃ t,u=Value.str y t from rx);cases q;exact PySem.W.kia_one PySem.W.kitx_str I.kIn True.intro e (fun z=>nomatch z) h
 | flt y=>obtain ⟨t,q⟩:=(show ∃ t,u=Value.float y t from rx);cases q;exact PySem.W.kia_one PySem.W.kitx_float I.kIn True.intro e (fun z=>nomatch z) h
 | @lst a xs ea=>
  cases (show u=Value.ref a from rx)
  obtain ⟨_,_,n,_,h1⟩:=(show zG X.prog X.w H s.heap a (.lst xs) from I.hok a _ ea)
  exact PySem.W.kia_one PySem.W.kitx_list I.kIn ⟨_,h1,rfl⟩ e (fun z=>nomatch z) h
 | @frz a ob xs ea=>
  cases (show u=Value.ref a from rx)
  obtain ⟨_,_,_,n,_,h1⟩:=(show zG X.prog X.w H s.heap a (.frz ob (.lst xs)) from I.hok a _ ea)
  exact PySem.W.kia_one PySem.W.kitx_list I.kIn ⟨_,h1,rfl⟩ e (fun z=>nomatch z) h
 | @tup a xs ea=>
  cases (show u=Value.ref a from rx)
  obtain ⟨_,_,_,p⟩:=(show zG X.prog X.w H s.heap a (.tup xs) from I.hok a _ ea)
  obtain ⟨o,h1,h2,_⟩:=p
  exact PySem.W.kia_one PySem.W.kitx_tuple I.kIn ⟨o,h1,h2⟩ e (fun z=>nomatch z) h
 | @dK a kvs ea=>
  cases (show u=Value.ref a from rx)
  obtain ⟨_,_,vs,_,p⟩:=(show zG X.prog X.w H s.heap a (.dK kvs) from I.hok a _ ea)
  obtain ⟨o,es,ep,h1,h2,_⟩:=p
  exact PySem.W.kia_one PySem.W.kitx_dict I.kIn ⟨o,h1,h2.1⟩ e (fun z=>nomatch z) h
 | @dT a kvs ea=>
  cases (show u=Value.ref a from rx)
  obtain ⟨_,_,xs,_,o,es,ep,h1,h2,_⟩:=(show zG X.prog X.w H s.heap a (.dT kvs) from I.hok a _ ea)
  exact PySem.W.kia_one PySem.W.kitx_dict I.kIn ⟨o,h1,h2.1⟩ e (fun z=>nomatch z) h
 | @ins a C dx fs ea cl ha hn htk hm=>
  cases (show u=Value.ref a from rx)
  obtain ⟨mA,O,_⟩:=zib I.hok ea
  obtain ⟨od,J,_⟩:=O.look
  exact PySem.W.kia_one (PySem.W.kitx_own (cl.get _) cl.hd ha hn htk hm) I.kIn J e (fun z=>nomatch z) h
end
structure Room (k:Nat)(A:Around):Prop where
 hd:A.handled=none
 dp:A.depth+3 * k+5<recursionLimit
 un:A.units+16 * k+200<cLine
 gd:A.guards=some []:=by rfl
theorem Room.mono {j k:Nat}{A:Around}(r:Room k A)(h:j<=k):Room j A:=⟨r.hd,by have:=r.dp;lia,by have:=r.un;lia,r.gd⟩
theorem Room.deeper {k:Nat}{A:Around}(r:Room (k+1) A)(env:Env):Room k (A.deeper env):=
 ⟨r.hd,by have:=r.dp;show A.depth+1+3 * k+5<_;lia,by have:=r.un;show A.units+3+16 * k+200<_;lia,r.gd⟩
theorem Room.depth {k:Nat}{A:Around}(r:Room k A):A.depth<recursionLimit:=by have:=r.dp;lia
theorem Room.units {k:Nat}{A:Around}(r:Room k A):A.units+64<cLine:=by have:=r.un;lia
def zjZ:TA:=fun _ H Q=>Q [] H
def zc2 (ta:TE)(tr:TA):TA:=fun σ H Q=>ta σ H fun x H1=>tr σ H1 fun xs H2=>Q (x::xs) H2
section
variable {X:Cx}{e:Expr}{es:List Expr}{te:TE}{t:TA}{pos:Pos}
theorem zlf:PA X [] zjZ:=fun _ _ _ _ H Q I h=>Calls.spliced_nil ⟨[],H,I,.nil,h⟩
theorem ziZ (ha:PE X e te)(hr:PA X es t)(hs:starEach (e::es) X.env=(false,eval e X.env)::starEach es X.env:=by rfl):PA X (e::es) (zc2 te t):=by
 intro pos pins s σ H Q I h
 rw [hs]
 show wpAny _ _ (spliced ((false,eval e X.env)::backTo pos (starEach es X.env))) _ _ s
 refine Calls.spliced_cons (thn (ha pins s σ H _ I h)  ?_)
 rintro u s1 ⟨x,H1,I1,r1,q1⟩
 exact thn (hr pos pins s1 σ H1 _ I1 q1) <| by rintro us s2 ⟨xs,H2,I2,r2,q2⟩;exact ⟨x::xs,H2,I2,.cons r1 r2,q2⟩
def tTup (t:TA):TE:=fun σ H Q=>t σ H fun xs H1=>xs.length<=sizeLine/\∀ p,H1 p=none->Q (.ref p) (upd H1 p (.tup xs))
theorem zlp {x1}(h:PA X es t):PE X (.Tuple es x1 pos) (tTup t):=by
 intro pins s σ H Q I hq
 refine wpAny_Tuple_spliced (thn (h pos pins s σ H _ I hq) fun us s1 ⟨xs,H1,I1,r,z,q⟩=>⟨by rw [<- r.length];exact z,?_⟩)
 have hf:H1 s1.heap.objs.size=none:=I1.hok.fresh (Nat.le_refl _)
 refine ⟨.ref s1.heap.objs.size,upd H1 s1.heap.objs.size (.tup xs),I1.laid (t':=s1.toks) (fun b u e=>Heap.get?_push_of_some _ e) (Nat.le_refl _) ?_,rfl,q _ hf⟩
 exact ⟨z,us,r,⟨_,Heap.get?_push_size _ rfl,rfl,⟨_,rfl⟩,rfl⟩⟩
end
abbrev Sp:=List V->Hp->VK->XK->Prop
abbrev CXT:=List Env->Hp->Shared->XK->Value->Shared->Prop
structure Env0 (P:Program)(w:World)(K:PySem.W.Frag)(mg:Str->Option Value)(base:Heap)(A:Around)(outer:List Env)(s:Shared)(H:Hp):Prop where
 frames:A.frames=some outer
 mod:Mod K mg base
 bs:∀ b o,base.get? b=some o->s.heap.get? b=some o/\H b=none
 bsz:base.objs.size<=s.heap.objs.size
 funs:s.heap.FunFrames base outer
 frf:∀ b∈frs outer,H b=none
 hok:HOk P w H s.heap
 bare:AllBare s.gens
def CE (outer:List Env)(P:Program)(w:World)(H:Hp)(s:Shared)(Q:VK)(u:Value)(s':Shared):Prop:=
 ∃ v H',s'.os=s.os/\AllBare s'.gens/\Un (frs outer) [] H H' s.heap s'.heap/\HOk P w H' s'.heap/\zX v u/\Q v H'
def CR (CX:CXT)(outer:List Env)(P:Program)(w:World)(H:Hp)(s:Shared)(Q:VK)(E:XK)(r:Result)(s':Shared):Prop:=
 match r with
 | .ok (.ret u)=>CE outer P w H s Q u s'
 | .ok _=>False
 | .error e=>CX outer H s E e s'
structure FnOk (P:Program)(w:World)(K:PySem.W.Frag)(mg:Str->Option Value)(base:Heap)(CX:CXT)(k:Nat)(f:Addr)(fd:FuncData)(ps:List Str)(sp:Sp):Prop where
 len:∀ vs H Q E,sp vs H Q E->vs.length=ps.length
 run:∀ (A:Around) (outer:List Env) (s:Shared) (H:Hp) (args:Args) (us:List Value) (vs:List V) (Q:VK) (E:XK),Room k A->Env0 P w K mg base A outer s H->BindsTo s fd args (ps.zip us)->zY vs us->sp vs H Q E->
  codeAny (model P w) A (.call (.ref f) args) (CR CX outer P w H s Q E) s
theorem FnOk.mono {P:Program}{w:World}{K:PySem.W.Frag}{mg:Str->Option Value}{base:Heap}{CX:CXT}{j k:Nat}{f:Addr}{fd:FuncData}{ps:List Str}{sp:Sp}(F:FnOk P w K mg base CX j f fd ps sp)(h:j<=k) :
  FnOk P w K mg base CX k f fd ps sp:=⟨F.len,fun A outer s H args us vs Q E hr=>F.run A outer s H args us vs Q E (hr.mono h)⟩
theorem FnOk.imp {P:Program}{w:World}{K:PySem.W.Frag}{mg:Str->Option Value}{base:Heap}{CX:CXT}{k:Nat}{f:Addr}{fd:FuncData}{ps:List Str}{sp sp':Sp}(F:FnOk P w K mg base CX k f fd ps sp)
  (h:∀ vs H Q E,sp' vs H Q E->sp vs H Q E):FnOk P w K mg base CX k f fd ps sp':=
 ⟨fun vs H Q E q=>F.len vs H Q E (h _ _ _ _ q),fun A outer s H args us vs Q E hr he hb hv hs=>F.run A outer s H args us vs Q E hr he hb hv (h _ _ _ _ hs)⟩
section
variable {X:Cx}{pins:List (Addr×Obj)}{σ:St}{H:Hp}{s s':Shared}
theorem Inv.env0 (I:Inv X pins σ H s):Env0 X.prog X.w X.K X.mg X.base X.A X.stack s H:=
 ⟨I.ok.frames,I.ok.mod,I.bs,Nat.le_trans I.ok.bsz I.sz,I.stack,I.stkFree,I.hok,I.bare⟩
theorem Inv.after {Q:VK}{u:Value}(I:Inv X pins σ H s)(h:CE X.stack X.prog X.w H s Q u s'):EP X pins σ Q u s':=by
 obtain ⟨v,H',os,bare,un,hok,r,q⟩:=h
 obtain ⟨hh,g,d,t,os'⟩:=s'
 obtain rfl:os'=s.os:=os
 exact ⟨v,H',I.call (h':=hh) (g':=g) (d':=d) (t':=t) (ch:=[]) un hok bare (fun b z=>absurd z (by simp)),r,q⟩
end
def zc1 (sp:Sp)(dvs:List V)(E:XK)(t:TA):TE:=fun σ H Q=>t σ H fun vs H1=>sp (vs++dvs) H1 Q E
def zca (K:PySem.W.Frag)(fd:FuncData)(ps:List Str)(ds:List Value):Prop:=
 ∀ (s:Shared) (us:List Value),K.In s.heap->(us++ds).length=ps.length->BindsTo s fd ⟨us,[]⟩ (ps.zip (us++ds))
theorem zca.all {K:PySem.W.Frag}{fd:FuncData}{ps:List Str}(h:∀ us:List Value,us.length=ps.length->bindArgs fd ⟨us,[]⟩=pure (ps.zip us)):zca K fd ps []:=fun s us _ hl=>by
 rw [List.append_nil] at hl ⊢
 exact .of_eq (h us hl)
def zc5 (CX:CXT)(X:Cx)(E:XK):Prop:=∀ (pins:List (Addr×Obj)) (σ:St) (H:Hp) (s:Shared) (e:Value) (s':Shared),Inv X pins σ H s->CX X.stack H s E e s'->X.xe e s'
section
variable {X:Cx}{CX:CXT}{k:Nat}{f C:Addr}{fd:FuncData}{ps:List Str}{sp:Sp}{dvs:List V}{ds:List Value}{E:XK}{x m:Str}{p pos apos:Pos}{e o:Expr}{es:List Expr}{ta:TE}{t:TA}
theorem zl6 {pins:List (Addr×Obj)}{σ:St}{H:Hp}{s:Shared}{Q:VK}{us:List Value}{vs:List V}(F:FnOk X.prog X.w X.K X.mg X.base CX k f fd ps sp)(hr:Room k X.A)(hb:zca X.K fd ps ds)(hd:zY dvs ds)(hx:zc5 CX X E)
  (I:Inv X pins σ H s) (r:zY vs us) (h:sp (vs++dvs) H Q E):wpAny (model X.prog X.w) X.A (call (.ref f) us) (EP X pins σ Q) X.xe s:=by
 have r2:zY (vs++dvs) (us++ds):=r.append hd
 have hl:(us++ds).length=ps.length:=by rw [<- r2.length];exact F.len _ _ _ _ h
 refine wpAny_call (codeAny_mono (F.run X.A X.stack s H ⟨us,[]⟩ (us++ds) (vs++dvs) Q E hr I.env0 (hb s us I.kIn hl) r2 h) fun r s' hq=>?_)
 cases r with
 | error e=>exact hx pins σ H s e s' I hq
 | ok fl=>
  cases fl with
  | ret u=>exact I.after hq
  | next=>exact False.elim hq
  | brk=>exact False.elim hq
  | cont=>exact False.elim hq
theorem zcO (F:FnOk X.prog X.w X.K X.mg X.base CX k f fd ps sp)(hr:Room k X.A)(hg:Gl X x)(hm:X.mg x=some (.ref f))(hk:PySem.W.keepIn X.K (.ref f)=true)(hb:zca X.K fd ps ds)(hd:zY dvs ds)(hx:zc5 CX X E)
  (ha:PA X (e::es) t) (hdb:(x==("__debug__" : Str))=false:=by decide) (he:starEach (e::es) X.env=(false,eval e X.env)::starEach es X.env:=by rfl) (hpl:(backTo pos (starEach es X.env)).any (·.1)=false:=by rfl) :
  PE X (.Call (.Name x p) (e::es) [] pos) (zc1 sp dvs E t):=by
 intro pins s σ H Q I h
 refine wpAny_Call_Name_kw (za0 I hg hm ?_ hdb)
 refine PySem.W.callWith_K (h₀:=X.base) I.ok.mod.kin hk (thn (ha pos pins s σ H _ I h) fun us s1 ⟨vs,H1,I1,r,q⟩=>⟨I1.kIn,?_⟩) he hpl
 exact zl6 F hr hb hd hx I1 r q
end
section
variable {X:Cx}{CX:CXT}{k:Nat}{f C:Addr}{fd:FuncData}{ps ks:List Str}{sp:Sp}{E:XK}{x m:Str}{p pos apos kpos:Pos}{e o:Expr}{es:List Expr}{kws:List Keyword}{te ta:TE}{t tk:TA}{nm:Option Str}
variable {g:List Value->List Value->List Value}{gV:List V->List V->List V}
end
structure FnScope (N P:List Str)(sc:Scope):Prop where
 kind:sc.kind = .function
 co:sc.isCoroutine=false
 gen:sc.isGenerator=false
 nd:N.Nodup
 pre:N.take P.length=P
 par:∀ x∈P,sc.names.lookup x=some .local\/sc.names.lookup x=some .cell
 nofree:∀ y∈sc.names,y.2≠.free
theorem zby {kindOf:Str->Option NameKind}{x:Str}:∀ {binds:List (Str×Value)} {m:Str->Option Value},(∀ v,(x,v)∉binds)->bindL kindOf binds m x=m x
 | [],_,_=>rfl
 | (n,v)::r,m,h=>by
  unfold bindL
  rw [zby fun w hw=>h w (List.mem_cons_of_mem _ hw)]
  split
  all_goals grind
theorem zbw {kindOf:Str->Option NameKind}{x:Str}:∀ {binds:List (Str×Value)} {m:Str->Option Value},(∀ v,(x,v)∉binds)->bindC kindOf binds m x=m x
 | [],_,_=>rfl
 | (n,v)::r,m,h=>by
  unfold bindC
  rw [zbw fun w hw=>h w (List.mem_cons_of_mem _ hw)]
  split
  all_goals grind
theorem zbx {kindOf:Str->Option NameKind}{x:Str}{v:Value}:∀ {P:List Str} {vs:List Value} {i:Nat} {m:Str->Option Value},P.Nodup->P[i]?=some x->vs[i]?=some v->kindOf x=some .local->
  bindL kindOf (P.zip vs) m x=some v
 | [],_,_,_,_,h,_,_=>by simp at h
 | _::_,[],_,_,_,_,h,_=>by simp at h
 | p::P,w::vs,0,m,nd,h1,h2,hk=>by
  simp at h1 h2;subst h1;subst h2
  show bindL kindOf ((p,w)::P.zip vs) m p=_
  unfold bindL
  rw [zby fun v hv=>(List.nodup_cons.mp nd).1 (List.of_mem_zip hv).1,if_pos hk]
  simp
 | p::P,w::vs,i+1,m,nd,h1,h2,hk=>by
  show bindL kindOf ((p,w)::P.zip vs) m x=_
  unfold bindL
  exact zbx (i:=i) (List.nodup_cons.mp nd).2 (by simpa using h1) (by simpa using h2) hk
theorem zbv {kindOf:Str->Option NameKind}{x:Str}{v:Value}:∀ {P:List Str} {vs:List Value} {i:Nat} {m:Str->Option Value},P.Nodup->P[i]?=some x->vs[i]?=some v->kindOf x≠some .local->
  bindC kindOf (P.zip vs) m x=some v
 | [],_,_,_,_,h,_,_=>by simp at h
 | _::_,[],_,_,_,_,h,_=>by simp at h
 | p::P,w::vs,0,m,nd,h1,h2,hk=>by
  simp at h1 h2;subst h1;subst h2
  show bindC kindOf ((p,w)::P.zip vs) m p=_
  unfold bindC
  rw [zbw fun v hv=>(List.nodup_cons.mp nd).1 (List.of_mem_zip hv).1,if_neg hk]
  simp
 | p::P,w::vs,i+1,m,nd,h1,h2,hk=>by
  show bindC kindOf ((p,w)::P.zip vs) m x=_
  unfold bindC
  exact zbv (i:=i) (List.nodup_cons.mp nd).2 (by simpa using h1) (by simpa using h2) hk
def yt (N:List Str)(vs:List V):St:=vs.map some++List.replicate (N.length - vs.length) none
def uP (CX:CXT)(P:Program)(w:World)(K:PySem.W.Frag)(mg:Str->Option Value)(base:Heap)(N:List Str)(qual:Str)(scope:Scope)(f:Addr)(cd:Value)(A:Around)(outer:List Env)(s:Shared)(H:Hp)(E:XK):Cx where
 prog:=P
 w:=w
 K:=K
 mg:=mg
 base:=base
 A:=A.deeper (envOfC qual scope s.heap.objs.size f cd)
 N:=N
 s₀:=s
 H₀:=H
 env:=envOfC qual scope s.heap.objs.size f cd
 outer:=outer
 stack:=envOfC qual scope s.heap.objs.size f cd::outer
 ex:=[]
 calm:=true
 fn:=fun _=>true
 pn:=[]
 xe:=fun e s'=>wpAny (model P w) (A.deeper (envOfC qual scope s.heap.objs.size f cd)) (leaving (envOfC qual scope s.heap.objs.size f cd) e) (fun _ s''=>CX outer H s E e s'') (fun e' s''=>CX outer H s E e' s'') s'
theorem zda {sc:Scope}{n:Nat}{x:Str}(h:sc.names.lookup x=some .cell):∃ c,(cellsFrom n sc.names []).lookup x=some c:=by
 have q:=PySem.W.cellsFrom_some sc.names n [] (.inl h)
 exact Option.isSome_iff_exists.mp q
theorem zbF {CX:CXT}{P:Program}{w:World}{K:PySem.W.Frag}{mg:Str->Option Value}{base:Heap}{N ps:List Str}{qual:Str}{scope:Scope}{f:Addr}{cd:Value}{A:Around}{outer:List Env}{s s1:Shared}{H:Hp}{E:XK}{us:List Value}{vs:List V}
  (S:FnScope N ps scope) (hd:A.handled=none) (e0:Env0 P w K mg base A outer s H) (hl:vs.length=ps.length) (r:zY vs us)
  (x:InCallC s s.heap.objs.size (bindL (envOfC qual scope s.heap.objs.size f cd).kindOf (ps.zip us) fun _=>none) (cellsFrom (s.heap.objs.size+1) scope.names []) (bindC (envOfC qual scope s.heap.objs.size f cd).kindOf (ps.zip us) fun _=>none) s1) :
  Inv (uP CX P w K mg base N qual scope f cd A outer s H E) [] (yt N vs) H s1:=by
 have hpl:ps.length<=N.length:=by have:=congrArg List.length S.pre;rw [List.length_take] at this;lia
 obtain ⟨h1,tk,rfl,hk⟩:=x.done
 have noA:∀ b:Addr,b∉(uP CX P w K mg base N qual scope f cd A outer s H E).ex:=fun b z=>absurd (show b∈([]:List Addr) from z) (by simp)
 refine ⟨⟨e0.mod,S.kind,rfl,rfl,Nat.le_refl _,fun y z c h1 h2=>?_,fun y hy=>?_,fun y c _ h=>?_,fun _=>hd,Around.frames_deeper e0.frames,.inr ⟨rfl,rfl⟩,fun b z=>absurd z (noA b),e0.bs,e0.bsz,fun b _ _=>noA b,fun b z=>absurd z (noA b),e0.funs,e0.frf⟩,
  rfl,e0.bare,Un.kept hk,⟨_,x.toInCall.ns,fun i y v h1 h2 h3=>?_⟩,fun y c h=>⟨_,x.cell y c h⟩,e0.hok.fresh (Nat.le_refl _),fun y c h=>?_,fun p hp=>absurd (show p∈([]:List (Addr×Obj)) from hp) (by simp),e0.hok.kept hk,?_⟩
 ·exact name_of_addr x.apart (PySem.mem_of_lookup h1) (PySem.mem_of_lookup h2)
 ·have hy:scope.names.lookup y=some .cell\/scope.names.lookup y=some .free:=hy
  rcases hy with hy | hy
  ·exact zda hy
  ·exact absurd rfl (S.nofree _ (PySem.mem_of_lookup hy))
 ·exact Nat.le_of_lt (x.above y c (PySem.mem_of_lookup h))
 ·have hi:i<vs.length:=by
   unfold yt at h2
   by_cases hi:i<vs.length
   ·exact hi
   ·rw [List.getElem?_append_right (by simpa using hi)] at h2
    rw [List.getElem?_replicate] at h2
    simp_all
  have ha:vs[i]?=some v:=by
   unfold yt at h2
   rw [List.getElem?_append_left (by simpa using hi),List.getElem?_map] at h2
   simp_all
  obtain ⟨u,hu,rv⟩:=r.get ha
  have hp:ps[i]?=some y:=by
   rw [<- S.pre,List.getElem?_take_of_lt (by lia)];exact h1
  have ndP:ps.Nodup:=by rw [<- S.pre];exact S.nd.sublist (List.take_sublist _ _)
  refine ⟨u,rv,?_⟩
  rcases S.par y (List.mem_of_getElem? hp) with k | k
  ·exact .inl ⟨k,zbx ndP hp hu k⟩
  ·obtain ⟨c,e⟩:=zda (n:=s.heap.objs.size+1) k
   refine .inr ⟨.inl k,c,e,?_⟩
   have q:=x.cell y c e
   rw [zbv ndP hp hu (by show scope.names.lookup y≠_;rw [k];decide)] at q
   exact q
 ·exact e0.hok.fresh (Nat.le_of_lt (x.above y c (PySem.mem_of_lookup h)))
 ·unfold yt
  show _=N.length
  grind
theorem zhX {CX:CXT}{P:Program}{w:World}{K:PySem.W.Frag}{mg:Str->Option Value}{base:Heap}{k:Nat}{f:Addr}{name qual:Str}{params:Arguments}{body:List Stmt}{scope:Scope}{dV kV doc pm cdv ct oc:Value}{an od:Option Addr}
  {osl:Array (Option Value)} {N ps:List Str} {sp:Sp} (lk:K.lookup f=some ⟨oc,od,.func (PySem.W.fnOf name qual params body scope dV kV doc pm an cdv ct),osl⟩) (hcd:PySem.W.codeIn K cdv qual=true) (S:FnScope N ps scope)
  (len:∀ vs H Q E,sp vs H Q E->vs.length=ps.length)
  (hbody:∀ (A:Around) (outer:List Env) (s:Shared) (H:Hp) (vs:List V) (Q:VK) (E:XK),Room k (A.deeper (envOfC qual scope s.heap.objs.size f cdv))->sp vs H Q E->
   ∃ t,PSs (uP CX P w K mg base N qual scope f cdv A outer s H E) body t/\t { nx:=fun _ H'=>Q .non H',rt:=Q } (yt N vs) H) :
  FnOk P w K mg base CX (k+1) f (PySem.W.fnOf name qual params body scope dV kV doc pm an cdv ct) ps sp:=by
 refine ⟨len,fun A outer s H args us vs Q E hr e0 hb r hsp=>?_⟩
 have hl:=len _ _ _ _ hsp
 have KX:K.In s.heap:=e0.mod.kin.keeps fun b o e=>(e0.bs b o e).1
 have lim:s.heap.NoLimit:=e0.mod.nolimit.keeps fun b o e=>(e0.bs b o e).1
 have hkind:∀ y∈ps.zip us,scope.names.lookup y.1=some .local\/(scope.names.lookup y.1=some .cell/\((cellsFrom (s.heap.objs.size+1) scope.names []).lookup y.1).isSome=true):=by
  rintro ⟨n,v⟩ hy
  rcases S.par n (List.of_mem_zip hy).1 with q | q
  ·exact .inl q
  ·exact .inr ⟨q,PySem.W.cellsFrom_some _ _ _ (.inl q)⟩
 refine codeAny_call_function hr.depth (KX _ _ lk) rfl S.co S.gen rfl (PySem.W.codeRec_of KX hcd) (hb _ _ _ _ ?_)
 refine wpAny_newFunctionEnv_cells S.kind hkind fun env he s1 x=>?_
 subst he
 refine ⟨lim.keeps x.toInCall.keep,codeAny_func ?_⟩
 obtain ⟨t,ht,hq⟩:=hbody A outer s H vs Q E (hr.deeper _) hsp
 have I:Inv (uP CX P w K mg base N qual scope f cdv A outer s H E) [] (yt N vs) H s1:=zbF S hr.hd e0 hl r x
 refine wpAny_mono (ht [] s1 (yt N vs) H _ I hq) (fun fl s' hs=>?_) fun e s' hs=>hs
 have fin:∀ {σ':St} {H':Hp} {v:V} {u:Value},Inv (uP CX P w K mg base N qual scope f cdv A outer s H E) [] σ' H' s'->zX v u->Q v H'->CE outer P w H s Q u s':=
  fun {σ' H' v u} J rv q=>⟨v,H',J.os,J.bare,J.base,J.hok,rv,q⟩
 cases fl with
 | ret u=>
  obtain ⟨v,σ',H',J,rv,q⟩:=hs
  exact fin J rv q
 | next=>
  obtain ⟨σ',H',J,q⟩:=hs
  exact fin (v:=V.non) (u:=Value.none) J rfl q
 | brk=>
  obtain ⟨_,_,_,q⟩:=hs
  exact False.elim q
 | cont=>
  obtain ⟨_,_,_,q⟩:=hs
  exact False.elim q
section
variable {X:Cx}{x:Str}{p pos:Pos}{e:Expr}{es:List Expr}{t:TA}{id T:String}{r:List V->Hp->VK->Prop}
def tCB (r:List V->Hp->VK->Prop)(t:TA):TE:=fun σ H Q=>t σ H fun vs H1=>r vs H1 Q
theorem zgA (hc:zaS X (.builtin id) r)(hg:Gl X x)(hm:X.mg x=none)(hv:bootBuiltins x=some (.builtin id))(ha:PA X (e::es) t)(hn:x ≠ "__name__" := by decide)(hdb:(x==("__debug__" : Str))=false:=by decide)
  (he:starEach (e::es) X.env=(false,eval e X.env)::starEach es X.env:=by rfl) (hpl:(backTo pos (starEach es X.env)).any (·.1)=false:=by rfl):PE X (.Call (.Name x p) (e::es) [] pos) (tCB r t):=by
 intro pins s σ H Q I h
 refine wpAny_Call_Name_kw (uX I hg hm hv ?_ hn hdb)
 exact PyProof.Rows.callWith_builtin1 (thn (ha pos pins s σ H _ I h) <| by rintro us s1 ⟨vs,H1,I1,r1,q1⟩;exact hc pins s1 σ H1 vs us Q I1 r1 q1) he hpl
theorem ze8 (hc:zaS X (.type T) r)(hg:Gl X x)(hm:X.mg x=none)(hv:bootBuiltins x=some (.type T))(ha:PA X (e::es) t)(hn:x ≠ "__name__" := by decide)(hdb:(x==("__debug__" : Str))=false:=by decide)
  (he:starEach (e::es) X.env=(false,eval e X.env)::starEach es X.env:=by rfl) (hpl:(backTo pos (starEach es X.env)).any (·.1)=false:=by rfl):PE X (.Call (.Name x p) (e::es) [] pos) (tCB r t):=by
 intro pins s σ H Q I h
 refine wpAny_Call_Name_kw (uX I hg hm hv ?_ hn hdb)
 exact PyProof.Rows.callWith_type1 (thn (ha pos pins s σ H _ I h) <| by rintro us s1 ⟨vs,H1,I1,r1,q1⟩;exact hc pins s1 σ H1 vs us Q I1 r1 q1) he hpl
end
section
variable {κ:Type}[DecidableEq κ]
def uH (kvs:List (κ×V))(k:κ):Option V:=(kvs.find? fun kv=>decide (kv.1=k)).map (·.2)
def zaL (kvs:List (κ×V))(k:κ)(v:V):List (κ×V):=
 if (kvs.any fun kv=>decide (kv.1=k))=true then kvs.map (fun kv=>if kv.1=k then (kv.1,v) else kv) else kvs++[(k,v)]
theorem yW {p:κ×V}{r:List (κ×V)}{k:κ}(e:p.1=k):uH (p::r) k=some p.2:=by simp [uH,List.find?_cons,e]
theorem yF {p:κ×V}{r:List (κ×V)}{k:κ}(e:¬ p.1=k):uH (p::r) k=uH r k:=by simp [uH,List.find?_cons,e]
theorem zdv (k:κ):∀ kvs:List (κ×V),(kvs.any fun kv=>decide (kv.1=k))=(uH kvs k).isSome
 | []=>rfl
 | p::r=>by
  rw [List.any_cons]
  by_cases e:p.1=k
  ·simp only [yW e,decide_eq_true e,Bool.true_or,Option.isSome_some]
  ·rw [yF e,decide_eq_false e,Bool.false_or];exact zdv k r
theorem xE (kvs:List (κ×V))(k:κ)(v:V):(zaL kvs k v).length<=kvs.length+1:=by
 unfold zaL
 split
 all_goals simp_all
theorem zd5.isSome_eq {o:Option V}{u:Option Value}(r:zd5 o u):o.isSome=u.isSome:=by
 cases o with
 | none=>cases u with
  | none=>rfl
  | some _=>exact (show False from r).elim
 | some _=>cases u with
  | none=>exact (show False from r).elim
  | some _=>rfl
theorem KV.val {kvs:List (κ×V)}{vs:List (κ×Value)}(r:KV kvs vs)(k:κ):zd5 (uH kvs k) (valueAt vs k):=by
 unfold KV at r
 induction r with
 | nil=>exact True.intro
 | @cons p q ps qs h t ih=>
  obtain ⟨h1,h2⟩:=h
  by_cases e:p.1=k
  ·have e':q.1=k:=h1.symm.trans e
   have b:valueAt (q::qs) k=some q.2:=by simp [valueAt,List.find?_cons,e']
   rw [yW e,b];exact h2
  ·have e':¬ q.1=k:=fun z=>e (h1.trans z)
   have b:valueAt (q::qs) k=valueAt qs k:=by simp [valueAt,List.find?_cons,e']
   rw [yF e,b];exact ih
theorem KV.any {kvs:List (κ×V)}{vs:List (κ×Value)}(r:KV kvs vs)(k:κ):(kvs.any fun kv=>decide (kv.1=k))=vs.any fun kv=>decide (kv.1=k):=by
 unfold KV at r
 induction r with
 | nil=>rfl
 | cons h t ih=>rw [List.any_cons,List.any_cons,ih,h.1]
theorem KV.repl {kvs:List (κ×V)}{vs:List (κ×Value)}(r:KV kvs vs)(k:κ){y:V}{u:Value}(ry:zX y u) :
  KV (kvs.map fun kv=>if kv.1=k then (kv.1,y) else kv) (vs.map fun kv=>if kv.1=k then (kv.1,u) else kv):=by
 unfold KV at r ⊢
 induction r with
 | nil=>exact .nil
 | @cons p q ps qs h t ih=>
  rw [List.map_cons,List.map_cons]
  refine .cons ?_ ih
  grind
theorem KV.put {kvs:List (κ×V)}{vs:List (κ×Value)}(r:KV kvs vs)(k:κ){y:V}{u:Value}(ry:zX y u):KV (zaL kvs k y) (stored vs k u):=by
 unfold zaL stored
 rw [r.any k]
 by_cases e:(vs.any fun kv=>decide (kv.1=k))=true
 ·rw [if_pos e,if_pos e];exact r.repl k ry
 ·rw [if_neg e,if_neg e];exact Paired.snoc r ⟨rfl,ry⟩
theorem KV.length {kvs:List (κ×V)}{vs:List (κ×Value)}(r:KV kvs vs):kvs.length=vs.length:=Paired.length r
end
theorem zeO {P:Program}{w:World}{k:Key}{u:Value}(r:zX (kV k) u):(zT P w).is k u=true:=by
 cases k with
 | inl i=>obtain ⟨t,e⟩:=(show ∃ t,u=Value.int i t from r);subst e;exact u5 P w i t
 | inr x=>obtain ⟨t,e⟩:=(show ∃ t,u=Value.str x t from r);subst e;exact zcD P w x t
theorem zbG {P:Program}{w:World}:∀ {ks:List Key} {us:List Value},zY (ks.map kV) us->ItemsAre (zT P w) ks us
 | [],_,r=>by rw [List.map_nil] at r;cases r;exact .nil
 | k::ks,_,r=>by
  rw [List.map_cons] at r
  cases r with
  | cons h t=>exact .cons (zeO h) (zbG t)
abbrev KT (H:Hp):List (List Key×V)->List (List Key×Addr×Value)->Prop:=Paired fun p q=>p.1=q.1/\H q.2.1=some (.tup (p.1.map kV))/\zX p.2 q.2.2
theorem KT.val {H:Hp}{kvs:List (List Key×V)}{xs:List (List Key×Addr×Value)}(r:KT H kvs xs)(k:List Key):zd5 (uH kvs k) ((atKey xs k).map (·.2)):=by
 induction r with
 | nil=>exact True.intro
 | @cons p q ps qs h t ih=>
  obtain ⟨h1,_,h2⟩:=h
  by_cases e:p.1=k
  ·have e':q.1=k:=h1.symm.trans e
   have b:atKey (q::qs) k=some q.2:=by simp [atKey,List.find?_cons,e']
   rw [yW e,b];exact h2
  ·have e':¬ q.1=k:=fun z=>e (h1.trans z)
   have b:atKey (q::qs) k=atKey qs k:=by simp [atKey,List.find?_cons,e']
   rw [yF e,b];exact ih
theorem KT.repl {H:Hp}{kvs:List (List Key×V)}{xs:List (List Key×Addr×Value)}(r:KT H kvs xs)(k:List Key){y:V}{u:Value}(ry:zX y u) :
  KT H (kvs.map fun kv=>if kv.1=k then (kv.1,y) else kv) (xs.map (putAt k u)):=by
 induction r with
 | nil=>exact .nil
 | @cons p q ps qs h t ih=>
  rw [List.map_cons,List.map_cons]
  refine .cons ?_ ih
  obtain ⟨h1,h2,h3⟩:=h
  unfold putAt
  by_cases e:p.1=k
  all_goals simp_all
theorem KT.put {H:Hp}{kvs:List (List Key×V)}{xs:List (List Key×Addr×Value)}(r:KT H kvs xs)(k:List Key){b:Addr}{y:V}{u:Value}(hb:H b=some (.tup (k.map kV)))(ry:zX y u) :
  KT H (zaL kvs k y) (storedH xs k b u):=by
 have e:(kvs.any fun kv=>decide (kv.1=k))=(atKey xs k).isSome:=by
  rw [zdv,(r.val k).isSome_eq,Option.isSome_map]
 unfold zaL storedH
 rw [e]
 by_cases q:(atKey xs k).isSome=true
 ·rw [if_pos q,if_pos q];exact r.repl k ry
 ·rw [if_neg q,if_neg q];exact Paired.snoc r ⟨rfl,hb,ry⟩
theorem KT.keeps {H H':Hp}{kvs:List (List Key×V)}{xs:List (List Key×Addr×Value)}(r:KT H kvs xs)(ht:∀ b ys,H b=some (.tup ys)->H' b=some (.tup ys)):KT H' kvs xs:=
 Paired.mapP r fun _ _ z=>⟨z.1,ht _ _ z.2.1,z.2.2⟩
section
variable {P:Program}{w:World}{H:Hp}{h:Heap}{a:Addr}
theorem zlT {u:HO}(ok:HOk P w H h)(e:Rd H a u):zG P w H h a u:=e.ok ok
theorem zf2 {kvs:List (Key×V)}(ok:HOk P w H h)(e:Rd H a (.dK kvs)):kvs.length<=sizeLine/\(a==sysModules)=false/\∃ vs,KV kvs vs/\h.DictOf (zT P w) a vs:=
 show zG P w H h a (.dK kvs) from zlT ok e
theorem zkn {kvs:List (Key×V)}(ok:HOk P w H h)(e:H a=some (.dK kvs)):kvs.length<=sizeLine/\(a==sysModules)=false/\∃ vs,KV kvs vs/\h.DictOf (zT P w) a vs:=zf2 ok (.inl e)
theorem zdl {ks:List Key}(ok:HOk P w H h)(e:H a=some (.tup (ks.map kV))):(tupleKind (zT P w)).is h ks a:=by
 obtain ⟨_,its,r,o,h1,h2,⟨n,h3⟩,_⟩:=(show zG P w H h a (.tup (ks.map kV)) from ok a _ e)
 exact ⟨o,its.toArray,n,h1,h2,h3,by simpa using zbG r⟩
theorem zf3 {kvs:List (List Key×V)}(ok:HOk P w H h)(e:Rd H a (.dT kvs)):kvs.length<=sizeLine/\(a==sysModules)=false/\
  ∃ xs,KT H kvs xs/\h.DictOfH (tupleKind (zT P w)) a xs:=by
 obtain ⟨z,y,xs,r,o,es,ep,h1,h2,h3,h4,h5⟩:=(show zG P w H h a (.dT kvs) from zlT ok e)
 refine ⟨z,y,xs,r,o,es,ep,h1,h2,h3,h4,fun x hx=>?_,h5⟩
 have all:∀ {l:List (List Key×V)} {m:List (List Key×Addr×Value)},KT H l m->∀ x∈m,(tupleKind (zT P w)).is h x.1 x.2.1:=by
  intro l m q
  induction q with
  | nil=>intro x hx;exact nomatch hx
  | @cons p q ps qs hq t ih=>
   intro x hx
   rcases List.mem_cons.mp hx with e | hx
   ·subst e
    exact zdl ok (by simp_all)
   ·exact ih x hx
 exact all r x hx
theorem znj {kvs:List (List Key×V)}(ok:HOk P w H h)(e:H a=some (.dT kvs)):kvs.length<=sizeLine/\(a==sysModules)=false/\
  ∃ xs,KT H kvs xs/\h.DictOfH (tupleKind (zT P w)) a xs:=zf3 ok (.inl e)
end
def zcb (H:Hp)(a:Addr)(y:V)(r:Option V):Prop:=
 (∃ kvs k,Rd H a (.dK kvs)/\y=kV k/\r=uH kvs k)\/∃ kvs k b,Rd H a (.dT kvs)/\y = .ref b/\H b=some (.tup (k.map kV))/\r=uH kvs k
def zg0 (H:Hp)(a:Addr)(y v:V)(H':Hp):Prop:=
 (∃ kvs k,H a=some (.dK kvs)/\y=kV k/\kvs.length<sizeLine/\H'=upd H a (.dK (zaL kvs k v)))\/
 ∃ kvs k b,H a=some (.dT kvs)/\y = .ref b/\H b=some (.tup (k.map kV))/\kvs.length<sizeLine/\H'=upd H a (.dT (zaL kvs k v))
theorem zcb.k {H:Hp}{a:Addr}{kvs:List (Key×V)}{k:Key}(e:H a=some (.dK kvs)):zcb H a (kV k) (uH kvs k):=.inl ⟨kvs,k,.inl e,rfl,rfl⟩
theorem zg0.k {H:Hp}{a:Addr}{kvs:List (Key×V)}{k:Key}{v:V}(e:H a=some (.dK kvs))(hl:kvs.length<sizeLine):zg0 H a (kV k) v (upd H a (.dK (zaL kvs k v))):=.inl ⟨kvs,k,e,rfl,hl,rfl⟩
section
variable {X:Cx}{pins:List (Addr×Obj)}{σ:St}{H:Hp}{s:Shared}{a:Addr}{y v:V}{u r:Value}{o:Option V}{A:Around}{E:Value->Shared->Prop}
theorem Inv.big (I:Inv X pins σ H s):sysModules<s.heap.objs.size:=by
 have h:mainGlobals<s.heap.objs.size:=(I.mod.glob.keeps I.bk).lt
 exact Nat.lt_trans (by decide) h
theorem zen {Q:Value->Shared->Prop}(hu:A.units+1<cLine)(I:Inv X pins σ H s)(g:zcb H a y (some v))(ry:zX y u)(h:∀ w' s',Inv X pins σ H s'->zX v w'->Q w' s') :
  wpAny (model X.prog X.w) A (getItem (.ref a) u) Q E s:=by
 rcases g with ⟨kvs,k,e,ey,l⟩ | ⟨kvs,k,b,e,ey,eb,l⟩
 ·subst ey
  obtain ⟨z,hd,vs,rel,dd⟩:=zf2 I.hok e
  obtain ⟨w',hw,rw'⟩:=zd5.some_of (v:=v) (o:=valueAt vs k) (by rw [l];exact rel.val k)
  exact wpAny_getItem_of (zeO ry) dd.mapOf hw (h w' _ (I.tok _) rw')
 ·subst ey
  cases (show u=Value.ref b from ry)
  obtain ⟨z,hd,xs,rel,dd⟩:=zf3 I.hok e
  obtain ⟨w',hw,rw'⟩:=zd5.some_of (v:=v) (o:=(atKey xs k).map (·.2)) (by rw [l];exact rel.val k)
  obtain ⟨p,hp,hp2⟩:=Option.map_eq_some_iff.mp hw
  refine wpAny_getItem_heap (tupleKind_room_in1 hu) (zdl I.hok eb) dd hp ?_
  rw [hp2]
  exact h w' _ (I.tok _) rw'
theorem d_in {Q:Value->Shared->Prop}(hu:A.units+1<cLine)(I:Inv X pins σ H s)(g:zcb H a y o)(ry:zX y u)(h:∀ s',Inv X pins σ H s'->Q (.bool o.isSome) s') :
  wpAny (model X.prog X.w) A (compareOp .In u (.ref a)) Q E s:=by
 rcases g with ⟨kvs,k,e,ey,l⟩ | ⟨kvs,k,b,e,ey,eb,l⟩
 ·subst ey
  obtain ⟨z,hd,vs,rel,dd⟩:=zf2 I.hok e
  refine wpAny_in_of (zeO ry) hd dd.mapOf ?_
  rw [<- (rel.val k).isSome_eq,<- l]
  exact h _ (I.tok _)
 ·subst ey
  cases (show u=Value.ref b from ry)
  obtain ⟨z,hd,xs,rel,dd⟩:=zf3 I.hok e
  refine wpAny_in_heap (tupleKind_room_in1 hu) (zdl I.hok eb) hd dd ?_
  have q:=(rel.val k).isSome_eq
  rw [Option.isSome_map] at q
  rw [<- q,<- l]
  exact h _ (I.tok _)
theorem zcm {h':Heap}{t':Nat}{ob:HO}(I:Inv X pins σ H s)(mu:Mut (H a))(hs:Heap.SameBut a s.heap h')(he:∃ q,h'.get? a=some q)(new:zG X.prog X.w (upd H a ob) h' a ob) :
  Inv X pins σ (upd H a ob) { s with heap:=h',toks:=t' }:=
 I.write (x:=a) (e:=a) mu (.inl rfl) (fun b q hb z=>(hs.2 b hb).trans z) he new
theorem zha {P:Program}{w:World}{H':Hp}{h':Heap}{kvs:List (Key×V)}{vs:List (Key×Value)}(z:kvs.length<=sizeLine)(hd:(a==sysModules)=false)(rel:KV kvs vs)(dd:h'.DictOf (zT P w) a vs) :
  zG P w H' h' a (.dK kvs):=⟨z,hd,vs,rel,dd⟩
theorem zeo {H':Hp}{Q:Unit->Shared->Prop}(hu:A.units+1<cLine)(I:Inv X pins σ H s)(g:zg0 H a y v H')(ry:zX y u)(rv:zX v r)(h:∀ s',Inv X pins σ H' s'->Q () s') :
  wpAny (model X.prog X.w) A (setItem (.ref a) u r) Q E s:=by
 rcases g with ⟨kvs,k,e,ey,l,eH⟩ | ⟨kvs,k,b,e,ey,eb,l,eH⟩
 ·subst ey eH
  obtain ⟨z,hd,vs,rel,dd⟩:=zkn I.hok e
  have hz:vs.length<=sizeLine:=by rw [<- rel.length];exact z
  have hl:(zaL kvs k v).length<=sizeLine:=by have:=xE kvs k v;lia
  refine wpAny_setItem_pairs (hsz:=hz) (zeO ry) dd fun h' dd' hs=>h _ ?_
  have he:∃ q,h'.get? a=some q:=let ⟨q,_,_,hq,_⟩:=dd';⟨q,hq⟩
  exact zcm I (by rw [e];exact True.intro) hs he (zha hl hd (rel.put k rv) dd')
 ·subst ey eH
  cases (show u=Value.ref b from ry)
  obtain ⟨z,hd,xs,rel,dd⟩:=znj I.hok e
  have hz:xs.length<=sizeLine:=by rw [<- Paired.length rel];exact z
  have hl:(zaL kvs k v).length<=sizeLine:=by have:=xE kvs k v;lia
  refine wpAny_setItem_heap (hsz:=hz) (tupleKind_room_in1 hu) (zdl I.hok eb) dd fun h' dd' hs=>h _ ?_
  obtain ⟨q,es,ep,hq,h2,h3,h4,_,h5⟩:=dd'
  refine zcm I (by rw [e];exact True.intro) hs ⟨q,hq⟩ ⟨hl,hd,_,(rel.put k eb rv).keeps fun c ys ec=>?_,q,es,ep,hq,h2,h3,h4,h5⟩
  rw [zd (by grind)]
  exact ec
end
section
variable {X:Cx}{pins:List (Addr×Obj)}{σ:St}{H:Hp}{s:Shared}{a:Addr}{kvs:List (Key×V)}{k:Key}{u:Value}{A:Around}{E:Value->Shared->Prop}
end
def zmD (i:Expr):Prop:=∀ ov iv,subscripted i false ov iv=operate [ov,iv] (getItem ov iv)
theorem zjP {prog:Program}{w:World}{A:Around}{E:Value->Shared->Prop}{s:Shared}{env:Env}{value slice:Expr}{pos:Pos}{T id:String}{Q:Value->Shared->Prop}
  (hl:typeLookup (.type T) "__getitem__" = pure (some (.builtin id))) (hs:zmD slice)
  (h:wpAny (model prog w) A (eval value env) (fun o s₁=>wpAny (model prog w) A (eval slice env) (fun i s₂=>s₂.TypeIs o T/\wpAny (model prog w) A (getItem o i) Q E s₂) E s₁) E s) :
  wpAny (model prog w) A (eval (.Subscript value slice pos) env) Q E s:=by
 refine Subscript_ (wpAny_mono h (fun o s₁ h₁=>wpAny_mono h₁ (fun i s₂ h₂=>?_) fun _ _ x=>x) fun _ _ x=>x)
 obtain ⟨hT,h₂⟩:=h₂
 unfold subscriptTail
 refine wpAny_bind ?_
 rw [getitemInPython_of_ne hT.not_modules]
 refine wpAny_bind (wpAny_specialOf hT hl ?_)
 have fin:wpAny (model prog w) A (subscripted slice false o i) (fun r s₃=>wpAny (model prog w) A (letTemporaryGo value o r >>= fun _=>pure r) Q E s₃) E s₂:=by
  rw [hs o i]
  exact wpAny_operating (wpAny_mono h₂ (fun r s₃ h₃=>wpAny_bind (wpAny_letTemporaryGo (wpAny_pure h₃))) fun _ _ x=>x)
 first
  | exact wpAny_pure (wpAny_bind fin)
  | exact wpAny_bind (by grind)
  | exact wpAny_bind fin
theorem zcn {X:Cx}{pins:List (Addr×Obj)}{σ:St}{H:Hp}{s:Shared}{a:Addr}{y:V}{o:Option V}(I:Inv X pins σ H s)(g:zcb H a y o):s.TypeIs (.ref a) "dict" := by
 rcases g with ⟨kvs,k,e,_,_⟩ | ⟨kvs,k,b,e,_,_,_⟩
 ·obtain ⟨_,_,vs,_,dd⟩:=zf2 I.hok e
  exact dd.typeIs
 ·obtain ⟨_,_,xs,_,dd⟩:=zf3 I.hok e
  exact dd.typeIs
def zmc (td ty:TE):TE:=fun σ H Q=>td σ H fun x H1=>ty σ H1 fun y H2=>∃ a v,x = .ref a/\zcb H2 a y (some v)/\Q v H2
def zos (ty td:TE):TE:=fun σ H Q=>ty σ H fun y H1=>td σ H1 fun x H2=>∃ a o,x = .ref a/\zcb H2 a y o/\Q (.bl o.isSome) H2
def zl7 (td ty tv:TE):TS:=fun D σ H=>tv σ H fun v H1=>td σ H1 fun x H2=>ty σ H2 fun y H3=>∃ a H4,x = .ref a/\zg0 H3 a y v H4/\D.nx σ H4
section
variable {X:Cx}{o i e value:Expr}{pos pos' tpos:Pos}{td ty tv:TE}
theorem zi2 (hu:X.A.units+1<cLine)(ho:PE X o td)(hi:PE X i ty)(hs:zmD i):PE X (.Subscript o i pos) (zmc td ty):=by
 intro pins s σ H Q I h
 refine zjP PySem.F.slot_dict_getitem.lookup hs (thn (ho pins s σ H _ I h) fun u s1 ⟨x,H1,I1,rx,q1⟩=>thn (hi pins s1 σ H1 _ I1 q1)  ?_)
 rintro iv s2 ⟨y,H2,I2,ry,a,v,ex,g,q2⟩
 subst ex
 obtain rfl:u=Value.ref a:=rx
 exact ⟨zcn I2 g,zen hu I2 g ry fun w' s3 I3 rw'=>⟨v,H2,I3,rw',q2⟩⟩
theorem zlh (hu:X.A.units+1<cLine)(hi:PE X i ty)(ho:PE X o td):PC X .In i o (zos ty td):=by
 intro pins s σ H Q I h
 refine thn (hi pins s σ H _ I h) fun iv s1 ⟨y,H1,I1,ry,q1⟩=>thn (ho pins s1 σ H1 _ I1 q1)  ?_
 rintro u s2 ⟨x,H2,I2,rx,a,ov,ex,g,q2⟩
 subst ex
 obtain rfl:u=Value.ref a:=rx
 exact d_in hu I2 g ry fun s3 I3=>⟨.bl ov.isSome,H2,I3,rfl,q2⟩
theorem zjj (hu:X.A.units+1<cLine)(ho:PE X o td)(hi:PE X i ty)(hv:PE X value tv)(hs:swapsWith value (some (.Subscript o i pos')) pos.line X.env=pure false) :
  PS X (.Assign [.Subscript o i pos'] value pos) (zl7 td ty tv):=by
 intro pins s σ H D I h
 refine wpAny_Assign_Subscript (thn (hv pins s σ H _ I h) fun r s1 ⟨v,H1,I1,rv,q1⟩=>thn (ho pins s1 σ H1 _ I1 q1) fun u s2 ⟨x,H2,I2,rx,q2⟩=>thn (hi pins s2 σ H2 _ I2 q2) fun iv s3 ⟨y,H3,I3,ry,a,H4,ex,g,q3⟩=>?_) hs
 subst ex
 obtain rfl:u=Value.ref a:=rx
 exact zeo hu I3 g ry rv fun s4 I4=>⟨σ,H4,I4,q3⟩
end
theorem zf1 {P:Program}{w:World}{H:Hp}(h:Heap)(hb:sysModules<h.objs.size):zG P w H (h.push { cls:=.type "dict",data:=.dict #[] }) h.objs.size (.dK []):=
 ⟨Nat.zero_le _,beq_eq_false_iff_ne.mpr (Ne.symm (Nat.ne_of_lt hb)),[],.nil,Heap.DictOf.new h⟩
section
variable {X:Cx}{pos:Pos}
end
def zfA:List (TE×TE)->St->Hp->(List (V×V)->Hp->Prop)->Prop
 | [],_,H,Q=>Q [] H
 | (tk,tv)::r,σ,H,Q=>tk σ H fun x H1=>tv σ H1 fun y H2=>zfA r σ H2 fun ps H3=>Q ((x,y)::ps) H3
abbrev VV:List (V×V)->List (Value×Value)->Prop:=Paired fun p q=>zX p.1 q.1/\zX p.2 q.2
def PPs (X:Cx)(pos:Pos)(keys:List (Option Expr))(values:List Expr)(trs:List (TE×TE)):Prop:=
 ∀ (pins:List (Addr×Obj)) (s:Shared) (σ:St) (H:Hp) (Q:List (V×V)->Hp->Prop),Inv X pins σ H s->zfA trs σ H Q->
  wpAny (model X.prog X.w) X.A (evalPairs (pairTrees keys values X.env pos)) (fun vs s'=>∃ ps H',Inv X pins σ H' s'/\VV ps vs/\Q ps H') X.xe s
theorem zji {X:Cx}{pos:Pos}:PPs X pos [] [] []:=fun pins s σ H Q I h=>pairTrees_nil_walk ⟨[],H,I,.nil,h⟩
theorem zgH {X:Cx}{pos:Pos}{k v:Expr}{ks:List (Option Expr)}{vs:List Expr}{tk tv:TE}{trs:List (TE×TE)}(hk:PE X k tk)(hv:PE X v tv)(hr:PPs X pos ks vs trs) :
  PPs X pos (some k::ks) (v::vs) ((tk,tv)::trs):=fun pins s σ H Q I h=>
 pairTrees_cons_walk (thn (hk pins s σ H _ I h) fun u s1 ⟨x,H1,I1,rx,q1⟩=>thn (hv pins s1 σ H1 _ I1 q1) fun w2 s2 ⟨y,H2,I2,ry,q2⟩=>
  thn (hr pins s2 σ H2 _ I2 q2) <| by rintro ws s3 ⟨ps,H3,I3,rel,q3⟩;exact ⟨(x,y)::ps,H3,I3,.cons ⟨rx,ry⟩ rel,q3⟩)
def u4 (kvs more:List (Key×V)):List (Key×V):=more.foldl (fun acc kv=>zaL acc kv.1 kv.2) kvs
theorem KV.merge:∀ {more:List (Key×V)} {rs:List (Key×Value)} {kvs:List (Key×V)} {vs:List (Key×Value)},KV more rs->KV kvs vs->KV (u4 kvs more) (merged vs rs):=by
 intro more rs kvs vs r
 unfold KV at r
 induction r generalizing kvs vs with
 | nil=>intro q;exact q
 | @cons p q ps qs h t ih=>
  intro r0
  have e:KV (zaL kvs p.1 p.2) (stored vs q.1 q.2):=by
   have:=r0.put p.1 h.2
   simp_all
  exact ih e
theorem xN:∀ (more kvs:List (Key×V)),(u4 kvs more).length<=kvs.length+more.length
 | [],kvs=>by show kvs.length<=kvs.length+0;lia
 | p::r,kvs=>by
  have h1:=xN r (zaL kvs p.1 p.2)
  have h2:=xE kvs p.1 p.2
  show (u4 (zaL kvs p.1 p.2) r).length<=_
  grind
theorem zaG {P:Program}{w:World}:∀ {kvs:List (Key×V)} {ws:List (Value×Value)},VV (kvs.map fun kv=>(kV kv.1,kv.2)) ws->∃ rs,Carries (zT P w) ws rs/\KV kvs rs
 | [],_,r=>by rw [List.map_nil] at r;cases r;exact ⟨[],True.intro,.nil⟩
 | p::kvs,_,r=>by
  rw [List.map_cons] at r
  cases r with
  | @cons a b as bs h t=>
   obtain ⟨rs,c,q⟩:=zaG (P:=P) (w:=w) t
   obtain ⟨b1,b2⟩:=b
   exact ⟨(p.1,b2)::rs,⟨zeO h.1,rfl,c⟩,.cons ⟨rfl,h.2⟩ q⟩
def zmd (trs:List (TE×TE)):TE:=fun σ H Q=>∀ p,H p=none->zfA trs σ (upd H p (.dK [])) fun ps H2=>H2 p=some (.dK [])/\∃ kvs:List (Key×V),ps=kvs.map (fun kv=>(kV kv.1,kv.2))/\kvs.length<=15/\Q (.ref p) (upd H2 p (.dK (u4 [] kvs)))
theorem zi3 {X:Cx}{pos:Pos}{keys:List (Option Expr)}{values:List Expr}{trs:List (TE×TE)}(h:PPs X pos keys values trs)(hall:keys.all (·.isSome)=true)(hl:keys.length=values.length)(h0:keys≠[])
  (h15:keys.length<=15):PE X (.Dict keys values pos) (zmd trs):=by
 intro pins s σ H Q I q
 have hn:=I.hok.fresh (Nat.le_refl s.heap.objs.size)
 have I1:=I.laid (a:=s.heap.objs.size) (o:=.dK []) (h':=s.heap.push { cls:=.type "dict",data:=.dict #[] }) (t':=s.toks) (fun _ _ q=>Heap.get?_push_of_some _ q) (Nat.le_refl _) (zf1 s.heap I.big)
 refine wpAny_Dict_walk (knd:=zT X.prog X.w) hall hl h0 h15 (thn (h pins _ σ _ _ I1 (q _ hn))  ?_)
 rintro ws s2 ⟨ps,H2,I2,rel,e,kvs,ep,lk,q2⟩
 subst ep
 obtain ⟨rs,c,rk⟩:=zaG (P:=X.prog) (w:=X.w) rel
 obtain ⟨z,hd,vs0,r0,dd⟩:=zkn I2.hok e
 cases r0
 refine ⟨rs,c,dd,fun h' dd' hs=>⟨.ref s.heap.objs.size,_,?_,rfl,q2⟩⟩
 have hz:(u4 [] kvs).length<=sizeLine:=by
  have h1:=xN kvs []
  rw [List.length_nil] at h1
  rw [sizeLine_eq];lia
 have he:∃ q,h'.get? s.heap.objs.size=some q:=let ⟨q,_,_,hq,_⟩:=dd';⟨q,hq⟩
 exact zcm I2 (by rw [e];exact True.intro) hs he (zha hz hd (rk.merge .nil) dd')
section
variable {X:Cx}{pins:List (Addr×Obj)}{σ:St}{H:Hp}{s:Shared}{a:Addr}{y d:V}{u r:Value}{o:Option V}{A:Around}{E:Value->Shared->Prop}
end
section
variable {X:Cx}{o e f:Expr}{apos cpos:Pos}{td ty tx:TE}
end
section
variable {X:Cx}{pins:List (Addr×Obj)}{σ:St}{H:Hp}{s:Shared}{a:Addr}{kvs:List (Key×V)}{A:Around}{E:Value->Shared->Prop}
end
section
variable {X:Cx}{pins:List (Addr×Obj)}{σ:St}{H:Hp}{s:Shared}{a:Addr}{y:V}{u:Value}{A:Around}{E:Value->Shared->Prop}
end
end L2
namespace HT
open PySem PyProof.Rows
def lexLt:List Int->List Int->Bool
 | [],[]=>false
 | [],_::_=>true
 | _::_,[]=>false
 | x::xs,y::ys=>if x=y then lexLt xs ys else decide (x<y)
section
open PySem.SeqAt
open PySem.AutoSeq1 (wpAny_loadPart')
open PySem.MeetsSeq PySem.MeetsSeq2 PySem.MeetsSeq3
end
section
variable {prog:Program}{w:World}{A:Around}{E:Value->Shared->Prop}{s:Shared}
theorem cat_tup {t b:Addr}{vs ws:List Value}{Q:Value->Shared->Prop}(ht:IsTup s.heap t vs.toArray)(hb:IsTup s.heap b ws.toArray)(hv:vs≠[])
  (h1:ws=[]->Q (.ref t) s) (h2:ws≠[]->Q (.ref s.heap.objs.size) { s with heap:=s.heap.push { cls:=.type "tuple",data:=.seq (vs++ws).toArray } })
  (hsz:vs.length+ws.length<=sizeLine):wpAny (model prog w) A (binaryOp .Add (.ref t) (.ref b)) Q E s:=by
 obtain ⟨⟨cls,dd,data,sl⟩,ho,hc,n,hd⟩:=id ht
 obtain ⟨⟨cls2,dd2,data2,sl2⟩,ho2,hc2,n2,hd2⟩:=id hb
 simp only at hc hd hc2 hd2
 subst hc hd hc2 hd2
 have e:vs.toArray++ws.toArray=(vs++ws).toArray:=by simp
 by_cases hw:ws=[]
 ·exact concat_meets ⟨_,ho,rfl⟩ ⟨_,ho2,rfl⟩ noFill_tuple_add seq_tuple_add PySem.F.slot_tuple_add PySem.F.entry_tuple_add (PySem.F.args_tuple_add_2 _ _)
   (tuple_addW1 t b vs.toArray ws.toArray n n2 dd dd2 sl sl2 (by simpa using hv) (by simp [hw])) ⟨ho,ho2,h1 hw⟩
 ·refine concat_meets ⟨_,ho,rfl⟩ ⟨_,ho2,rfl⟩ noFill_tuple_add seq_tuple_add PySem.F.slot_tuple_add PySem.F.entry_tuple_add (PySem.F.args_tuple_add_2 _ _)
   (tuple_addW2 t b vs.toArray ws.toArray n n2 dd dd2 sl sl2 (by simpa using hv) (by simpa using hw) (by simp_all)) ⟨ho,ho2,?_⟩
  rw [e]
  exact h2 hw
def sIx (n d:Nat):Option Int->Nat
 | none=>d
 | some v=>if v<0 then (v+(n:Int)).toNat else min v.toNat n
theorem sIx_none (n d:Nat):sIx n d none=d:=rfl
theorem sIx_nat (n d k:Nat):sIx n d (some (k:Int))=min k n:=by
 show (if (k:Int)<0 then ((k:Int)+(n:Int)).toNat else min (k:Int).toNat n)=min k n
 rw [if_neg (by lia),Int.toNat_natCast]
theorem zl8 (n d:Nat)(hd:d<=n)(o:Option Int):sIx n d o<=n:=by
 cases o with
 | none=>exact hd
 | some v=>
  show (if v<0 then (v+(n:Int)).toNat else min v.toNat n)<=n
  by_cases hv:v<0
  ·rw [if_pos hv];lia
  ·rw [if_neg hv];exact Nat.min_le_right _ _
theorem zec (v:Int)(n d:Nat):(if v<0 then max (v+(n:Int)) 0 else min v (n:Int))=((sIx n d (some v):Nat):Int):=by
 show (if v<0 then max (v+(n:Int)) 0 else min v (n:Int))=(((if v<0 then (v+(n:Int)).toNat else min v.toNat n):Nat):Int)
 grind
theorem zdB (lo hi:Option Int)(n:Nat):Builtin.Slice.sliceAdjust lo hi 1 (n:Int)=(((sIx n 0 lo:Nat):Int),((sIx n n hi:Nat):Int)):=by
 have h1:¬ ((1:Int)<0):=by lia
 unfold Builtin.Slice.sliceAdjust
 simp only [h1,if_false]
 refine Prod.ext ?_ ?_
 ·cases lo with
  | none=>rfl
  | some v=>exact zec v n 0
 ·cases hi with
  | none=>rfl
  | some v=>exact zec v n n
theorem zdT (i j:Nat):Builtin.Slice.slicePlaces (i:Int) (j:Int) 1=j - i:=by
 unfold Builtin.Slice.slicePlaces
 have h1:(1:Int) > 0:=by lia
 simp only [h1,if_true,Int.ediv_one]
 split <;> lia
theorem yO {v:Value}{o:Option Int}{Q:Option Int->Shared->Prop}(p:IsPart v o)(h:Q o s):wpAny (model prog w) A (Builtin.Slice.slicePartIndex v) Q E s:=by
 cases p with
 | none=>exact slicePart_none h
 | int i t=>exact slicePart_int h
theorem yZ {sl:Addr}{vl vu:Value}{lo hi:Option Int}{n:Nat}{Q:Int×Int×Nat->Shared->Prop}(hs:s.heap.IsSliceOf sl vl vu .none)(pl:IsPart vl lo)(pu:IsPart vu hi)
  (h:Q (((sIx n 0 lo:Nat):Int),1,sIx n n hi - sIx n 0 lo) s):wpAny (model prog w) A (Builtin.Slice.sliceApplied (.ref sl) (pure (n:Int))) Q E s:=by
 obtain ⟨os,hos,hcs,hds⟩:=id hs
 unfold Builtin.Slice.sliceApplied Builtin.Slice.sliceFields
 refine wpAny_bind (wpAny_bind (wpAny_field hos hds (x:=vl) rfl (wpAny_bind (wpAny_field hos hds (x:=vu) rfl (wpAny_bind (wpAny_field hos hds (x:=.none) rfl (wpAny_pure ?_)))))))
 refine wpAny_bind (slicePart_none ?_)
 show wpAny _ _ (if ((1:Int)==0)=true then _ else _) _ _ s
 rw [if_neg (by decide)]
 refine wpAny_bind (yO pl (wpAny_bind (yO pu (wpAny_bind (wpAny_pure ?_)))))
 show wpAny _ _ (match Builtin.Slice.sliceAdjust lo hi 1 (n:Int) with | (lo,hi)=>pure (lo,(1:Int),Builtin.Slice.slicePlaces lo hi 1)) _ _ s
 rw [zdB lo hi n]
 show wpAny _ _ (pure (((sIx n 0 lo:Nat):Int),(1:Int),Builtin.Slice.slicePlaces ((sIx n 0 lo:Nat):Int) ((sIx n n hi:Nat):Int) 1)) _ _ s
 rw [zdT]
 exact wpAny_pure h
theorem zgF (xs:Array Value)(i k:Nat):((List.range k).filterMap fun (m:Nat)=>xs[((i:Int)+(m:Int) * 1).toNat]?).toArray=((xs.toList.drop i).take k).toArray:=by
 have e:(fun (m:Nat)=>xs[((i:Int)+(m:Int) * 1).toNat]?)=fun m=>xs[i+m]?:=by
  funext m
  have:((i:Int)+(m:Int) * 1).toNat=i+m:=by lia
  rw [this]
 rw [e]
 have:=pick_run xs i k
 rw [List.filterMap_map] at this
 have e2:((fun x=>xs[x]?) ∘ fun x=>i+x)=fun m=>xs[i+m]?:=rfl
 simp_all
theorem getItem_tuple_cut {t sl:Addr}{items:Array Value}{vl vu:Value}{lo hi:Option Int}{Q:Value->Shared->Prop}(ht:IsTup s.heap t items)(hs:s.heap.IsSliceOf sl vl vu .none)(pl:IsPart vl lo)(pu:IsPart vu hi)
  (hw:¬ (sIx items.size 0 lo=0/\sIx items.size items.size hi=items.size))
  (h:Q (.ref s.heap.objs.size) { s with heap:=s.heap.push { cls:=.type "tuple",data:=.seq ((items.toList.drop (sIx items.size 0 lo)).take (sIx items.size items.size hi - sIx items.size 0 lo)).toArray } })
  (hsz:items.size<=sizeLine):wpAny (model prog w) A (getItem (.ref t) (.ref sl)) Q E s:=by
 have htake:sizeOk (.seq ((items.toList.drop (sIx items.size 0 lo)).take (sIx items.size items.size hi - sIx items.size 0 lo)).toArray):=by
  show ((items.toList.drop (sIx items.size 0 lo)).take (sIx items.size items.size hi - sIx items.size 0 lo)).toArray.size<=sizeLine
  rw [List.size_toArray,List.length_take,List.length_drop,Array.length_toList]
  lia
 have hj:sIx items.size items.size hi<=items.size:=zl8 _ _ (Nat.le_refl _) hi
 obtain ⟨os,hos,hcs,hds⟩:=id hs
 have hTs:s.TypeIs (.ref sl) "slice" := ⟨os,hos,hcs⟩
 unfold getItem
 try with_reducible refine wpAny_holding ?_
 first | refine wpAny_bind (wpAny_pure ?_) | skip
 refine wpAny_bind (wpAny_sequenceKey ht.typeIs (by decide) ?_)
 refine wpAny_bind (wpAny_callSpecial?_slot (name:=Str.ofString "__getitem__") ht.typeIs PyProof.Rows.slot_tuple_getitem
  (wpAny_call_entry PyProof.Rows.slot_tuple_getitem ht.typeIs entry_tuple_getitem ?_ (args_tuple_getitem _ _)))
 show wpAny _ _ (Builtin.Tuple.tupleItemsOf (.ref t) >>= _) _ _ s
 refine wpAny_bind (tupleItemsOf_ ht ?_)
 refine wpAny_bind (wpAny_typeOf hTs ?_)
 rw [if_pos (by decide)]
 refine wpAny_bind (yZ hs pl pu ?_)
 have hno:¬ ((((sIx items.size 0 lo:Nat):Int)==0&&(1:Int)==1&&(sIx items.size items.size hi - sIx items.size 0 lo)==items.size)=true):=by
  grind
 show wpAny _ _ (if (((sIx items.size 0 lo:Nat):Int)==0&&(1:Int)==1&&(sIx items.size items.size hi - sIx items.size 0 lo)==items.size)=true then _ else _) _ _ s
 rw [if_neg hno,zgF]
 first
  | exact wpAny_bind (m:=Builtin.Tuple.tupleExact _) (wpAny_newObj_type (wpAny_pure ⟨_,rfl,wpAny_pure h⟩) htake)
  | exact wpAny_bind (by grind) (by grind)
  | exact wpAny_bind (by grind)
  | exact wpAny_bind (by grind)
end
end HT
namespace L2
open PySem PySem.Spec PyProof.Rows
abbrev TO:=St->Hp->(Option Int->Hp->Prop)->Prop
def PO (X:Cx)(e:Option Expr)(t:TO):Prop:=
 ∀ (pins:List (Addr×Obj)) (s:Shared) (σ:St) (H:Hp) (Q:Option Int->Hp->Prop),Inv X pins σ H s->t σ H Q->
  wpAny (model X.prog X.w) X.A (evalPart e X.env) (fun u s'=>∃ o H',Inv X pins σ H' s'/\IsPart u o/\Q o H') X.xe s
def zfz:TO:=fun _ H Q=>Q none H
def zmi (t:TE):TO:=fun σ H Q=>t σ H fun x H1=>∃ i,x = .int i/\Q (some i) H1
section
variable {X:Cx}{e:Expr}{te:TE}{lo hi:Option Expr}{tl th:TO}{pos p2:Pos}
theorem zjg:PO X none zfz:=by
 intro pins s σ H Q I h
 rw [evalPart_none]
 exact wpAny_pure ⟨none,H,I,.none,h⟩
theorem zjh (h:PE X e te):PO X (some e) (zmi te):=by
 intro pins s σ H Q I hw
 rw [evalPart_some]
 refine thn (h pins s σ H _ I hw)  ?_
 rintro u s1 ⟨x,H1,I1,r1,q1⟩
 obtain ⟨i,rfl,q⟩:=q1
 obtain ⟨t,rfl⟩:=r1
 exact ⟨some i,H1,I1,.int i t,q⟩
def SlR (X:Cx)(r:V->Option Int->Option Int->Hp->VK->Prop):Prop:=
 ∀ (pins:List (Addr×Obj)) (s:Shared) (σ:St) (H:Hp) (x:V) (v vl vu:Value) (lo hi:Option Int) (sl:Addr) (Q:VK),Inv X pins σ H s->zX x v->s.heap.IsSliceOf sl vl vu .none->IsPart vl lo->IsPart vu hi->r x lo hi H Q->
  ∃ T id,typeLookup (.type T) "__getitem__" = pure (some (.builtin id))/\s.TypeIs v T/\wpAny (model X.prog X.w) X.A (getItem v (.ref sl)) (EP X pins σ Q) X.xe s
def tSl (r:V->Option Int->Option Int->Hp->VK->Prop)(te:TE)(tl th:TO):TE:=fun σ H Q=>te σ H fun x H1=>tl σ H1 fun l H2=>th σ H2 fun u H3=>r x l u H3 Q
theorem zgC {r:V->Option Int->Option Int->Hp->VK->Prop}(hr:SlR X r)(he:PE X e te)(hl:PO X lo tl)(hu:PO X hi th):PE X (.Subscript e (.Slice lo hi none p2) pos) (tSl r te tl th):=by
 intro pins s σ H Q I h
 refine Subscript_ (thn (he pins s σ H _ I h)  ?_)
 rintro v s1 ⟨x,H1,I1,r1,q1⟩
 refine wpAny_Slice (thn (hl pins s1 σ H1 _ I1 q1) fun vl s2 ⟨l,H2,I2,pl,q2⟩=>thn (hu pins s2 σ H2 _ I2 q2)  ?_)
 rintro vu s3 ⟨u,H3,I3,pu,q3⟩
 rw [evalPart_none]
 refine wpAny_pure ?_
 have I4:Inv X pins σ H3 { s3 with heap:=s3.heap.push { cls:=.type "slice",data:=.fields #[vl,vu,.none] } }:=I3.kept (t':=s3.toks) fun b ob q=>Heap.get?_push_of_some _ q
 obtain ⟨T,id,hT,ht,hg⟩:=hr pins { s3 with heap:=s3.heap.push { cls:=.type "slice",data:=.fields #[vl,vu,.none] } } σ H3 x v vl vu l u s3.heap.objs.size Q I4 r1 (Heap.IsSliceOf.new ..) pl pu q3
 show wpAny (model X.prog X.w) X.A (subscriptTail e (.Slice lo hi none p2) v (.ref s3.heap.objs.size)) (EP X pins σ Q) X.xe { s3 with heap:=s3.heap.push { cls:=.type "slice",data:=.fields #[vl,vu,.none] } }
 exact tail_any (ops:=[.ref s3.heap.objs.size,v]) ht hT hg (by with_unfolding_all rfl)
def zd1 (xs:List V)(lo hi:Option Int):List V:=(xs.drop (HT.sIx xs.length 0 lo)).take (HT.sIx xs.length xs.length hi - HT.sIx xs.length 0 lo)
theorem uO (xs:List V)(lo hi:Option Int):(zd1 xs lo hi).length<=xs.length:=by
 unfold zd1
 rw [List.length_take,List.length_drop]
 lia
def rSlT (K:PySem.W.Frag):V->Option Int->Option Int->Hp->VK->Prop:=fun x lo hi H Q=>∃ a xs,x = .ref a/\SqT K H a xs/\
 ¬ (HT.sIx xs.length 0 lo=0/\HT.sIx xs.length xs.length hi=xs.length)/\∀ p,H p=none->Q (.ref p) (upd H p (.tup (zd1 xs lo hi)))
theorem zl9:SlR X (rSlT X.K):=by
 intro pins s σ H x v vl vu lo hi sl Q I rx hs pl pu h
 obtain ⟨a,xs,rfl,hx,hw,q⟩:=h
 cases rx
 obtain ⟨its,r,ht,hz⟩:=I.tuple hx
 have hlen:its.toArray.size=xs.length:=by rw [List.size_toArray];exact r.length.symm
 refine ⟨"tuple",_,PyProof.Rows.slot_tuple_getitem.lookup,ht.typeIs,?_⟩
 refine HT.getItem_tuple_cut ht hs pl pu (by rw [hlen];exact hw) ?_ (by rw [hlen];exact hz)
 rw [hlen]
 refine ⟨.ref s.heap.objs.size,_,I.laid (t':=s.toks) (o:=.tup (zd1 xs lo hi)) (fun b ob q=>Heap.get?_push_of_some _ q) (Nat.le_refl _) ?_,rfl,q _ (I.hok.fresh (Nat.le_refl _))⟩
 exact ⟨Nat.le_trans (uO xs lo hi) hz,_,(r.drop (HT.sIx xs.length 0 lo)).take (HT.sIx xs.length xs.length hi - HT.sIx xs.length 0 lo),y8.new _ _⟩
def zoj (K:PySem.W.Frag):R2:=fun x y H Q=>∃ a b xs ys,x = .ref a/\y = .ref b/\SqT K H a xs/\SqT K H b ys/\xs≠[]/\xs.length+ys.length<=sizeLine/\
 (ys=[]->Q (.ref a) H)/\(ys≠[]->∀ p,H p=none->Q (.ref p) (upd H p (.tup (xs++ys))))
theorem zY.nil_iff {xs:List V}{us:List Value}(r:zY xs us):us=[]↔xs=[]:=by
 cases r with
 | nil=>simp
 | cons _ _=>simp
theorem ziV:OpR X (binaryOp .Add) (zoj X.K):=by
 intro pins s σ H x y v u Q I rx ry h
 obtain ⟨a,b,xs,ys,rfl,rfl,ha,hb,hx,hz,q1,q2⟩:=h
 cases rx
 cases ry
 obtain ⟨its,r1,p1,_⟩:=I.tuple ha
 obtain ⟨its2,r2,p2,_⟩:=I.tuple hb
 refine HT.cat_tup p1 p2 (fun z=>hx (r1.nil_iff.mp z)) (fun z=>⟨.ref a,H,I,rfl,q1 (r2.nil_iff.mp z)⟩) (fun z=>?_) (by rw [<- r1.length,<- r2.length];exact hz)
 refine ⟨.ref s.heap.objs.size,_,I.laid (t':=s.toks) (o:=.tup (xs++ys)) (fun b ob q=>Heap.get?_push_of_some _ q) (Nat.le_refl _) ?_,rfl,q2 (fun w=>z (r2.nil_iff.mpr w)) _ (I.hok.fresh (Nat.le_refl _))⟩
 exact ⟨by simp_all,_,r1.append r2,y8.new _ _⟩
end
def ixN (n:Nat)(i:Int):Option Nat:=if 0<=i then (if i<n then some i.toNat else none) else if -(n:Int)<=i then some (i+n).toNat else none
def atI {α:Type}(xs:List α)(i:Int):Option α:=(ixN xs.length i).bind fun j=>xs[j]?
theorem zii {n:Nat}{i:Int}{j:Nat}(h:ixN n i=some j):seqIndex? i n=some j/\j<n/\-(n:Int)<=i/\i<n:=by
 unfold ixN at h
 by_cases h0:0<=i
 ·rw [if_pos h0] at h
  by_cases h1:i<n
  ·rw [if_pos h1] at h
   have e:i.toNat=j:=Option.some.inj h
   exact ⟨by rw [seqIndex_of h0 h1,e],by lia,by lia,h1⟩
  ·simp_all
 ·rw [if_neg h0] at h
  by_cases h1:-(n:Int)<=i
  ·rw [if_pos h1] at h
   have e:(i+n).toNat=j:=Option.some.inj h
   exact ⟨by rw [seqIndex_neg (by lia) h1,e],by lia,h1,by lia⟩
  ·simp_all
theorem zd8 {α:Type}{xs:List α}{i:Int}{v:α}(h:atI xs i=some v):∃ j,seqIndex? i xs.length=some j/\xs[j]?=some v/\j<xs.length/\-(xs.length:Int)<=i/\i<xs.length:=by
 unfold atI at h
 cases e:ixN xs.length i with
 | none=>rw [e] at h;cases h
 | some j=>
  rw [e] at h
  obtain ⟨h1,h2,h3,h4⟩:=zii e
  exact ⟨j,h1,h,h2,h3,h4⟩
theorem zhJ {α:Type}{xs:List α}{j:Nat}{v:α}(h:xs[j]?=some v):atI xs (j:Int)=some v:=by
 have hj:j<xs.length:=(List.getElem?_eq_some_iff.mp h).1
 have e:ixN xs.length (j:Int)=some j:=by
  unfold ixN
  simp_all
 unfold atI;rw [e];exact h
def zcd (b:Expr):Prop:=∀ o i,subscripted b false o i=operate [o,i] (getItem o i)
def IxR (X:Cx)(r:R2):Prop:=
 ∀ (value slice:Expr) (pins:List (Addr×Obj)) (s:Shared) (σ:St) (H:Hp) (x y:V) (v u:Value) (Q:VK),Inv X pins σ H s->zX x v->zX y u->r x y H Q->
  subscripted slice false v u=operate [v,u] (getItem v u)->wpAny (model X.prog X.w) X.A (subscriptTail value slice v u) (EP X pins σ Q) X.xe s
def MtR (X:Cx)(id:String)(r:V->List V->Hp->VK->Prop):Prop:=
 ∀ (pins:List (Addr×Obj)) (s:Shared) (σ:St) (H:Hp) (x:V) (xs:List V) (v:Value) (us:List Value) (Q:VK),Inv X pins σ H s->zX x v->zY xs us->r x xs H Q->
  wpAny (model X.prog X.w) X.A (call (.builtin id) (v::us)) (EP X pins σ Q) X.xe s
section
variable {X:Cx}{a b:Expr}{ta tb:TE}{pos:Pos}
theorem zoc {r:R2}(hr:IxR X r)(ha:PE X a ta)(hb:PE X b tb)(hs:zcd b):PE X (.Subscript a b pos) (tOp r ta tb):=by
 intro pins s σ H Q I h
 exact Subscript_ (zm1 ha hb I h fun v u s2 x y H2 I2 rx ry q=>hr a b pins s2 σ H2 x y v u Q I2 rx ry q (hs _ _))
def zmQ (K:PySem.W.Frag):R2:=fun x y H Q=>∃ p xs i v,x = .ref p/\y = .int i/\SqL K H p xs/\atI xs i=some v/\Q v H
def zmR (K:PySem.W.Frag):R2:=fun x y H Q=>∃ p xs i v,x = .ref p/\y = .int i/\SqT K H p xs/\atI xs i=some v/\Q v H
theorem zij:IxR X (zmQ X.K):=by
 intro value slice pins s σ H x y v u Q I rx ry h hs
 obtain ⟨p,xs,i,z,rfl,rfl,hq,he,q⟩:=h
 cases rx
 obtain ⟨t,rfl⟩:=ry
 obtain ⟨its,r,pl,hz⟩:=I.list hq
 obtain ⟨j,h1,h2,h3,h4,h5⟩:=zd8 he
 obtain ⟨w,ew,rw'⟩:=r.get h2
 have hl:=r.length
 have hn:=zeV
 have fin:EP X pins σ Q w s:=⟨z,H,I,rw',q⟩
 by_cases h0:0<=i
 ·have hj:i.toNat=j:=by
   rw [seqIndex_of h0 h5] at h1
   simp_all
  exact item_listR pl.isList h0 (by lia) (by rw [hj];simpa using ew) fin hs
 ·have hj:(i+(its.toArray.size:Int)).toNat=j:=by
   rw [seqIndex_neg (by lia) h4] at h1
   simp_all
  exact subscriptTail_builtinR (x:=w) pl.isList.typeIs slot_list_getitem.lookup
   (wpAny_getItem_list_neg (Q:=fun r s'=>r=w/\EP X pins σ Q r s') pl.isList (by lia) (by simp_all) (by lia) (by rw [hj];simpa using ew) ⟨rfl,fin⟩) hs
theorem zkD:IxR X (zmR X.K):=by
 intro value slice pins s σ H x y v u Q I rx ry h hs
 obtain ⟨p,xs,i,z,rfl,rfl,hq,he,q⟩:=h
 cases rx
 obtain ⟨t,rfl⟩:=ry
 obtain ⟨its,r,pl,hz⟩:=I.tuple hq
 obtain ⟨j,h1,h2,h3,h4,h5⟩:=zd8 he
 obtain ⟨w,ew,rw'⟩:=r.get h2
 have hl:=r.length
 have hn:=zeV
 have fin:EP X pins σ Q w s:=⟨z,H,I,rw',q⟩
 exact subscriptTail_builtinR (x:=w) pl.typeIs slot_tuple_getitem.lookup
  (getItem_tuple (j:=j) (Q:=fun r s'=>r=w/\EP X pins σ Q r s') pl (by lia) (by lia) (by simp_all) (by simpa using ew) ⟨rfl,fin⟩) hs
theorem zb2 (lo hi:Option Int)(n:Nat):(sliceBounds lo hi none n).1=((HT.sIx n 0 lo:Nat):Int)/\(sliceBounds lo hi none n).2.1=((HT.sIx n n hi:Nat):Int)/\(sliceBounds lo hi none n).2.2=1:=by
 refine ⟨?_,?_,rfl⟩
 ·cases lo with
  | none=>simp [sliceBounds,HT.sIx]
  | some i=>
   simp only [sliceBounds,HT.sIx,Option.getD_none,show (1:Int) > 0 by decide,if_true]
   by_cases h:i<0
   ·simp only [h,if_true] <;> lia
   ·simp only [h,if_false] <;> lia
 ·cases hi with
  | none=>simp [sliceBounds,HT.sIx]
  | some i=>
   simp only [sliceBounds,HT.sIx,Option.getD_none,show (1:Int) > 0 by decide,if_true]
   by_cases h:i<0
   ·simp only [h,if_true] <;> lia
   ·simp only [h,if_false] <;> lia
theorem zbk (its:List Value)(lo hi:Option Int):slicePick its.toArray lo hi none=((its.drop (HT.sIx its.length 0 lo)).take (HT.sIx its.length its.length hi - HT.sIx its.length 0 lo)).toArray:=by
 obtain ⟨h1,h2,h3⟩:=zb2 lo hi its.toArray.size
 unfold slicePick
 rw [h1,h2,h3]
 simp only [sliceRange_one,pick_run,List.size_toArray] <;> rfl
def rSlL (K:PySem.W.Frag):V->Option Int->Option Int->Hp->VK->Prop:=fun x lo hi H Q=>∃ a xs,x = .ref a/\SqL K H a xs/\∀ p,H p=none->Q (.ref p) (upd H p (.lst (zd1 xs lo hi)))
theorem zjK:SlR X (rSlL X.K):=by
 intro pins s σ H x v vl vu lo hi sl Q I rx hs pl pu h
 obtain ⟨a,xs,rfl,hx,q⟩:=h
 cases rx
 obtain ⟨its,r,ht,hz⟩:=I.list hx
 have hlen:=r.length
 refine ⟨"list",_,slot_list_getitem.lookup,ht.isList.typeIs,?_⟩
 refine wpAny_getItem_list_slice ht.isList hs pl pu .none (by simp) ?_ (by grind)
 rw [zbk,<- hlen]
 refine ⟨.ref s.heap.objs.size,_,I.laid (t':=s.toks) (o:=.lst (zd1 xs lo hi)) (fun b ob q=>Heap.get?_push_of_some _ q) (Nat.le_refl _) ?_,rfl,q _ (I.hok.fresh (Nat.le_refl _))⟩
 exact ⟨Nat.le_trans (uO xs lo hi) hz,_,0,(r.drop (HT.sIx xs.length 0 lo)).take (HT.sIx xs.length xs.length hi - HT.sIx xs.length 0 lo),Heap.get?_push_size _ rfl⟩
def zaW:V->Bool
 | .non=>true
 | .bl _=>true
 | .int _=>true
 | .str _=>true
 | _=>false
def eqV:V->V->Bool
 | .non,.non=>true
 | .bl a,.bl b=>a==b
 | .bl a,.int b=>(if a then 1 else 0)==b
 | .int a,.bl b=>a==(if b then 1 else 0)
 | .int a,.int b=>a==b
 | .str a,.str b=>a==b
 | _,_=>false
theorem zko {A:Around}{s:Shared}{y x:V}{u v:Value}(ry:zX y u)(rx:zX x v)(fy:zaW y=true)(fx:zaW x=true):SeqAt.EqAt A s u v (eqV y x):=by
 cases y with
 | non=>
  cases ry
  cases x with
  | non=>cases rx;exact SeqAt.EqAt.same _
  | bl b=>cases rx;exact SeqAt.EqAt.none_bool b
  | int b=>obtain ⟨t,rfl⟩:=rx;exact SeqAt.EqAt.none_int b t
  | str b=>obtain ⟨t,rfl⟩:=rx;exact SeqAt.EqAt.none_str b t
  | _=>exact absurd (show false=true from fx) Bool.false_ne_true
 | bl a=>
  cases ry
  cases x with
  | non=>cases rx;exact SeqAt.EqAt.bool_none a
  | bl b=>cases rx;exact SeqAt.EqAt.bool_bool a b
  | int b=>obtain ⟨t,rfl⟩:=rx;exact SeqAt.EqAt.bool_int a b t
  | str b=>obtain ⟨t,rfl⟩:=rx;exact SeqAt.EqAt.bool_str a b t
  | _=>exact absurd (show false=true from fx) Bool.false_ne_true
 | int a=>
  obtain ⟨t',rfl⟩:=ry
  cases x with
  | non=>cases rx;exact SeqAt.EqAt.int_none a t'
  | bl b=>cases rx;exact SeqAt.EqAt.int_bool a t' b
  | int b=>obtain ⟨t,rfl⟩:=rx;exact SeqAt.EqAt.int_int a t' b t
  | str b=>obtain ⟨t,rfl⟩:=rx;exact SeqAt.EqAt.int_str a t' b t
  | _=>exact absurd (show false=true from fx) Bool.false_ne_true
 | str a=>
  obtain ⟨t',rfl⟩:=ry
  cases x with
  | non=>cases rx;exact SeqAt.EqAt.str_none a t'
  | bl b=>cases rx;exact SeqAt.EqAt.str_bool a t' b
  | int b=>obtain ⟨t,rfl⟩:=rx;exact SeqAt.EqAt.str_int a t' b t
  | str b=>obtain ⟨t,rfl⟩:=rx;exact SeqAt.EqAt.str_str a t' b t
  | _=>exact absurd (show false=true from fx) Bool.false_ne_true
 | _=>exact absurd (show false=true from fy) Bool.false_ne_true
def eqU (x:V)(u:Value):Bool:=match u with
 | .none=>eqV .non x
 | .bool b=>eqV (.bl b) x
 | .int i _=>eqV (.int i) x
 | .str z _=>eqV (.str z) x
 | _=>false
theorem zhb {x y:V}{u:Value}(r:zX y u)(f:zaW y=true):eqU x u=eqV y x:=by
 cases y with
 | non=>cases r;rfl
 | bl b=>cases r;rfl
 | int i=>obtain ⟨t,rfl⟩:=r;rfl
 | str z=>obtain ⟨t,rfl⟩:=r;rfl
 | _=>exact absurd (show false=true from f) Bool.false_ne_true
theorem zcf {x:V}:∀ {xs:List V} {us:List Value},zY xs us->xs.all zaW=true->us.any (eqU x)=xs.any fun y=>eqV y x
 | _,_,.nil,_=>rfl
 | y::xs,u::us,.cons r t,f=>by
  rw [List.all_cons,Bool.and_eq_true] at f
  rw [List.any_cons,List.any_cons,zhb r f.1,zcf t f.2]
theorem za6 {A:Around}{s:Shared}{x:V}{v:Value}(rx:zX x v)(fx:zaW x=true):∀ {xs:List V} {us:List Value},zY xs us->xs.all zaW=true->∀ u∈us,SeqAt.EqAt A s u v (eqU x u)
 | _,_,.nil,_=>by grind
 | y::xs,u::us,.cons r t,f=>fun u' hu=>by
  rw [List.all_cons,Bool.and_eq_true] at f
  rcases List.mem_cons.mp hu with rfl | hu
  ·rw [zhb r f.1];exact zko r rx f.1 fx
  ·exact za6 rx fx t f.2 u' hu
def inV (x:V)(xs:List V):Bool:=xs.any fun y=>eqV y x
def rIn (K:PySem.W.Frag)(neg:Bool):R2:=fun x y H Q=>∃ p xs,y = .ref p/\(SqL K H p xs\/SqT K H p xs)/\zaW x=true/\xs.all zaW=true/\Q (.bl (if neg then !inV x xs else inV x xs)) H
theorem ze5:OpR X (compareOp .In) (rIn X.K false):=by
 intro pins s σ H x y v u Q I rx ry h
 obtain ⟨p,xs,rfl,hq,fx,fs,q⟩:=h
 cases ry
 rcases hq with hq | hq
 ·obtain ⟨its,r,pl,hz⟩:=I.list hq
  refine SeqAt.in_listAt (eqU x) pl.isList (fun w hw=>za6 rx fx r fs w (by simpa using hw)) ⟨.bl _,H,I,rfl,?_⟩
  rw [show its.toArray.any (eqU x)=its.any (eqU x) by simp,zcf r fs]
  exact q
 ·obtain ⟨its,r,pl,hz⟩:=I.tuple hq
  refine SeqAt.in_tupleAt (eqU x) pl (fun w hw=>za6 rx fx r fs w (by simpa using hw)) ⟨.bl _,H,I,rfl,?_⟩
  rw [show its.toArray.any (eqU x)=its.any (eqU x) by simp,zcf r fs]
  exact q
theorem zaU:zaS X (.type "tuple") (fun xs H Q=>∃ p ys,xs=[.ref p]/\((SqL X.K H p ys/\∀ l,H l=none->Q (.ref l) (upd H l (.tup ys)))\/(SqT X.K H p ys/\Q (.ref p) H))):=by
 intro pins s σ H xs us Q I r h
 obtain ⟨p,ys,rfl,h⟩:=h
 obtain ⟨u,rfl,rx⟩:=zb6 r
 cases rx
 rcases h with ⟨hq,q⟩ | ⟨hq,q⟩
 ·obtain ⟨its,r',pl,hz⟩:=I.list hq
  have hlen:=r'.length
  refine call_tuple_list pl.isList (fun h' kp=>?_) (by grind)
  have I1:Inv X pins σ H { s with heap:=h' }:=I.kept (t':=s.toks) kp
  have I2:Inv X pins σ (upd H h'.objs.size (.tup ys)) { s with heap:=h'.push { cls:=.type "tuple",data:=.seq its.toArray } }:=
   I1.laid (t':=s.toks) (fun b o e=>Heap.get?_push_of_some _ e) (Nat.le_refl _) (show zG X.prog X.w _ _ _ (.tup ys) from ⟨hz,its,r',y8.new _ _⟩)
  exact ⟨.ref h'.objs.size,_,I2,rfl,q _ (I1.hok.fresh (Nat.le_refl _))⟩
 ·obtain ⟨its,r',pl,hz⟩:=I.tuple hq
  exact call_tuple_same pl ⟨.ref p,H,I,rfl,q⟩
def tyV (K:PySem.W.Frag)(T:String)(x:V)(H:Hp):Prop:=match x with
 | .str _=>T = "str"
 | .int _=>T = "int"
 | .ref p=>(T = "list" /\ ∃ xs,SqL K H p xs)\/(T = "tuple" /\ ∃ o,K.lookup p=some o/\o.cls = .type "tuple" /\ o.dict=none)\/
   (T = "dict" /\ ((∃ kvs,H p=some (.dK kvs))\/∃ kvs,H p=some (.dT kvs)))\/(T = "set" /\ ∃ S n,H p=some (.set S n))
 | _=>False
theorem zhF {pins:List (Addr×Obj)}{σ:St}{H:Hp}{s:Shared}{T:String}{x:V}{v:Value}(I:Inv X pins σ H s)(r:zX x v)(ty:tyV X.K T x H) :
  s.TypeIs v T/\∀ a,v = .ref a->∃ ob,s.heap.get? a=some ob/\ob.dict=none:=by
 cases x with
 | str z=>
  obtain ⟨t,rfl⟩:=r
  cases (show T = "str" from ty)
  exact ⟨typeIs_str s z t,fun _ e=>nomatch e⟩
 | int i=>
  obtain ⟨t,rfl⟩:=r
  cases (show T = "int" from ty)
  exact ⟨typeIs_int s i t,fun _ e=>nomatch e⟩
 | ref p=>
  cases r
  rcases ty with ⟨rfl,xs,hq⟩ | ⟨rfl,o,hk,hc,hd⟩ | ⟨rfl,hk⟩ | ⟨rfl,S,n,hk⟩
  ·obtain ⟨its,_,pl,_⟩:=I.list hq
   refine ⟨pl.isList.typeIs,fun a e=>?_⟩
   cases e
   obtain ⟨o,n,e,c,hd,_⟩:=pl
   exact ⟨o,e,hd⟩
  ·refine ⟨⟨o,I.kIn p o hk,hc⟩,fun a e=>?_⟩
   cases e
   exact ⟨o,I.kIn _ o hk,hd⟩
  ·have z:∃ o,s.heap.get? p=some o/\o.ExactDict:=by
    rcases hk with ⟨kvs,hk⟩ | ⟨kvs,hk⟩
    ·obtain ⟨_,_,_,_,o,_,_,e,ex,_⟩:=I.hok p _ hk
     exact ⟨o,e,ex⟩
    ·obtain ⟨_,_,_,_,o,_,_,e,ex,_⟩:=I.hok p _ hk
     exact ⟨o,e,ex⟩
   obtain ⟨o,e,ex⟩:=z
   refine ⟨⟨o,e,ex.1⟩,fun a e2=>?_⟩
   cases e2
   exact ⟨o,e,ex.2.1⟩
  ·obtain ⟨o,_,_,_,e,ex,_⟩:=I.hok p _ hk
   refine ⟨⟨o,e,ex.1⟩,fun a e2=>?_⟩
   cases e2
   exact ⟨o,e,ex.2.1⟩
 | _=>exact False.elim ty
def tBM0 (K:PySem.W.Frag)(T:String)(r:V->List V->Hp->VK->Prop)(to:TE):TE:=fun σ H Q=>to σ H fun x H1=>tyV K T x H1/\r x [] H1 Q
def tBM (K:PySem.W.Frag)(T:String)(r:V->List V->Hp->VK->Prop)(to:TE)(t:TA):TE:=fun σ H Q=>to σ H fun x H1=>tyV K T x H1/\t σ H1 fun xs H2=>r x xs H2 Q
variable {o e:Expr}{es:List Expr}{to:TE}{t:TA}{name:Str}{apos cpos:Pos}{T id:String}{r:V->List V->Hp->VK->Prop}
theorem zlk (pa:PlainAttrs T)(slot:Slot T name id)(hty:typeOf (.builtin id)=pure (.type "method_descriptor"))(hm:MtR X id r)(ho:PE X o to)
  (hbase:attributeBase o name X.env (eval o X.env)=eval o X.env:=by rfl) (hline:(apos.endLine==cpos.line)=true:=by rfl):PE X (.Call (.Attribute o name apos) [] [] cpos) (tBM0 X.K T r to):=by
 intro pins s σ H Q I h
 refine wpAny_Call_method0_late hbase hline (thn (ho pins s σ H _ I h)  ?_)
 rintro v s1 ⟨x,H1,I1,r1,ty,q1⟩
 obtain ⟨h1,h2⟩:=zhF I1 r1 ty
 exact ⟨T,id,pa,slot,hty,h1,h2,Calls.callWith_builtin rfl (PySem.evalArgs_none (hm pins s1 σ H1 x [] v [] Q I1 r1 .nil q1))⟩
theorem zlj (pa:PlainAttrs T)(slot:Slot T name id)(hty:typeOf (.builtin id)=pure (.type "method_descriptor"))(hm:MtR X id r)(ho:PE X o to)(ha:PA X (e::es) t)
  (hbase:attributeBase o name X.env (eval o X.env)=eval o X.env:=by rfl)
  (hfew:((backTo cpos (starEach (e::es) X.env)).all (fun x=>!x.1)&&(backToKw cpos (keywordEach [] X.env)).all (fun x=>x.1.isSome)
   && decide ((e::es).length+([]:List Keyword).length+(if ([]:List Keyword).isEmpty then 0 else 1)<30))=true:=by rfl)
  (hline:(apos.endLine==cpos.line)=true:=by rfl) (hs:starEach (e::es) X.env=(false,eval e X.env)::starEach es X.env:=by rfl) (hplain:(backTo cpos (starEach es X.env)).any (·.1)=false:=by rfl) :
  PE X (.Call (.Attribute o name apos) (e::es) [] cpos) (tBM X.K T r to t):=by
 intro pins s σ H Q I h
 refine wpAny_Call_method_late hbase hfew hline rfl (thn (ho pins s σ H _ I h)  ?_)
 rintro v s1 ⟨x,H1,I1,r1,ty,q1⟩
 obtain ⟨h1,h2⟩:=zhF I1 r1 ty
 refine ⟨T,id,pa,slot,hty,h1,h2,?_⟩
 have hA:=ha cpos pins s1 σ H1 _ I1 q1
 rw [hs] at hA ⊢
 refine Calls.callWith_builtin (by show (false || (backTo cpos (starEach es X.env)).any (·.1))=false;rw [hplain] <;> rfl) (Calls.evalArgs_plain ?_)
 exact thn hA <| by rintro us s2 ⟨vs,H2,I2,r2,q2⟩;exact hm pins s2 σ H2 x vs v us Q I2 r1 r2 q2
end
def MtM (X:Cx)(id:String)(r:V->List V->Hp->VK->Prop):Prop:=
 ∀ (pins:List (Addr×Obj)) (s:Shared) (σ:St) (H:Hp) (x:V) (xs:List V) (v:Value) (us:List Value) (Q:VK),Inv X pins σ H s->zX x v->zY xs us->r x xs H Q->
  wpAny (model X.prog X.w) X.A (call (.builtin id) (v::us)) (EP X pins σ Q) X.xe s
theorem zY.one:∀ {x:V} {us:List Value},zY [x] us->∃ u,us=[u]/\zX x u
 | _,_,.cons r .nil=>⟨_,rfl,r⟩
theorem zY.zero:∀ {us:List Value},zY [] us->us=[]
 | _,.nil=>rfl
theorem zY.reverse {xs:List V}{us:List Value}(h:zY xs us):zY xs.reverse us.reverse:=by
 induction h with
 | nil=>exact .nil
 | cons r t ih=>rw [List.reverse_cons,List.reverse_cons];exact zY.append ih (.cons r .nil)
section
variable {X:Cx}{pins:List (Addr×Obj)}{σ:St}{H:Hp}{s:Shared}{l b:Addr}{xs ys zs:List V}
theorem Inv.lset {its its':List Value}{n:Nat}{f:Array Value->Array Value}{t':Nat}(I:Inv X pins σ H s)(hH:H l=some (.lst xs))
  (e:s.heap.get? l=some { cls:=.type "list",data:=.seq its.toArray n }) (hf:f its.toArray=its'.toArray) (hv:zY ys its') (hz:ys.length<=sizeLine) :
  Inv X pins σ (upd H l (.lst ys)) { s with heap:=s.heap.update l (Obj.mapSeq f),toks:=t' }:=by
 have q:=PySem.IsL.update e f
 rw [hf] at q
 refine I.write (x:=l) (e:=l) (by rw [hH];exact trivial) (.inl rfl) (fun b' u hb hu=>(Heap.get?_update_other s.heap (Obj.mapSeq f) (Ne.symm hb)).trans hu) ⟨_,q⟩ ?_
 exact ⟨hz,its',_,hv,q⟩
theorem Inv.lstM (I:Inv X pins σ H s)(hH:H l=some (.lst xs)):xs.length<=sizeLine/\∃ (its:List Value) (n:Nat),zY xs its/\xs.length=its.length/\s.heap.get? l=some { cls:=.type "list",data:=.seq its.toArray n }:=by
 obtain ⟨z,its,n,r,e⟩:=I.hok l _ hH
 exact ⟨z,its,n,r,r.length,e⟩
theorem zgv {n:Nat}(h:n<=sizeLine):Builtin.List.listTooLong n=false:=by
 unfold Builtin.List.listTooLong
 simp_all
end
section
variable {X:Cx}
def zcU:V->List V->Hp->VK->Prop:=fun x vs H Q=>∃ l xs y,x = .ref l/\vs=[y]/\H l=some (.lst xs)/\xs.length<sizeLine/\Q .non (upd H l (.lst (xs++[y])))
theorem zbQ:MtM X "list.append" zcU:=by
 intro pins s σ H x vs v us Q I rx rv h
 obtain ⟨l,xs,y,rfl,rfl,hH,hz,q⟩:=h
 cases rx
 obtain ⟨u,rfl,ru⟩:=rv.one
 obtain ⟨z,its,n,r,hl,e⟩:=I.lstM hH
 refine call_meets F.slot_list_append ⟨_,e,rfl⟩ F.entry_list_append (F.args_list_append_2 _ _) (PySem.list_append l its.toArray n u (by grind)) ⟨e,?_⟩
 refine ⟨.non,_,I.lset (its':=its++[u]) hH e (by simp) (r.append (.cons ru .nil)) ?_,rfl,q⟩
 rw [List.length_append,List.length_singleton]
 lia
def zjF:V->List V->Hp->VK->Prop:=fun x vs H Q=>∃ l b xs zs,x = .ref l/\vs=[.ref b]/\H l=some (.lst xs)/\H b=some (.lst zs)/\xs.length+zs.length<=sizeLine/\Q .non (upd H l (.lst (xs++zs)))
theorem zeY:MtM X "list.extend" zjF:=by
 intro pins s σ H x vs v us Q I rx rv h
 obtain ⟨l,b,xs,zs,rfl,rfl,hH,hB,hz,q⟩:=h
 cases rx
 obtain ⟨u,rfl,ru⟩:=rv.one
 cases ru
 obtain ⟨z,its,n,r,hl,e⟩:=I.lstM hH
 obtain ⟨z2,its2,n2,r2,hl2,e2⟩:=I.lstM hB
 have hsz:its.toArray.size+its2.toArray.size<=sizeLine:=by rw [List.size_toArray,List.size_toArray];lia
 have hlong:¬ (!its.toArray.isEmpty&&Builtin.List.listTooLong (its.toArray.size+its2.toArray.size))=true:=by
  rw [zgv hsz,Bool.and_false]
  grind
 refine call_meets F.slot_list_extend ⟨_,e,rfl⟩ F.entry_list_extend (F.args_list_extend_2 _ _)
  (AutoSeq1.list_extend_list_list_0 l its.toArray n b its2.toArray n2 hlong (by lia) (by lia)) ⟨e,e2,?_⟩
 refine ⟨.non,_,I.lset (its':=its++its2) hH e (by simp) (r.append r2) ?_,rfl,q⟩
 simp_all
def zds:V->List V->Hp->VK->Prop:=fun x vs H Q=>∃ l xs,x = .ref l/\vs=[]/\H l=some (.lst xs)/\Q .non (upd H l (.lst xs.reverse))
theorem zdQ:MtM X "list.reverse" zds:=by
 intro pins s σ H x vs v us Q I rx rv h
 obtain ⟨l,xs,rfl,rfl,hH,q⟩:=h
 cases rx
 have hus:=rv.zero
 subst hus
 obtain ⟨z,its,n,r,hl,e⟩:=I.lstM hH
 refine call_meets F.slot_list_reverse ⟨_,e,rfl⟩ F.entry_list_reverse (F.args_list_reverse_1 _) (AutoSeq1.list_reverse_list_0 l its.toArray n (by grind)) ⟨e,?_⟩
 refine ⟨.non,_,I.lset (its':=its.reverse) hH e (by simp) r.reverse ?_,rfl,q⟩
 simp_all
end
section
variable {prog:Program}{w:World}{A:Around}{E:Value->Shared->Prop}{s:Shared}
end
section
variable {X:Cx}
end
end L2
namespace Att
open PySem PySem.W PySem.Calls PyProof.Rows
theorem uS {P:Params}{h:Heap}:∀ (ns:List Int) (vs:List Value),WellAll P h vs (ns.map WData.int)->IntsAre vs ns:=by
 intro ns
 induction ns with
 | nil=>
  intro vs w
  rw [List.map_nil] at w
  cases w
  exact .nil
 | cons n ns ih=>
  intro vs w
  rw [List.map_cons] at w
  cases w with
  | cons a b=>
   cases a
   exact .cons _ _ (ih _ b)
theorem zfy {l:OpenLaw}{n:Nat}(hn:l.most=some n){P:Params}{h:Heap}{args:List WData}{vals:List Value}
  (hpre:l.row.toRowW.claim.pre args=true) (hwl:WellAll P h vals args) :
  ∃ a vs ns,vals=[Value.ref a]/\args=[WData.list (ns.map WData.int)]/\h.get? a=some { cls:=.type "list",data:=.seq vs.toArray }/\IntsAre vs ns/\ns.length<=n:=by
 have hsh:WShape.hasAll [] args [.list .int]=true:=(pre_splitW hpre).1
 have hc:l.pre.holds [] { args:=args }=true:=(pre_splitW hpre).2
 obtain ⟨d,r,rfl,h1,h2⟩:=hasAllW_cons hsh
 obtain rfl:=hasAllW_nil h2
 obtain ⟨xs,rfl,h3⟩:=hasW_list h1
 obtain ⟨ns,rfl⟩:=items_int h3
 have hlen:ns.length<=n:=by
  unfold OpenLaw.pre at hc
  have h4:(WTm.not (.lt (.lit (.int (n:Int))) (.len (.arg 0)))).holds [] { args:=[.list (ns.map .int)] }=true:=by
   have h4:=(holds_andW hc).1
   simp_all
  have h5:=condW_of h4 (w_not (w_lt w_lit (w_len_list (w_arg rfl))))
  grind
 cases hwl with
 | cons w1 w2=>
  cases w2
  cases w1 with
  | list ho hall=>exact ⟨_,_,ns,rfl,rfl,ho,uS ns _ hall,hlen⟩
theorem zfb (l:OpenLaw)(args:List WData):l.row.toRowW.claim.post args (.bool true) args=true:=
 postW_of (r:=l.row.toRowW) (X:=(true==true))
  (show WShape.has [] (.bool true) .bool=true by first | rfl | decide | simp [WShape.has,WShape.arms,WShape.armsAll])
  (show (WTm.eq .res (.lit (.bool true))).value [] { args:=args,res:=some (.bool true),after:=args }=some (.bool (true==true)) from w_eq_bool (w_res rfl) w_lit) rfl
theorem attach_call {l:OpenLaw}{n:Nat}{q:Program}{loose:List Str}{XP:(Str->Option Value)->Heap->Prop}{YP:World->Heap->Prop}{d:DefRec}
  (hn:l.most=some n) (hdf:d.params.defaults=[])
  (call:∀ (w:World) (s₀ s₁:Shared) (mg mb:Str->Option Value) (fa:Addr) (o:Obj) (pm cd doc:Value) (a:Addr) (vs:List Value) (ns:List Int),
   Ground q loose [] XP w s₀ mg mb s₁.heap->YP w s₁.heap->
   s₁.heap.get? fa=some o->o.data = .func (docDef d.name d.params d.body d.scope pm cd doc)->s₁.heap.CodeRec cd d.name->mg d.name=some (.ref fa)->
   s₁.heap.get? a=some { cls:=.type "list",data:=.seq vs.toArray }->IntsAre vs ns->ns.length<=n->s₁.gens = #[]->
   codeAny (model l.prog w) callerA (.call (.ref fa) ⟨[.ref a],[]⟩) (fun r s'=>r = .ok (.ret (.bool true))/\OldK s₁.heap s'.heap/\s'.os=s₁.os/\AllBare s'.gens) s₁) :
  WalkO q loose XP YP l.row.toRowW d [] (fun f vs=>PySem.call f vs):=by
 intro w s₀ s₁ mg mb G Y fa o pm cd doc dV kV ho hd hcd hD hmg hg args vals as hpre hlay hrd hwl hlo
 obtain rfl:dV = .none:=Dflts.none hD hdf
 obtain rfl:kV = .none:=Dflts.noKw hD
 obtain ⟨a,vs,ns,rfl,rfl,hobj,hints,hlen⟩:=zfy hn hpre hwl
 refine enter_call (codeAny_mono (call w s₀ s₁ mg mb fa o pm cd doc a vs ns G Y ho (fd_plain hd) hcd hmg hobj hints hlen hg) fun r s' hq=>?_)
 obtain ⟨rfl,h2,h3,h4⟩:=hq
 exact ⟨.inl ⟨.bool true,.bool true,[],rfl,fun _=>rfl,.bool true,zfb l _,fun _=>⟨List.Pairwise.nil,fun _ hm=>(nomatch hm)⟩⟩,h2,h3,h4⟩
section
variable {prog:Program}{w:World}{A:Around}{E:Value->Shared->Prop}{s:Shared}{K:Frag}
def ledger (h:Heap)(L d:Addr):List (Addr×Obj):=(List.range h.objs.size).filterMap fun a=>if a=L\/a=d then none else (h.get? a).map fun o=>(a,o)
end
end Att
namespace L2
open PySem PySem.Spec PyProof.Rows
theorem zb7:∀ {vs:List Value} {ns:List Int},IntsAre vs ns->zY (ns.map V.int) vs
 | _,_,.nil=>.nil
 | _,_,.cons n t h=>.cons ⟨t,rfl⟩ (zb7 h)
def xz (s:Stmt):Arguments:=match s with
 | .FunctionDef _ a _ _ _ _ _ _ _ _=>a
 | _=>{ posonlyargs:=[],args:=[],vararg:=none,kwonlyargs:=[],kw_defaults:=[],kwarg:=none,defaults:=[] }
def zH (s:Stmt):List Stmt:=match s with
 | .FunctionDef _ _ b _ _ _ _ _ _ _=>b
 | _=>[]
def zc (s:Stmt):Scope:=match s with
 | .FunctionDef _ _ _ _ _ _ sc _ _ _=>sc
 | _=>{ kind:=.function,names:=[],isGenerator:=false,isCoroutine:=false }
abbrev CX0:CXT:=fun _ _ _ _ _ _=>False
abbrev E0:XK:=fun _ _ _=>False
theorem zn9 {X:Cx}:zc5 CX0 X E0:=fun _ _ _ _ _ _ _ h=>h.elim
structure Fun (K:PySem.W.Frag)(x qual:Str)(st:Stmt)(f:Addr)(fd:FuncData):Prop where
 ex:∃ (oc:Value) (od:Option Addr) (kV doc pm:Value) (an:Option Addr) (cdv ct:Value) (osl:Array (Option Value)),
  fd=PySem.W.fnOf x qual (xz st) (zH st) (zc st) .none kV doc pm an cdv ct/\K.lookup f=some ⟨oc,od,.func fd,osl⟩/\PySem.W.codeIn K cdv qual=true
 kp:PySem.W.keepIn K (.ref f)=true
section
variable {P:Program}{w:World}{K:PySem.W.Frag}{mg:Str->Option Value}{base:Heap}
theorem Fun.ok {x qual:Str}{st:Stmt}{f:Addr}{fd:FuncData}{N ps:List Str}{k:Nat}{sp:Sp}(F:Fun K x qual st f fd)(S:FnScope N ps (zc st))(len:∀ vs H Q E,sp vs H Q E->vs.length=ps.length)
  (hbody:∀ (cdv:Value) (A:Around) (outer:List Env) (s:Shared) (H:Hp) (vs:List V) (Q:VK) (E:XK),Room k (A.deeper (envOfC qual (zc st) s.heap.objs.size f cdv))->sp vs H Q E->
   ∃ t,PSs (uP CX0 P w K mg base N qual (zc st) f cdv A outer s H E).nox (zH st) t/\t { nx:=fun _ H'=>Q .non H',rt:=Q } (yt N vs) H):FnOk P w K mg base CX0 (k+1) f fd ps sp:=by
 obtain ⟨oc,od,kV,doc,pm,an,cdv,ct,osl,rfl,lk,hcd⟩:=F.ex
 refine zhX lk hcd S len fun A outer s H vs Q E hr hsp=>?_
 obtain ⟨t,h,q⟩:=hbody cdv A outer s H vs Q E hr hsp
 exact ⟨t,h.nox,q⟩
theorem Fun.binds {x qual:Str}{st:Stmt}{f:Addr}{fd:FuncData}{ps:List Str}(F:Fun K x qual st f fd)
  (h:∀ (kV doc pm:Value) (an:Option Addr) (cdv ct:Value) (us:List Value),us.length=ps.length->bindArgs (PySem.W.fnOf x qual (xz st) (zH st) (zc st) .none kV doc pm an cdv ct) ⟨us,[]⟩=pure (ps.zip us)):zca K fd ps []:=by
 obtain ⟨oc,od,kV,doc,pm,an,cdv,ct,osl,rfl,lk,hcd⟩:=F.ex
 exact .all (h kV doc pm an cdv ct)
theorem zhe {x qual:Str}{st:Stmt}{f:Addr}{oc:Value}{od an:Option Addr}{osl:Array (Option Value)}{kV doc pm cdv ct:Value}(l:K.lookup f=some ⟨oc,od,.func (PySem.W.fnOf x qual (xz st) (zH st) (zc st) .none kV doc pm an cdv ct),osl⟩)
  (c:PySem.W.codeIn K cdv qual=true) (k:PySem.W.keepIn K (.ref f)=true):Fun K x qual st f (PySem.W.fnOf x qual (xz st) (zH st) (zc st) .none kV doc pm an cdv ct):=⟨⟨oc,od,kV,doc,pm,an,cdv,ct,osl,rfl,l,c⟩,k⟩
end
theorem zh9 {A:Around}{k:Nat}(hr:Room k A):A.units+1<cLine:=Nat.lt_of_le_of_lt (Nat.add_le_add_left (by decide:1<=64) _) hr.units
theorem zb3 {n:Nat}(h:n<=1000):n<sizeLine:=Nat.lt_of_le_of_lt h (by decide)
section
variable {X:Cx}
end
theorem iteF {A B:Prop}(h:B):if false=true then A else B:=by grind
theorem iteT {A B:Prop}(h:A):if true=true then A else B:=by grind
theorem zmF {c A B:Prop}[Decidable c](h1:c->A)(h2:¬ c->B):if c then A else B:=by grind
def yk (H H':Hp):Prop:=∀ b o,H b=some o->H' b=some o
theorem yk.seq {K:PySem.W.Frag}{H H':Hp}{a:Addr}{xs:List V}(e:yk H H')(h:SqL K H a xs):SqL K H' a xs:=by
 rcases h with (h | ⟨o,h⟩) | h
 ·exact .inl (.inl (e _ _ h))
 ·exact .inl (.inr ⟨o,e _ _ h⟩)
 ·exact .inr h
section
variable {κ:Type}[DecidableEq κ]
end
section
variable {X:Cx}
theorem zch:zaS X (.builtin "isinstance") (fun xs H Q=>∃ x T t b,xs=[x,.ty T]/\TyOf X.K H x t/\PySem.W.kitOne X.K t (.type T)=some b/\Q (.bl b) H):=by
 intro pins s σ H xs us Q I r h
 obtain ⟨x,T,t,b,rfl,ty,e,q⟩:=h
 obtain ⟨u,c,rfl,ru,rc⟩:=zfJ r
 cases rc
 exact zeJ I ru ty e fun tk=>⟨.bl b,H,I.tok tk,rfl,q⟩
def zfn (K:PySem.W.Frag):R2:=fun x y H Q=>∃ a b xs ys,x = .ref a/\y = .ref b/\H a=some (.tup xs)/\H b=some (.tup ys)/\xs.length+ys.length<=sizeLine/\
 ∀ p H',H' p=some (.tup (xs++ys))->yk H H'->Q (.ref p) H'
theorem ziU:OpR X (binaryOp .Add) (zfn X.K):=by
 intro pins s σ H x y v u Q I rx ry h
 obtain ⟨a,b,xs,ys,rfl,rfl,ha,hb,hz,q⟩:=h
 by_cases hx:xs=[]
 ·subst hx
  cases rx
  cases ry
  obtain ⟨its,r1,p1,_⟩:=I.tuple (.of ha)
  obtain ⟨its2,r2,p2,_⟩:=I.tuple (.of hb)
  obtain ⟨⟨cls,dd,data,sl⟩,ho,hc,n,hd⟩:=id p1
  obtain ⟨⟨cls2,dd2,data2,sl2⟩,ho2,hc2,n2,hd2⟩:=id p2
  simp only at hc hd hc2 hd2
  subst hc hd hc2 hd2
  have hi:its=[]:=r1.nil_iff.mpr rfl
  exact concat_meets ⟨_,ho,rfl⟩ ⟨_,ho2,rfl⟩ noFill_tuple_add seq_tuple_add PySem.F.slot_tuple_add PySem.F.entry_tuple_add (PySem.F.args_tuple_add_2 _ _)
   (tuple_addW0 a b its.toArray its2.toArray n n2 dd dd2 sl sl2 (by simp [hi])) ⟨ho,ho2,⟨.ref b,H,I,rfl,q b H hb fun _ _ e=>e⟩⟩
 ·refine ziV pins s σ H _ _ v u Q I rx ry ⟨a,b,xs,ys,rfl,rfl,.of ha,.of hb,hx,hz,fun e=>?_,fun e p hp=>?_⟩
  ·subst e
   exact q a H (by simp_all) fun _ _ e=>e
  ·exact q p _ zh fun c o e=>by rw [zd (zb e hp)];exact e
end
section
variable {X:Cx}
end
end L2
namespace HT
open PySem PySem.Spec PyProof.Rows
section
variable {prog:Program}{w:World}{A:Around}{E:Value->Shared->Prop}{s:Shared}
theorem getItem_tuple_whole {t sl:Addr}{items:Array Value}{vl vu:Value}{lo hi:Option Int}{Q:Value->Shared->Prop}(ht:IsTup s.heap t items)(hs:s.heap.IsSliceOf sl vl vu .none)(pl:IsPart vl lo)(pu:IsPart vu hi)
  (hw:sIx items.size 0 lo=0/\sIx items.size items.size hi=items.size) (h:Q (.ref t) s) (hsz:items.size<=sizeLine):wpAny (model prog w) A (getItem (.ref t) (.ref sl)) Q E s:=by
 obtain ⟨os,hos,hcs,hds⟩:=id hs
 have hTs:s.TypeIs (.ref sl) "slice" := ⟨os,hos,hcs⟩
 unfold getItem
 try with_reducible refine wpAny_holding ?_
 first | refine wpAny_bind (wpAny_pure ?_) | skip
 refine wpAny_bind (wpAny_sequenceKey ht.typeIs (by decide) ?_)
 refine wpAny_bind (wpAny_callSpecial?_slot (name:=Str.ofString "__getitem__") ht.typeIs PyProof.Rows.slot_tuple_getitem
  (wpAny_call_entry PyProof.Rows.slot_tuple_getitem ht.typeIs entry_tuple_getitem ?_ (args_tuple_getitem _ _)))
 show wpAny _ _ (Builtin.Tuple.tupleItemsOf (.ref t) >>= _) _ _ s
 refine wpAny_bind (tupleItemsOf_ ht ?_)
 refine wpAny_bind (wpAny_typeOf hTs ?_)
 rw [if_pos (by decide)]
 refine wpAny_bind (yZ hs pl pu ?_)
 have hyes:(((sIx items.size 0 lo:Nat):Int)==0&&(1:Int)==1&&(sIx items.size items.size hi - sIx items.size 0 lo)==items.size)=true:=by
  simp_all
 show wpAny _ _ (if (((sIx items.size 0 lo:Nat):Int)==0&&(1:Int)==1&&(sIx items.size items.size hi - sIx items.size 0 lo)==items.size)=true then _ else _) _ _ s
 rw [if_pos hyes]
 unfold Builtin.Tuple.tupleIsExact
 refine wpAny_bind (wpAny_bind (wpAny_typeOf ht.typeIs ?_))
 refine wpAny_pure ?_
 rw [if_pos (by decide)]
 refine wpAny_bind (wpAny_rule ?_)
 exact wpAny_pure ⟨_,rfl,wpAny_pure h⟩
end
end HT
namespace L2
open PySem PySem.Spec PyProof.Rows
section
variable {X:Cx}
def rSlA:V->Option Int->Option Int->Hp->VK->Prop:=fun x lo hi H Q=>∃ a xs,x = .ref a/\H a=some (.tup xs)/\∀ p H',H' p=some (.tup (zd1 xs lo hi))->yk H H'->Q (.ref p) H'
theorem zjL:SlR X rSlA:=by
 intro pins s σ H x v vl vu lo hi sl Q I rx hs pl pu h
 obtain ⟨a,xs,rfl,ha,q⟩:=h
 by_cases hw:HT.sIx xs.length 0 lo=0/\HT.sIx xs.length xs.length hi=xs.length
 ·cases rx
  obtain ⟨its,r,ht,hz⟩:=I.tuple (.of ha)
  have hlen:its.toArray.size=xs.length:=by rw [List.size_toArray];exact r.length.symm
  refine ⟨"tuple",_,PyProof.Rows.slot_tuple_getitem.lookup,ht.typeIs,?_⟩
  refine HT.getItem_tuple_whole ht hs pl pu (by rw [hlen];exact hw) ⟨.ref a,H,I,rfl,q a H ?_ fun _ _ e=>e⟩ (by rw [hlen];exact hz)
  unfold zd1
  grind
 ·exact zl9 pins s σ H _ v vl vu lo hi sl Q I rx hs pl pu ⟨a,xs,rfl,.of ha,hw,fun p hp=>q p _ zh fun c o e=>by rw [zd (zb e hp)];exact e⟩
inductive Dt where
 | non | bl (b:Bool) | int (i:Int) | str (x:Str) | tup (l:List Dt) | lst (l:List Dt) | dct
mutual
def Is (H:Hp):Dt->V->Prop
 | .non,v=>v = .non
 | .bl b,v=>v = .bl b
 | .int i,v=>v = .int i
 | .str x,v=>v = .str x
 | .tup l,v=>∃ a xs,v = .ref a/\H a=some (.tup xs)/\IsL H l xs
 | .lst l,v=>∃ a xs,v = .ref a/\H a=some (.lst xs)/\IsL H l xs
 | .dct,v=>∃ a kvs,v = .ref a/\H a=some (.dK kvs)/\kvs=[]
def IsL (H:Hp):List Dt->List V->Prop
 | [],xs=>xs=[]
 | d::ds,xs=>∃ x r,xs=x::r/\Is H d x/\IsL H ds r
end
def kO (d:Addr)(ob:Obj):HO:=.ext fun h=>h.get? d=some ob
open Classical in
@[reducible] noncomputable def pnK:HO->Option (List (Key×V))
 | .dK kvs=>some kvs
 | .ext φ=>if (∃ d ob,(∃ h:Heap,h.get? d=some ob)/\φ=fun h=>h.get? d=some ob) then some [(Sum.inr "at",.non)] else none
 | _=>none
def zn (H H':Hp):Prop:=∀ b o,H b=some o->(∀ kvs,pnK o=some kvs->uH kvs (Sum.inr "at" : Key)=none)->H' b=some o
theorem zn.refl (H:Hp):zn H H:=fun _ _ e _=>e
theorem zn.trans {H H1 H2:Hp}(a:zn H H1)(b:zn H1 H2):zn H H2:=fun c o e n=>b c o (a c o e n) n
theorem zn.same {H H1:Hp}(a:yk H H1):zn H H1:=fun c o e _=>a c o e
theorem zn.upd {H:Hp}{p:Addr}{o:HO}(h:H p=none):zn H (upd H p o):=fun c u e _=>by rw [zd (zb e h)];exact e
theorem yk.upd {H:Hp}{p:Addr}{o:HO}(h:H p=none):yk H (upd H p o):=fun c u e=>by rw [zd (zb e h)];exact e
theorem zn.tup {H H1:Hp}(a:zn H H1){p:Addr}{xs:List V}(h:H p=some (.tup xs)):H1 p=some (.tup xs):=a _ _ h fun _ e=>by cases e
theorem zn.lst {H H1:Hp}(a:zn H H1){p:Addr}{xs:List V}(h:H p=some (.lst xs)):H1 p=some (.lst xs):=a _ _ h fun _ e=>by cases e
mutual
theorem Is.stay {H H1:Hp}(a:zn H H1):∀ {d:Dt} {v:V},Is H d v->Is H1 d v
 | .non,_,h=>h
 | .bl _,_,h=>h
 | .int _,_,h=>h
 | .str _,_,h=>h
 | .tup l,v,h=>by
  obtain ⟨p,xs,e,hp,hl⟩:=h
  exact ⟨p,xs,e,a.tup hp,IsL.stay a hl⟩
 | .lst l,v,h=>by
  obtain ⟨p,xs,e,hp,hl⟩:=h
  exact ⟨p,xs,e,a.lst hp,IsL.stay a hl⟩
 | .dct,v,h=>by
  obtain ⟨p,kvs,e,hp,hl⟩:=h
  exact ⟨p,kvs,e,a _ _ hp fun kvs' e=>by cases e;subst hl;rfl,hl⟩
theorem IsL.stay {H H1:Hp}(a:zn H H1):∀ {ds:List Dt} {xs:List V},IsL H ds xs->IsL H1 ds xs
 | [],_,h=>h
 | d::ds,xs,h=>by
  obtain ⟨x,r,e,h1,h2⟩:=h
  exact ⟨x,r,e,Is.stay a h1,IsL.stay a h2⟩
end
theorem IsL.length {H:Hp}:∀ {ds:List Dt} {xs:List V},IsL H ds xs->xs.length=ds.length
 | [],_,h=>by cases h;rfl
 | d::ds,xs,h=>by
  obtain ⟨x,r,rfl,_,h2⟩:=h
  rw [List.length_cons,List.length_cons,IsL.length h2]
theorem IsL.get {H:Hp}:∀ {ds:List Dt} {xs:List V} {i:Nat} {x:V},IsL H ds xs->xs[i]?=some x->∃ d,ds[i]?=some d/\Is H d x
 | [],_,_,_,h,e=>by cases h;simp at e
 | d::ds,xs,i,x,h,e=>by
  obtain ⟨y,r,rfl,h1,h2⟩:=h
  cases i with
  | zero=>simp at e;subst e;exact ⟨d,rfl,h1⟩
  | succ i=>
   obtain ⟨d',q1,q2⟩:=IsL.get (i:=i) (x:=x) h2 (by simpa using e)
   simp_all
theorem IsL.getD {H:Hp}:∀ {ds:List Dt} {xs:List V} {i:Nat} {d:Dt},IsL H ds xs->ds[i]?=some d->∃ x,xs[i]?=some x/\Is H d x
 | [],_,_,_,_,e=>by simp at e
 | d::ds,xs,i,x,h,e=>by
  obtain ⟨y,r,rfl,h1,h2⟩:=h
  cases i with
  | zero=>simp at e;subst e;exact ⟨y,rfl,h1⟩
  | succ i=>
   obtain ⟨d',q1,q2⟩:=IsL.getD (i:=i) (d:=x) h2 (by simpa using e)
   simp_all
theorem IsL.append {H:Hp}:∀ {ds es:List Dt} {xs ys:List V},IsL H ds xs->IsL H es ys->IsL H (ds++es) (xs++ys)
 | [],_,_,_,h,k=>by cases h;exact k
 | d::ds,es,xs,ys,h,k=>by
  obtain ⟨y,r,rfl,h1,h2⟩:=h
  exact ⟨y,r++ys,rfl,h1,IsL.append h2 k⟩
theorem IsL.take {H:Hp}:∀ {ds:List Dt} {xs:List V} (n:Nat),IsL H ds xs->IsL H (ds.take n) (xs.take n)
 | _,_,0,_=>by simp [IsL]
 | [],_,n+1,h=>by cases h;simp [IsL]
 | d::ds,xs,n+1,h=>by
  obtain ⟨y,r,rfl,h1,h2⟩:=h
  exact ⟨y,r.take n,rfl,h1,IsL.take n h2⟩
theorem IsL.drop {H:Hp}:∀ {ds:List Dt} {xs:List V} (n:Nat),IsL H ds xs->IsL H (ds.drop n) (xs.drop n)
 | _,_,0,h=>h
 | [],_,n+1,h=>by cases h;simp [IsL]
 | d::ds,xs,n+1,h=>by
  obtain ⟨y,r,rfl,h1,h2⟩:=h
  exact IsL.drop n h2
theorem IsL.one {H:Hp}{d:Dt}{x:V}(h:Is H d x):IsL H [d] [x]:=⟨x,[],rfl,h,rfl⟩
theorem IsL.ints {H:Hp}:∀ {ns:List Int},IsL H (ns.map .int) (ns.map .int)
 | []=>rfl
 | n::ns=>⟨_,_,rfl,rfl,IsL.ints⟩
theorem IsL.of_ints {H:Hp}:∀ {ns:List Int} {xs:List V},IsL H (ns.map .int) xs->xs=ns.map .int
 | [],_,h=>h
 | n::ns,xs,h=>by
  obtain ⟨y,r,rfl,h1,h2⟩:=h
  cases h1
  rw [IsL.of_ints h2]
  rfl
def Dt.ty:Dt->String
 | .non => "NoneType" | .bl _ => "bool" | .int _ => "int" | .str _ => "str" | .tup _ => "tuple" | .lst _ => "list" | .dct => "dict"
theorem Is.ty {K:PySem.W.Frag}{H:Hp}:∀ {d:Dt} {v:V},Is H d v->TyOf K H v (.type d.ty)
 | .non,_,h=>by cases h;exact .non
 | .bl _,_,h=>by cases h;exact .bl _
 | .int _,_,h=>by cases h;exact .int _
 | .str _,_,h=>by cases h;exact .str _
 | .tup l,v,h=>by obtain ⟨p,xs,rfl,hp,hl⟩:=h;exact .tup hp
 | .lst l,v,h=>by obtain ⟨p,xs,rfl,hp,hl⟩:=h;exact .lst hp
 | .dct,v,h=>by obtain ⟨p,xs,rfl,hp,hl⟩:=h;exact .dK hp
@[reducible] def Dt.isTup:Dt->Bool
 | .tup _=>true | _=>false
@[reducible] def Dt.isLst:Dt->Bool
 | .lst _=>true | _=>false
@[reducible] def Dt.isInt:Dt->Bool
 | .int _=>true | .bl _=>true | _=>false
@[reducible] def Dt.isBl:Dt->Bool
 | .bl _=>true | _=>false
def Dt.isWhole:Dt->Bool
 | .int _=>true | _=>false
theorem ziA (K:PySem.W.Frag)(d:Dt):PySem.W.kitOne K (.type d.ty) (.type "tuple")=some d.isTup:=by cases d <;> rfl
theorem zkP (K:PySem.W.Frag)(d:Dt):PySem.W.kitOne K (.type d.ty) (.type "bool")=some d.isBl:=by cases d <;> rfl
end
open PySem PySem.Spec PyProof.Rows
def zar (env:Env):List (Str×NameKind)->List (Str×Addr)->List (Str×Addr)
 | [],cs=>cs
 | x::r,cs=>zar env r (if (x.2==NameKind.free)=true then (x.1,(env.cells.lookup x.1).getD 0)::cs else cs)
theorem zaH {env:Env}{scope:Scope}(h:∀ x∈scope.names,x.2 = .free->∃ c,env.cells.lookup x.1=some c):closureFor scope env=pure (zar env scope.names []):=by
 have gen:∀ (names:List (Str×NameKind)) (cs:List (Str×Addr)),(∀ x∈names,x.2 = .free->∃ c,env.cells.lookup x.1=some c)->
   (forIn names cs (fun x r=>match x with
    | (name,kind)=>if (kind==NameKind.free)=true then do let a <- cellOf env name;pure (ForInStep.yield ((name,a)::r)) else pure (ForInStep.yield r)):Sem (List (Str×Addr)))=pure (zar env names cs):=by
  intro names
  induction names with
  | nil=>intro cs _;rfl
  | cons x r ih=>
   intro cs hh
   obtain ⟨n,k⟩:=x
   rw [List.forIn_cons]
   by_cases hk:(k==NameKind.free)=true
   ·obtain ⟨c,hc⟩:=hh (n,k) List.mem_cons_self (eq_of_beq hk)
    have hc':env.cells.lookup n=some c:=hc
    have e:cellOf env n=pure c:=by unfold cellOf;rw [hc']
    simp only [hk,if_true,e,pure_bind]
    rw [ih _ fun y hy=>hh y (List.mem_cons_of_mem _ hy)]
    show pure _=pure (zar env r (if (k==NameKind.free)=true then (n,(env.cells.lookup n).getD 0)::cs else cs))
    simp_all
   ·simp only [hk,pure_bind]
    have e2:zar env ((n,k)::r) cs=zar env r cs:=by
     show zar env r (if (k==NameKind.free)=true then _ else cs)=_
     rw [if_neg hk]
    simp_all
 unfold closureFor
 have:=gen scope.names [] h
 simpa using this
theorem yJ {env:Env}:∀ {names:List (Str×NameKind)} {cs:List (Str×Addr)} {x:Str} {c:Addr},(∀ y∈names,y.2 = .free->∃ c,env.cells.lookup y.1=some c)->(zar env names cs).lookup x=some c->env.cells.lookup x=some c\/cs.lookup x=some c
 | [],_,_,_,_,h=>.inr h
 | (n,k)::r,cs,x,c,hh,h=>by
  have ih:=yJ (names:=r) (x:=x) (c:=c) (fun y hy=>hh y (List.mem_cons_of_mem _ hy)) h
  rcases ih with ih | ih
  ·exact .inl ih
  ·by_cases hk:(k==NameKind.free)=true
   ·obtain ⟨c',hc⟩:=hh (n,k) List.mem_cons_self (eq_of_beq hk)
    grind
   ·simp_all
theorem zaF {env:Env}:∀ {names:List (Str×NameKind)} {cs:List (Str×Addr)} {x:Str},(∃ c,cs.lookup x=some c)->∃ c,(zar env names cs).lookup x=some c
 | [],_,_,h=>h
 | (n,k)::r,cs,x,h=>by
  refine zaF (names:=r) ?_
  grind
theorem yB {env:Env}:∀ {names:List (Str×NameKind)} {cs:List (Str×Addr)} {x:Str},names.lookup x=some .free->∃ c,(zar env names cs).lookup x=some c
 | [],_,_,h=>by simp at h
 | (n,k)::r,cs,x,h=>by
  rw [List.lookup_cons] at h
  cases e:x==n with
  | true=>
   rw [e] at h
   have h':some k=some NameKind.free:=h
   cases h'
   refine zaF (names:=r) ?_
   simp_all
  | false=>
   rw [e] at h
   exact yB (names:=r) h
theorem z5 {env:Env}:∀ {names:List (Str×NameKind)} {x:Str} {k:NameKind},(∀ y∈names,y.2≠.cell)->
  (names.map fun (n,k)=>if (k==NameKind.free&&env.scope.kind==.function&&env.kindOf n==some .cell) then (n,NameKind.cell) else (n,k)).lookup x=some k->(k = .cell\/k = .free)->names.lookup x=some .free
 | [],_,_,_,h,_=>by simp at h
 | (n,k)::r,x,k',hc,h,hk=>by
  have ih:=@z5 env r x k' (fun y hy=>hc y (List.mem_cons_of_mem _ hy))
  grind
theorem z6 {env:Env}:∀ {names:List (Str×NameKind)} {x:Str},names.lookup x=some .free->
  (names.map fun (n,k)=>if (k==NameKind.free&&env.scope.kind==.function&&env.kindOf n==some .cell) then (n,NameKind.cell) else (n,k)).lookup x=some .cell\/
  (names.map fun (n,k)=>if (k==NameKind.free&&env.scope.kind==.function&&env.kindOf n==some .cell) then (n,NameKind.cell) else (n,k)).lookup x=some .free
 | [],_,h=>by simp at h
 | (n,k)::r,x,h=>by
  have ih:=@z6 env r x
  grind
def zu (X:Cx)(scope:Scope)(N:List Str)(C:Addr)(s:Shared)(H:Hp)(ex:List Addr):Cx where
 prog:=X.prog
 w:=X.w
 K:=X.K
 mg:=X.mg
 base:=X.base
 A:=X.A
 N:=N
 s₀:=s
 H₀:=H
 env:=compEnvC scope (zar X.env scope.names []) C X.env
 outer:=X.stack
 stack:=X.stack
 ex:=ex
 fn:=fun _=>false
 calm:=X.calm
 pn:=[]
 xe:=fun _ _=>False
def caps (XN:List Str)(Xnames names:List (Str×NameKind))(N:List Str)(cix:List (Option Nat)):Bool:=
 N.length==cix.length&&(names.all fun y=>y.2 != .cell)&&((N.zip cix).all fun p=>match p.2 with
  | none=>true
  | some i=>XN[i]?==some p.1&&names.lookup p.1==some .free&&(Xnames.lookup p.1==some .cell || Xnames.lookup p.1==some .free)) &&
 (names.all fun y=>y.2 != .free || (Xnames.lookup y.1==some .cell || Xnames.lookup y.1==some .free))
def uw (σ:St)(cix:List (Option Nat)):St:=cix.map fun o=>match o with
 | none=>none
 | some i=>(σ[i]?).join
structure CompOk (X:Cx)(scope:Scope)(N:List Str)(cix:List (Option Nat)):Prop where
 kind:scope.kind = .function
 names:∀ x∈scope.names,x.2 = .local->scope.names.lookup x.1=some .local
 caps:caps X.N X.env.scope.names scope.names N cix=true
section
variable {X:Cx}{pins:List (Addr×Obj)}{σ:St}{H:Hp}{s:Shared}{scope:Scope}{N:List Str}{cix:List (Option Nat)}
theorem CompOk.cell (c:CompOk X scope N cix):∀ y∈scope.names,y.2≠.cell:=fun y hy e=>by
 have h:=c.caps
 unfold L2.caps at h
 rw [Bool.and_eq_true,Bool.and_eq_true,Bool.and_eq_true] at h
 have:=List.all_eq_true.mp h.1.1.2 y hy
 simp_all
theorem CompOk.len (c:CompOk X scope N cix):N.length=cix.length:=by
 have h:=c.caps
 unfold L2.caps at h
 simp_all
theorem CompOk.cells (c:CompOk X scope N cix)(ok:X.Ok):∀ x∈scope.names,x.2 = .free->∃ a,X.env.cells.lookup x.1=some a:=fun x hx e=>by
 have h:=c.caps
 unfold L2.caps at h
 rw [Bool.and_eq_true] at h
 have q:=List.all_eq_true.mp h.2 x hx
 rw [e] at q
 have q':(X.env.scope.names.lookup x.1==some NameKind.cell || X.env.scope.names.lookup x.1==some NameKind.free)=true:=by simpa using q
 rcases Bool.or_eq_true_iff.mp q' with q | q
 ·exact ok.has _ (.inl (eq_of_beq q))
 ·exact ok.has _ (.inr (eq_of_beq q))
theorem CompOk.cap (c:CompOk X scope N cix){j i:Nat}{x:Str}(h1:N[j]?=some x)(h2:cix[j]?=some (some i)):X.N[i]?=some x/\scope.names.lookup x=some .free/\(X.env.scope.names.lookup x=some .cell\/X.env.scope.names.lookup x=some .free):=by
 have h:=c.caps
 unfold L2.caps at h
 rw [Bool.and_eq_true,Bool.and_eq_true] at h
 have hm:(x,some i)∈N.zip cix:=by
  refine List.mem_of_getElem? (i:=j) ?_
  rw [List.getElem?_zip_eq_some]
  exact ⟨h1,h2⟩
 have q:=List.all_eq_true.mp h.1.2 _ hm
 grind
theorem zgd {fp:List Addr}{h':Heap}{tk:Nat}{m:Str->Option Value}(I:Inv X pins σ H s)(c:CompOk X scope N cix)(hf:∀ b∈fp,zbu X pins H b)(hfo:∀ b∈fp,b<s.heap.objs.size)
  (hn:h'.Ns s.heap.objs.size m) (hk:∀ b o,s.heap.get? b=some o->h'.get? b=some o) :
  Inv (zu X scope N s.heap.objs.size s H fp) [] (uw σ cix) H { s with heap:=h',toks:=tk }:=by
 have hcl:=c.cells I.ok
 have back:∀ x a,(zar X.env scope.names []).lookup x=some a->X.env.cells.lookup x=some a:=fun x a e=>by
  rcases yJ hcl e with z | z
  ·exact z
  ·simp at z
 refine ⟨⟨I.mod,c.kind,I.ok.glob,I.ok.blt,Nat.le_refl _,fun x y a e1 e2=>I.ok.inj x y a (back x a e1) (back y a e2),fun x hx=>?_,fun x a z _=>absurd (show (false:Bool)=true from z) (by decide),I.ok.hd,I.ok.frames,.inl rfl,
  fun b hb=>⟨Nat.ne_of_lt (hfo b hb),fun x a e=>(hf b hb).2.2.2.2.1 x a (back x a e)⟩,I.bs,Nat.le_trans I.ok.bsz I.sz,fun b o e hb=>?_,fun b hb z=>?_,I.stack,I.stkFree⟩,
  I.os ▸ rfl,I.bare,Un.kept hk,⟨m,hn,fun j x v h1 h2 h3=>?_⟩,fun x a e=>?_,I.hok.fresh (Nat.le_refl _),fun x a e=>I.freeC x a (back x a e),fun p hp=>absurd (show p∈([]:List (Addr×Obj)) from hp) (by simp),I.hok.kept hk,?_⟩
 ·have hx':((relabel scope X.env).names.lookup x=some .cell\/(relabel scope X.env).names.lookup x=some .free):=hx
  rcases hx' with z | z
  ·exact yB (z5 c.cell z (.inl rfl))
  ·exact yB (z5 c.cell z (.inr rfl))
 ·rcases (hf b hb).2.2.2.1 with z | z
  ·exact I.ok.noex b o e z
  ·exact absurd (Nat.lt_of_lt_of_le (Heap.lt_size e) (Nat.le_trans I.ok.bsz z)) (Nat.lt_irrefl _)
 ·rcases List.mem_cons.mp (I.stkSub b z) with e | e
  ·exact (hf b hb).2.1 e
  ·exact (hf b hb).2.2.1 e
 ·have h1':N[j]?=some x:=h1
  unfold uw at h2
  rw [List.getElem?_map] at h2
  cases e:cix[j]? with
  | none=>rw [e] at h2;cases h2
  | some o=>
   rw [e] at h2
   cases o with
   | none=>cases h2
   | some i=>
    have h2':(σ[i]?).join=some v:=Option.some.inj h2
    have h2'':σ[i]?=some (some v):=by
     cases q:σ[i]? with
     | none=>rw [q] at h2';cases h2'
     | some z=>rw [q] at h2';have:z=some v:=h2';rw [this]
    obtain ⟨q1,q2,q3⟩:=c.cap h1' e
    obtain ⟨m0,hn0,hl0⟩:=I.loc
    obtain ⟨u,ru,hu⟩:=hl0 i x v q1 h2'' (q3.elim (fun z=>.inr (.inl z)) fun z=>.inr (.inr z))
    refine ⟨u,ru,.inr ⟨z6 q2,?_⟩⟩
    rcases hu with ⟨z,_⟩ | ⟨_,a,ha,hcell⟩
    ·have z':X.env.scope.names.lookup x=some .local:=z
     simp_all
    ·obtain ⟨a',ha'⟩:=yB (env:=X.env) (cs:=[]) q2
     have:a'=a:=by have:=(back x a' ha').symm.trans ha;exact Option.some.inj this
     subst this
     obtain ⟨oc,hoc,hd⟩:=hcell
     exact ⟨a',ha',oc,hk _ _ hoc,hd⟩
 ·obtain ⟨v,oc,hoc,hd⟩:=I.cell x a (back x a e)
  exact ⟨v,oc,hk _ _ hoc,hd⟩
 ·show (uw σ cix).length=N.length
  unfold uw
  rw [List.length_map,c.len]
theorem uR {P:Program}{w:World}{H:Hp}{h h':Heap}{a:Addr}(x:HOk P w H h)(hn:H a=none)(hs:Heap.SameBut a h h'):HOk P w H h':=fun b o e=>by
 refine (x b o e).stay (fun c u hc q=>(hs.2 c ?_).trans q) (fun _ q=>q) fun _ _ q=>q
 grind
theorem zdL {fp:List Addr}{σ':St}{H':Hp}{s':Shared}{h'':Heap}(I:Inv X pins σ H s)(hf:∀ b∈fp,zbu X pins H b)(I':Inv (zu X scope N s.heap.objs.size s H fp) [] σ' H' s')(hs:Heap.SameBut s.heap.objs.size s'.heap h'') :
  Inv X pins σ H' { s' with heap:=h'' }:=by
 have ne:∀ b o,s.heap.get? b=some o->b≠s.heap.objs.size:=fun b o e=>Nat.ne_of_lt (Heap.lt_size e)
 have u:=I'.base
 refine Inv.call' (ch:=fp) I I'.os ⟨fun b o e n hb hx=>?_,fun b o e n hb hx=>?_,u.free,fun b o e hx=>?_,u.tups,u.frzs,u.tbls⟩ (uR I'.hok I'.free hs) I'.bare fun b hb=>⟨(hf b hb).2.2.2.1,(hf b hb).2.1,(hf b hb).2.2.2.2.1,(hf b hb).2.2.2.2.2⟩
 ·exact (hs.2 b (ne b o e)).trans (u.keep b o e n hb hx)
 ·obtain ⟨sl,q⟩:=u.slot b o e n hb hx
  exact ⟨sl,(hs.2 b (ne b o e)).trans q⟩
 ·obtain ⟨o',q⟩:=u.there b o e hx
  exact ⟨o',(hs.2 b (ne b o e)).trans q⟩
end
section
variable {prog:Program}{w:World}{A:Around}{R:Result->Shared->Prop}{s:Shared}
theorem zaV {elt target iter:Expr}{ifs:List Expr}{scope:Scope}{pos:Pos}{it acc:Value}{env:Env}(I:Nat->Shared->Prop)
  (turn:∀ n s,I n s->wpAny (model prog w) A (pyNext it) (fun r s₁=>match r with
   | none=>R (.ok .next) s₁
   | some v=>wpAny (model prog w) A (letOwnedTupleGo target it v) (fun _ s₂=>wpAny (model prog w) A (assign target env v) (fun _ s₃=>
     wpAny (model prog w) A (forIn ifs true fun c r=>if r=true then do let ok <- isTrue c env (eval c env);pure (ForInStep.yield ok) else pure (ForInStep.yield r)) (fun ok s₄=>
      if ok=true then wpAny (model prog w) A (eval elt env) (fun x s₅=>
       wpAny (model prog w) A (call (.builtin "list.append") [acc,x]) (fun _ s₆=>∃ m,m<n/\I m s₆) (fun _ _=>False) s₅) (fun _ _=>False) s₄
      else ∃ m,m<n/\I m s₄) (fun _ _=>False) s₃) (fun _ _=>False) s₂) (fun _ _=>False) s₁) (fun _ _=>False) s)
  (n:Nat) (h:I n s) :
  codeAny (model prog w) A (.compLoop (.ListComp elt [⟨target,iter,ifs,0⟩] scope pos) 0 it acc env) R s:=by
 refine codeAny_loop rfl I (fun n s hI=>?_) n h
 show wpAny _ A ((compTurn (.ListComp elt [⟨target,iter,ifs,0⟩] scope pos) 0 it acc env).onRaise (fun x=>do noteFrame x env;theTreesLotGoes x)) _ _ s
 refine wpAny_noted ?_
 rw [compTurn_list]
 refine wpAny_bind (wpAny_standAt (wpAny_bind (wpAny_mono (turn n s hI) (fun r s₁ h₁=>?_) fun _ _ h'=>h'.elim)))
 cases r with
 | none=>exact wpAny_pure h₁
 | some v=>
  refine wpAny_bind (wpAny_mono h₁ (fun _ s₂ h₂=>?_) fun _ _ h'=>h'.elim)
  refine wpAny_bind (wpAny_mono h₂ (fun _ s₃ h₃=>wpAny_bind (wpAny_mono h₃ (fun ok s₄ h₄=>?_) fun _ _ h'=>h'.elim)) fun _ _ h'=>h'.elim)
  cases ok with
  | false=>exact wpAny_pure ⟨rfl,h₄⟩
  | true=>
   exact wpAny_bind (wpAny_bind (wpAny_mono h₄ (fun x s₅ h₅=>wpAny_bind (wpAny_mono h₅ (fun _ s₆ h₆=>wpAny_pure (wpAny_pure ⟨rfl,h₆⟩)) fun _ _ h'=>h'.elim)) fun _ _ h'=>h'.elim))
end
def PTs (X:Cx)(ifs:List Expr)(t:TT):Prop:=
 ∀ (pins:List (Addr×Obj)) (s:Shared) (σ:St) (H:Hp) (Q:Bool->Hp->Prop),Inv X pins σ H s->t σ H Q->
  wpAny (model X.prog X.w) X.A (forIn ifs true fun c r=>if r=true then do let ok <- isTrue c X.env (eval c X.env);pure (ForInStep.yield ok) else pure (ForInStep.yield r)) (TP X pins σ Q) X.xe s
def ub:TT:=fun _ H Q=>Q true H
theorem zjn {X:Cx}:PTs X [] ub:=fun pins s σ H Q I h=>wpAny_tests_nil ⟨H,I,h⟩
theorem zjo {X:Cx}{c:Expr}{t:TT}(h:PT X c t):PTs X [c] t:=fun pins s σ H Q I q=>wpAny_tests_one (h pins s σ H Q I q)
def zor (wi:TI)(g:TG)(ti:TT)(te:TE)(cix:List (Option Nat)):TE:=fun σ H Q=>wi σ H fun J H1=>∀ acc,H1 acc=none->∃ W:Nat->Nat->St->Hp->Prop,(∃ m,W 0 m (uw σ cix) (upd H1 acc (.lst [])))/\
 ∀ i m σ' H',W i m σ' H'->(J.stop i H'/\Q (.ref acc) H')\/(J.go i H'/\∃ N:St->Hp->Prop,(∀ σ2 H2,N σ2 H2->∃ m',m'<m/\W (i+1) m' σ2 H2)/\
  ∀ x H2,J.yld i H' x H2->g x σ' H2 fun σ3 H3=>ti σ3 H3 fun ok H4=>if ok=true then te σ3 H4 fun v H5=>∃ xs,H5 acc=some (.lst xs)/\xs.length<sizeLine/\N σ3 (upd H5 acc (.lst (xs++[v]))) else N σ3 H4)
def zef (g:TG)(ti:TT)(te:TE)(acc:Addr)(N:St->Hp->Prop)(x:V)(σ:St)(H:Hp):Prop:=
 g x σ H fun σ3 H3=>ti σ3 H3 fun ok H4=>if ok=true then te σ3 H4 fun v H5=>∃ xs,H5 acc=some (.lst xs)/\xs.length<sizeLine/\N σ3 (upd H5 acc (.lst (xs++[v]))) else N σ3 H4
def zg3 (M:Model)(A:Around)(e:Expr)(k:Nat)(tg:Expr)(ifs:List Expr)(it acc:Value)(env:Env)(B:(Shared->Prop)->Shared->Prop):Prop:=
 ∀ (R:Result->Shared->Prop) (s:Shared) (I:Nat->Shared->Prop),(∀ n s,I n s->wpAny M A (pyNext it) (fun r s₁=>match r with
   | none=>R (.ok .next) s₁
   | some v=>wpAny M A (letOwnedTupleGo tg it v) (fun _ s₂=>wpAny M A (assign tg env v) (fun _ s₃=>
     wpAny M A (forIn ifs true fun c r=>if r=true then do let ok <- isTrue c env (eval c env);pure (ForInStep.yield ok) else pure (ForInStep.yield r)) (fun ok s₄=>
      if ok=true then B (fun s'=>∃ m,m<n/\I m s') s₄ else ∃ m,m<n/\I m s₄) (fun _ _=>False) s₃) (fun _ _=>False) s₂) (fun _ _=>False) s₁) (fun _ _=>False) s)->
  ∀ n,I n s->codeAny M A (.compLoop e k it acc env) R s
theorem zbN {X:Cx}{e tg:Expr}{k:Nat}{ifs:List Expr}{it acc:Addr}{fp:List Addr}{tn:Nat->Heap->Prop}{J:It}{g:TG}{ti:TT}{tb:(St->Hp->Prop)->St->Hp->Prop}{B:(Shared->Prop)->Shared->Prop}{pl:List (Addr×Obj)}{Fin:St->Hp->Prop}{R:Result->Shared->Prop}{W:Nat->Nat->St->Hp->Prop}{m0:Nat}{σ0:St}{H0:Hp}{s0:Shared}
  (L:zg3 (model X.prog X.w) X.A e k tg ifs (.ref it) (.ref acc) X.env B) (hc:X.calm=true) (xX:X.xe=fun _ _=>False) (T:Turn X.prog X.w X.K tg J fp it tn) (f4:∀ {H':Hp},(∀ b∈fp,H' b=none)->∀ b∈fp,zbu X pl H' b) (hg:PG X tg g) (ht:PTs X ifs ti)
  (hb:∀ pl' s σ H (Nx:St->Hp->Prop) (P:Shared->Prop),Inv X (pl++pl') σ H s->tb Nx σ H->(∀ σ' H' s',Inv X (pl++pl') σ' H' s'->Nx σ' H'->P s')->B P s)
  (turn:∀ i n σ H,W i n σ H->(J.stop i H/\Fin σ H)\/(J.go i H/\∃ Nx:St->Hp->Prop,(∀ σ' H',Nx σ' H'->∃ m,m<n/\W (i+1) m σ' H')/\∀ x H',J.yld i H x H'->g x σ H' fun σ2 H2=>ti σ2 H2 fun b H3=>if b=true then tb Nx σ2 H3 else Nx σ2 H3))
  (fin:∀ σ H s,Inv X pl σ H s->Fin σ H->R (.ok .next) s) (I0:Inv X pl σ0 H0 s0) (st0:tn 0 s0.heap) (fr0:∀ b∈fp,H0 b=none) (w0:W 0 m0 σ0 H0) :
  codeAny (model X.prog X.w) X.A (.compLoop e k (.ref it) (.ref acc) X.env) R s0:=by
 refine L R s0 (fun n s'=>∃ i σ' H',Inv X pl σ' H' s'/\tn i s'.heap/\(∀ b∈fp,H' b=none)/\W i n σ' H') ?_ m0 ⟨0,σ0,H0,I0,st0,fr0,w0⟩
 rintro n s5 ⟨i,σ5,H5,I5,st5,fr5,w5⟩
 rcases turn i n σ5 H5 w5 with ⟨stop,qn⟩ | ⟨go,Nx,hN,step⟩
 ·refine thn (T.done X rfl rfl rfl hc i pl s5 σ5 H5 (fun _ _=>False) I5 (f4 fr5) st5 stop) ?_
  rintro r s6 ⟨hr,I6⟩
  subst hr
  exact fin σ5 H5 s6 I6 qn
 ·refine thn (T.item X rfl rfl rfl hc i pl s5 σ5 H5 (fun _ _=>False) I5 (f4 fr5) st5 go) ?_
  rintro r s6 ⟨u,hr,h6⟩
  subst hr
  refine thn h6 ?_
  rintro _ s7 ⟨x,H7,I7,r7,y7,st7,fr7⟩
  have I7':=I7.pinned (f4 fr7) (T.obj _ _ st7)
  have a7:=hg _ s7 σ5 H7 x u _ I7' r7 (step x H7 y7)
  rw [xX] at a7
  refine thn a7 ?_
  rintro _ s8 ⟨σ8,H8,I8,q8⟩
  have t8:=ht _ s8 σ8 H8 _ I8 q8
  rw [xX] at t8
  refine thn t8 ?_
  rintro ok s9 ⟨H9,I9,q9⟩
  have ag:∀ σ' H' s',Inv X (pl++zbX fp s7.heap) σ' H' s'->Nx σ' H'->∃ m,m<n/\∃ i σ' H',Inv X pl σ' H' s'/\tn i s'.heap/\(∀ b∈fp,H' b=none)/\W i m σ' H':=fun σ' H' s' J' n'=>by
   obtain ⟨m',hm,w'⟩:=hN σ' H' n'
   have pn:∀ b∈fp,∀ o,s7.heap.get? b=some o->s'.heap.get? b=some o/\H' b=none:=fun b hb o e=>by
    have:=J'.pin (b,o) (List.mem_append_right _ (List.mem_append_right _ (x6 hb e)))
    simp_all
   refine ⟨m',hm,i+1,σ',H',J'.unpinned,T.keep _ _ _ st7 fun b hb o e=>(pn b hb o e).1,fun b hb=>?_,w'⟩
   obtain ⟨o,e,_⟩:=T.obj _ _ st7 b hb
   simp_all
  cases ok with
  | false=>exact ag _ _ _ I9 q9
  | true=>exact hb _ s9 σ8 H9 _ _ I9 q9 ag
structure Inn (X X':Cx)(pins:List (Addr×Obj))(σ:St)(fp:List Addr)(C:Addr):Prop where
 pX:X'.prog=X.prog
 wX:X'.w=X.w
 KX:X'.K=X.K
 AX:X'.A=X.A
 cX:X'.calm=X.calm
 xX:X'.xe=fun _ _=>False
 lX:X'.env.locals=C
 f4:∀ {H':Hp},(∀ b∈fp,H' b=none)->∀ b∈fp,zbu X' [] H' b
 back:∀ {σ':St} {H':Hp} {s':Shared} {h'':Heap},Inv X' [] σ' H' s'->Heap.SameBut C s'.heap h''->Inv X pins σ H' { s' with heap:=h'' }
structure Opn (X:Cx)(scope:Scope)(cix:List (Option Nat))(Fam:Cx->Prop):Prop where
 kind:scope.kind = .function
 names:∀ x∈scope.names,x.2 = .local->scope.names.lookup x.1=some .local
 cells:X.Ok->∀ x∈scope.names,x.2 = .free->∃ a,X.env.cells.lookup x.1=some a
 run:∀ (pins:List (Addr×Obj)) (σ:St) (H3:Hp) (s3:Shared) (fp:List Addr) (Q:Env->Shared->Prop),Inv X pins σ H3 s3->(∀ b∈fp,zbu X pins H3 b)->(∀ b∈fp,b<s3.heap.objs.size)->
  (∀ X' cenv s4,Fam X'->Inn X X' pins σ fp s3.heap.objs.size->cenv.locals=s3.heap.objs.size->X'.env={ cenv with scope:=relabel scope X.env }->Inv X' [] (uw σ cix) H3 s4->(∀ b o,s3.heap.get? b=some o->s4.heap.get? b=some o)->Q cenv s4)->
  wpAny (model X.prog X.w) X.A (newFunctionEnv scope X.env.globals (zar X.env scope.names []) [] X.env.qual none .none (some X.env)) Q X.xe s3
theorem zbB {X:Cx}{Fam:Cx->Prop}{scope:Scope}{cix:List (Option Nat)}{use:Option (Value->Sem Unit)}{Qp:Value->Shared->Prop}{e tg iter:Expr}{ifs:List Expr}{gs:List Comprehension}{pos:Pos}{newAcc:Sem Value}{ob:Obj}{o0:Addr->HO}{B:Cx->Addr->(Shared->Prop)->Shared->Prop}{tb:Addr->(St->Hp->Prop)->St->Hp->Prop}{Fin:Addr->Hp->Prop}{wi:TI}{g:TG}{ti:TT}{Kk:It->Hp->Prop}{pins:List (Addr×Obj)}{σ:St}{H:Hp}{s:Shared}
  (O:Opn X scope cix Fam) (hc:X.calm=true) (hcl:clausesOf e=⟨tg,iter,ifs,0⟩::gs) (hs:∀ x,foldedSetIterable iter X.env x=pure x)
  (hst:∀ (R:Result->Shared->Prop) (s:Shared) (it acc:Value) (env:Env),codeAny (model X.prog X.w) X.A (.compLoop e 0 it acc env) R s->wpAny (model X.prog X.w) X.A (pyIter it) (fun it' s'=>codeAny (model X.prog X.w) X.A (.compLoop e 0 it' acc env) R s') (notedBy (model X.prog X.w) X.A env fun x s'=>R (.error x) s') s->codeAny (model X.prog X.w) X.A (.compStart e 0 it acc env) R s)
  (hL:∀ X',Fam X'->∀ it acc,zg3 (model X'.prog X'.w) X'.A e 0 tg ifs it (.ref acc) X'.env (B X' acc))
  (hacc:∀ (s:Shared) (Q:Value->Shared->Prop),Q (.ref s.heap.objs.size) { s with heap:=s.heap.push ob }->wpAny (model X.prog X.w) X.A newAcc Q X.xe s)
  (hob:∀ {pins σ H s},Inv X pins σ H s->∀ H',zG X.prog X.w H' (s.heap.push ob) s.heap.objs.size (o0 s.heap.objs.size))
  (hi:PI X tg iter wi) (hg:∀ X',Fam X'->PG X' tg g) (ht:∀ X',Fam X'->PTs X' ifs ti)
  (hb:∀ X',Fam X'->X'.prog=X.prog->X'.w=X.w->X'.A=X.A->X'.calm=true->X'.xe=(fun _ _=>False)->∀ acc pl s σ H (Nx:St->Hp->Prop) (P:Shared->Prop),Inv X' pl σ H s->tb acc Nx σ H->(∀ σ' H' s',Inv X' pl σ' H' s'->Nx σ' H'->P s')->B X' acc P s)
  (I:Inv X pins σ H s) (h:wi σ H Kk)
  (hK:∀ J H1 acc,Kk J H1->H1 acc=none->∃ W:Nat->Nat->St->Hp->Prop,(∃ m,W 0 m (uw σ cix) (upd H1 acc (o0 acc)))/\∀ i n σ H,W i n σ H->(J.stop i H/\Fin acc H)\/(J.go i H/\∃ Nx:St->Hp->Prop,(∀ σ' H',Nx σ' H'->∃ m,m<n/\W (i+1) m σ' H')/\∀ x H',J.yld i H x H'->g x σ H' fun σ2 H2=>ti σ2 H2 fun b H3=>if b=true then tb acc Nx σ2 H3 else Nx σ2 H3))
  (hfin:∀ acc C H5 s6,zbu X pins H5 C->(∃ m,s6.heap.Ns C m)->(∀ h'',Heap.SameBut C s6.heap h''->Inv X pins σ H5 { s6 with heap:=h'' })->Fin acc H5->compPost (model X.prog X.w) X.A X.xe use Qp (.ref acc) C (.ok .next) s6) :
  wpAny (model X.prog X.w) X.A (comprehension e scope X.env pos newAcc false (eval iter X.env) use) Qp X.xe s:=by
 refine wpAny_comprehension_free (use:=use) hcl hs (zaH (O.cells I.ok)) O.kind O.names (thn (hi pins s σ H _ I h) fun xv s1 h1=>thn h1 fun itv s2 h2=>?_)
 obtain ⟨it,fp,tn,J,H2,e,I2,T,st2,f2,q2⟩:=h2
 subst e
 refine hacc s2 _ ?_
 have hnone:=I2.hok.fresh (Nat.le_refl s2.heap.objs.size)
 obtain ⟨W,⟨m0,w0⟩,turn⟩:=hK J H2 s2.heap.objs.size q2 hnone
 have kp2:∀ b o,s2.heap.get? b=some o->(s2.heap.push ob).get? b=some o:=fun b u e=>Heap.get?_push_of_some _ e
 have I3:Inv X pins σ (upd H2 s2.heap.objs.size (o0 s2.heap.objs.size)) { s2 with heap:=s2.heap.push ob,toks:=s2.toks }:=I2.laid (t':=s2.toks) kp2 (Nat.le_refl _) (hob I2 _)
 have ltF:∀ b∈fp,b<s2.heap.objs.size:=fun b hb=>by
  obtain ⟨o,ho,_⟩:=T.obj _ _ st2 b hb
  exact Heap.lt_size ho
 have fn:∀ b∈fp,upd H2 s2.heap.objs.size (o0 s2.heap.objs.size) b=none:=fun b hb=>by rw [zd (Nat.ne_of_lt (ltF b hb))];exact (f2 b hb).1
 refine O.run pins σ _ _ fp _ I3 (fun b hb=>⟨fn b hb,(f2 b hb).2⟩) (fun b hb=>Nat.lt_trans (ltF b hb) (by simp)) fun X' cenv s4 hF N hl hE I4 kp=>?_
 rw [<- hE,hl]
 have st4:tn 0 s4.heap:=T.keep _ _ _ st2 fun b hb o e=>kp b o (kp2 b o e)
 have cX:=N.cX.trans hc
 have loop:=zbN (X:=X') (R:=compPost (model X.prog X.w) X.A X.xe use Qp (.ref s2.heap.objs.size) (s2.heap.push ob).objs.size) (Fin:=fun _ H=>Fin s2.heap.objs.size H) (pl:=[]) (hL X' hF (.ref it) s2.heap.objs.size) cX N.xX (by rw [N.pX,N.wX,N.KX];exact T) N.f4 (hg X' hF) (ht X' hF) (hb X' hF N.pX N.wX N.AX cX N.xX s2.heap.objs.size) turn (fun σ5 H5 s6 I6 q=>?_) I4 st4 fn w0
 ·rw [N.pX,N.wX,N.AX] at loop
  exact hst _ _ _ _ _ loop (T.self X.A 0 _ _ _ st4 loop)
 ·have hfr:H5 (s2.heap.push ob).objs.size=none:=by have:=I6.free;rwa [N.lX] at this
  obtain ⟨m6,hn6,_⟩:=I6.loc
  rw [N.lX] at hn6
  exact hfin _ _ H5 s6 (I3.fpOk (Nat.le_refl _) hfr) ⟨m6,hn6⟩ (fun h'' hs=>N.back I6 hs) q
section
variable {X:Cx}{scope:Scope}{N:List Str}{cix:List (Option Nat)}{z:Str}
theorem u9 (c:CompOk X scope N cix):Opn X scope cix (fun X'=>∃ C s H ex,X'=zu X scope N C s H ex) where
 kind:=c.kind
 names:=c.names
 cells:=c.cells
 run:=fun pins σ H3 s3 fp Q I3 f3 ltF k=>by
  refine wpAny_newFunctionEnv c.cell (by simp) (fun h4 hns4 hsb4=>?_) c.kind
  have kp:∀ b o,s3.heap.get? b=some o->h4.get? b=some o:=fun b o e=>hsb4.extBut b o (Nat.ne_of_lt (Heap.lt_size e)) (Heap.get?_push_of_some _ e)
  refine k (zu X scope N s3.heap.objs.size s3 H3 fp) _ _ ⟨_,_,_,_,rfl⟩ ⟨rfl,rfl,rfl,rfl,rfl,rfl,rfl,fun {H'} hn b hb=>⟨hn b hb,Nat.ne_of_lt (ltF b hb),fun y=>?_,.inl hb,fun x a e=>?_,fun p hp=>?_⟩,fun I' hs=>zdL I3 f3 I' hs⟩ rfl rfl (zgd I3 c f3 ltF hns4 kp) kp
  ·rcases List.mem_cons.mp (I3.stkSub b y) with e | e
   ·exact (f3 b hb).2.1 e
   ·exact (f3 b hb).2.2.1 e
  ·rcases yJ (c.cells I3.ok) e with y | y
   ·exact (f3 b hb).2.2.2.2.1 x a y
   ·simp at y
  ·exact absurd (show p∈([]:List (Addr×Obj))++[] from hp) (by simp)
theorem zdg {pins:List (Addr×Obj)}{σ:St}{Q:VK}{acc C:Addr}{H5:Hp}{s6:Shared}(hm:∃ m,s6.heap.Ns C m)(hb:∀ h'',Heap.SameBut C s6.heap h''->Inv X pins σ H5 { s6 with heap:=h'' })(q:Q (.ref acc) H5):compPost (model X.prog X.w) X.A X.xe none (EP X pins σ Q) (.ref acc) C (.ok .next) s6:=
 let ⟨m,hn⟩:=hm;⟨m,hn,fun h7 hs7=>⟨.ref acc,H5,hb h7 hs7,rfl,q⟩⟩
theorem zc8 {e:Expr}{pos spos px:Pos}{ix:Nat}{nx:Str}{newAcc first:Sem Value}{D:Ends}{pins:List (Addr×Obj)}{σ:St}{s:Shared}(hNd:X.N.Nodup)(hix:X.N[ix]?=some nx)(hlx:X.env.scope.names.lookup nx=some .local)
  (hsw:swapsWithSole [.Name nx px] e spos.line X.env=pure true) (h1a:(assignEach [.Name nx px] X.env).map (·.2)=[assign (.Name nx px) X.env]) (heU:∀ U,evalThenUse e X.env U=comprehension e scope X.env pos newAcc false first (some U) >>= fun _=>pure ())
  (h:∀ (U:Value->Sem Unit) (Qp:Value->Shared->Prop),(∀ acc C H5 s6,zbu X pins H5 C->(∃ m,s6.heap.Ns C m)->(∀ h'',Heap.SameBut C s6.heap h''->Inv X pins σ H5 { s6 with heap:=h'' })->D.nx (σ.set ix (some (.ref acc))) H5->compPost (model X.prog X.w) X.A X.xe (some U) Qp (.ref acc) C (.ok .next) s6)->wpAny (model X.prog X.w) X.A (comprehension e scope X.env pos newAcc false first (some U)) Qp X.xe s) :
  wpAny (model X.prog X.w) X.A (exec (.Assign [.Name nx px] e spos) X.env) (SP X pins D) X.xe s:=by
 rw [exec_Assign_arm]
 refine wpAny_bind (wpAny_standAt ?_)
 rw [hsw]
 refine wpAny_bind (wpAny_pure ?_)
 rw [if_pos rfl]
 refine wpAny_bind ?_
 rw [heU]
 refine wpAny_bind ?_
 refine h _ _ fun acc C H5 s6 fC hm hbk q=>?_
 have IX:=hbk _ ⟨rfl,fun _ _=>rfl⟩
 show wpAny _ _ (assignAll _ ((assignEach [.Name nx px] X.env).map (·.2))) _ _ s6
 rw [h1a]
 refine wpAny_assign_Name (x:=nx) (pos:=px) ?_
 refine zb5 IX hNd hix (Or.inl hlx) (v:=.ref acc) rfl (fun s7 I7 ⟨a7,hs7,ha7⟩=>?_) (.inr hlx)
 have hCa:C≠a7:=by
  intro z
  rcases ha7 with e | e
  ·exact fC.2.1 (z.trans e)
  ·exact fC.2.2.2.2.1 nx a7 e z.symm
 obtain ⟨m6,oC,esC,epC,hoC,rC⟩:=hm
 refine ⟨m6,⟨oC,esC,epC,(hs7.2 _ hCa).trans hoC,rC⟩,fun h8 hs8=>wpAny_pure (wpAny_pure ?_)⟩
 exact ⟨_,H5,I7.turned (t':=s7.toks) (fun b o hb e=>(hs8.2 b hb).trans e) fC.1 fC.2.1 fC.2.2.2.1 fC.2.2.2.2.1 fC.2.2.2.2.2,q⟩
end
section
variable {X:Cx}{Fam:Cx->Prop}{scope:Scope}{N:List Str}{cix:List (Option Nat)}{z:Str}{use:Option (Value->Sem Unit)}{Qp:Value->Shared->Prop}{elt tg iter:Expr}{ifs:List Expr}{pos ipos spos px:Pos}{wi:TI}{g:TG}{ti:TT}{te:TE}{pins:List (Addr×Obj)}{σ:St}{H:Hp}{s:Shared}{Fin:Addr->Hp->Prop}
theorem zc7 {P:Shared->Prop}{acc:Addr}{Nx:St->Hp->Prop}(he:PE X elt te)(xX:X.xe=fun _ _=>False)(I:Inv X pins σ H s)(q:te σ H fun v H'=>∃ xs,H' acc=some (.lst xs)/\xs.length<sizeLine/\Nx σ (upd H' acc (.lst (xs++[v]))))(k:∀ σ' H' s',Inv X pins σ' H' s'->Nx σ' H'->P s') :
  wpAny (model X.prog X.w) X.A (eval elt X.env) (fun x s5=>wpAny (model X.prog X.w) X.A (call (.builtin "list.append") [.ref acc,x]) (fun _ s6=>P s6) (fun _ _=>False) s5) (fun _ _=>False) s:=by
 have e9:=he pins s σ H _ I q
 rw [xX] at e9
 refine thn e9 ?_
 rintro u2 s10 ⟨v,H10,I10,r10,xs,hxs,hlt,nx⟩
 have m10:=zbQ (X:=X) _ s10 σ H10 (.ref acc) [v] (.ref acc) [u2] (fun _ H'=>Nx σ H') I10 rfl (.cons r10 .nil) ⟨_,xs,v,rfl,rfl,hxs,hlt,nx⟩
 rw [xX] at m10
 refine thn m10 (by rintro _ s11 ⟨_,H11,I11,_,n11⟩;exact k _ _ _ I11 n11)
theorem uY (O:Opn X scope cix Fam)(hc:X.calm=true)(hi:PI X tg iter wi)(hg:∀ X',Fam X'->PG X' tg g)(ht:∀ X',Fam X'->PTs X' ifs ti)(he:∀ X',Fam X'->PE X' elt te)(hs:∀ x,foldedSetIterable iter X.env x=pure x)(I:Inv X pins σ H s)
  (h:wi σ H fun J H1=>∀ acc,H1 acc=none->∃ W:Nat->Nat->St->Hp->Prop,(∃ m,W 0 m (uw σ cix) (upd H1 acc (.lst [])))/\∀ i n σ H,W i n σ H->(J.stop i H/\Fin acc H)\/(J.go i H/\∃ Nx:St->Hp->Prop,(∀ σ' H',Nx σ' H'->∃ m,m<n/\W (i+1) m σ' H')/\∀ x H',J.yld i H x H'->zef g ti te acc Nx x σ H'))
  (hfin:∀ acc C H5 s6,zbu X pins H5 C->(∃ m,s6.heap.Ns C m)->(∀ h'',Heap.SameBut C s6.heap h''->Inv X pins σ H5 { s6 with heap:=h'' })->Fin acc H5->compPost (model X.prog X.w) X.A X.xe use Qp (.ref acc) C (.ok .next) s6) :
  wpAny (model X.prog X.w) X.A (comprehension (.ListComp elt [⟨tg,iter,ifs,0⟩] scope pos) scope X.env ipos (newList []) false (eval iter X.env) use) Qp X.xe s:=
 zbB (ob:={ cls:=.type "list",dict:=none,data:=.seq ([]:List Value).toArray }) (o0:=fun _=>.lst []) (B:=fun X' acc P s=>wpAny (model X'.prog X'.w) X'.A (eval elt X'.env) (fun x s5=>wpAny (model X'.prog X'.w) X'.A (call (.builtin "list.append") [.ref acc,x]) (fun _ s6=>P s6) (fun _ _=>False) s5) (fun _ _=>False) s) (tb:=fun acc Nx σ H=>te σ H fun v H'=>∃ xs,H' acc=some (.lst xs)/\xs.length<sizeLine/\Nx σ (upd H' acc (.lst (xs++[v])))) O hc rfl hs (fun _ _ _ _ _ h0 h1=>codeAny_compStart_list h0 h1) (fun _ _ _ _ _ _ I turn n h=>zaV I turn n h) (fun s Q h=>wpAny_newObj_type h) (fun _ _=>⟨Nat.zero_le _,[],0,.nil,Heap.get?_push_size _ rfl⟩) hi hg ht (fun X' hF _ _ _ _ xX _ _ _ _ _ _ _ I q k=>zc7 (he X' hF) xX I q k) I h (fun J H1 acc q hn=>q acc hn) hfin
end
section
variable {X:Cx}{scope:Scope}{N:List Str}{z:Str}
theorem zdJ {P:Cx->Prop}(h:∀ C s H ex,P (zu X scope N C s H ex)):∀ X',(∃ C s H ex,X'=zu X scope N C s H ex)->P X':=by simp_all
abbrev EndK (X:Cx)(pins:List (Addr×Obj))(σ:St)(use:Option (Value->Sem Unit))(Qp:Value->Shared->Prop)(Q:VK):Prop:=∀ acc C H5 s6,zbu X pins H5 C->(∃ m,s6.heap.Ns C m)->(∀ h'',Heap.SameBut C s6.heap h''->Inv X pins σ H5 { s6 with heap:=h'' })->Q (.ref acc) H5->compPost (model X.prog X.w) X.A X.xe use Qp (.ref acc) C (.ok .next) s6
end
structure Dfn (K:PySem.W.Frag)(mg:Str->Option Value)(x:Str)(st:Stmt)(ps:List Str)(f:Addr)(fd:FuncData):Prop where
 F:Fun K x x st f fd
 b:zca K fd ps []
 m:mg x=some (.ref f)
section
variable {X:Cx}
theorem zob {x:Str}{st:Stmt}{ps:List Str}{f:Addr}{fd:FuncData}{sp:Sp}{j k:Nat}{e:Expr}{es:List Expr}{t:TA}{p pos:Pos}(D:Dfn X.K X.mg x st ps f fd)(G:FnOk X.prog X.w X.K X.mg X.base CX0 j f fd ps sp)(hr:Room k X.A)
  (ha:PA X (e::es) t) (hjk:j<=k:=by decide) (hg:Gl X x:=by rfl) (hdb:(x==("__debug__" : Str))=false:=by decide) (he:starEach (e::es) X.env=(false,eval e X.env)::starEach es X.env:=by rfl) (hpl:(backTo pos (starEach es X.env)).any (·.1)=false:=by rfl) :
  PE X (.Call (.Name x p) (e::es) [] pos) (zc1 sp [] E0 t):=
 zcO G (hr.mono hjk) hg D.m D.F.kp D.b .nil zn9 ha hdb he hpl
theorem zfp {bs:List Bool}:((List.range bs.length).all fun i=>bs.getD i true)=bs.all id:=by
 rw [Bool.eq_iff_iff,List.all_eq_true,List.all_eq_true]
 constructor
 ·intro h b hb
  obtain ⟨i,hi,e⟩:=List.mem_iff_getElem.mp hb
  simp_all
 ·intro h i hi
  have hi':=List.mem_range.mp hi
  have:=h bs[i] (List.getElem_mem hi')
  simp_all
theorem zfq {bs:List Bool}:((List.range bs.length).any fun i=>bs.getD i false)=bs.any id:=by
 rw [Bool.eq_iff_iff,List.any_eq_true,List.any_eq_true]
 constructor
 ·rintro ⟨i,hi,h⟩
  have hi':=List.mem_range.mp hi
  exact ⟨bs[i],List.getElem_mem hi',by simpa [hi'] using h⟩
 ·rintro ⟨b,hb,h⟩
  obtain ⟨i,hi,e⟩:=List.mem_iff_getElem.mp hb
  exact ⟨i,List.mem_range.mpr hi,by simp_all⟩
theorem zfU (hc:X.calm=true):zaS X (.builtin "all") (fun xs H Q=>∃ (p:Addr) (bs:List Bool),xs=[.ref p]/\H p=some (.lst (bs.map V.bl))/\Q (.bl (bs.all id)) H):=by
 intro pins s σ H xs us Q I r h
 obtain ⟨p,bs,rfl,hp,q⟩:=h
 obtain ⟨u,rfl,ru⟩:=zb6 r
 cases ru
 obtain ⟨its,rv,pl,hz⟩:=I.list (.of hp)
 have hlen:=rv.length
 rw [List.length_map] at hlen
 have W:Walks X.prog X.w X.A.in1 s.heap.objs.size [s.heap.objs.size,p] [s.heap.objs.size] its.toArray.size (fun i v=>its.toArray[i]?=some v) (fun i h=>h.IsListIter s.heap.objs.size p i/\h.IsList p its.toArray):=by
  refine Walks.list (A:=X.A.in1) (I.ok.hd hc) s.heap.objs.size p ?_ its.toArray
  obtain ⟨o,_,ho,_⟩:=pl
  exact Nat.ne_of_lt (Heap.lt_size ho)
 refine call_all_walk (wpAny_pyIter_list pl.isList ⟨s.heap.objs.size,_,_,_,_,_,fun i=>bs.getD i true,rfl,W,⟨?_,?_⟩,?_,?_⟩)
 ·exact ⟨_,Heap.get?_push_size _ rfl,rfl,rfl⟩
 ·exact pl.isList.at fun o e=>Heap.get?_push_of_some _ e
 ·intro i v s' Q' E' hP hQ
  have hP':its[i]?=some v:=by simpa using hP
  have hi:i<bs.length:=by
   grind
  have hb:(bs.map V.bl)[i]?=some (V.bl bs[i]):=by simp [hi]
  obtain ⟨u',hu',rb⟩:=rv.get hb
  rw [hP'] at hu'
  cases hu'
  cases rb
  have:bs.getD i true=bs[i]:=by simp [hi]
  dsimp only at hQ
  rw [this] at hQ
  exact wpAny_truthy_bool hQ
 ·intro h' tk hk
  have e:(List.range its.toArray.size).all (fun i=>bs.getD i true)=bs.all id:=by
   rw [List.size_toArray,<- hlen]
   exact zfp
  rw [e]
  exact ⟨.bl _,H,I.kept (t':=tk) fun b o eb=>hk b o (by simp;exact Nat.ne_of_lt (Heap.lt_size eb)) (Heap.get?_push_of_some _ eb),rfl,q⟩
end
structure QE (X:Cx)(e:Expr)(t:TE):Prop where
 run:PE X e t
structure QT (X:Cx)(e:Expr)(t:TT):Prop where
 run:PT X e t
structure QW (X:Cx)(e:Expr)(t:TT):Prop where
 run:PW X e t
structure QC (X:Cx)(op:CmpOp)(a b:Expr)(t:TE):Prop where
 run:PC X op a b t
structure QA (X:Cx)(es:List Expr)(t:TA):Prop where
 run:PA X es t
structure QS (X:Cx)(s:Stmt)(t:TS):Prop where
 run:PS X s t
structure QSs (X:Cx)(s:List Stmt)(t:TS):Prop where
 run:PSs X s t
structure QG (X:Cx)(e:Expr)(t:TG):Prop where
 run:PG X e t
structure QGs (X:Cx)(es:List Expr)(t:TGs):Prop where
 run:PGs X es t
structure QI (X:Cx)(tg e:Expr)(t:TI):Prop where
 run:PI X tg e t
structure QO (X:Cx)(e:Option Expr)(t:TO):Prop where
 run:PO X e t
structure QP (X:Cx)(pos:Pos)(ks:List (Option Expr))(vs:List Expr)(t:List (TE×TE)):Prop where
 run:PPs X pos ks vs t
structure QTs (X:Cx)(es:List Expr)(t:TT):Prop where
 run:PTs X es t
structure OpQ (X:Cx)(f:Value->Value->Sem Value)(r:R2):Prop where
 run:OpR X f r
structure CallQ (X:Cx)(f:Value)(r:List V->Hp->VK->Prop):Prop where
 run:zaS X f r
structure IxQ (X:Cx)(r:R2):Prop where
 run:IxR X r
structure SlQ (X:Cx)(r:V->Option Int->Option Int->Hp->VK->Prop):Prop where
 run:SlR X r
section
variable {X:Cx}{e a b c:Expr}{es:List Expr}{te ta tb tc:TE}{t u:TT}{pos p:Pos}
theorem qv (i:Nat){x:Str}{pos:Pos}(hN:X.N[i]?=some x:=by rfl)(hv:Vis X.env.scope x:=by first | exact Or.inl rfl | exact Or.inr (Or.inl rfl) | exact Or.inr (Or.inr rfl))(hd:(x==("__debug__" : Str))=false:=by decide)
  (hcd:(x==("__classdict__" : Str))=false:=by decide):QE X (.Name x pos) (zgW i):=⟨zhr hN hv hd hcd⟩
theorem zW {i:Int}{j:Nat}:QE X (.Constant (.int i) j pos) (tC (.int i)):=⟨zhq⟩
theorem zlK {k:Bool}{j:Nat}:QE X (.Constant (.bool k) j pos) (tC (.bl k)):=⟨zoa⟩
theorem zhv {j:Nat}:QE X (.Constant .none j pos) (tC .non):=⟨zll⟩
theorem yD {x:Str}{j:Nat}:QE X (.Constant (.str x) j pos) (tC (.str x)):=⟨zlo⟩
theorem zbg {x:Str}{v:V}(hg:Gl X x)(h:∃ w,zX v w/\X.mg x=some w)(hd:(x==("__debug__" : Str))=false:=by decide):QE X (.Name x pos) (tC v):=by
 obtain ⟨w,r,hm⟩:=h
 exact ⟨zi5 hg hm r hd⟩
theorem zbf {x:Str}{v:V}{w:Value}(hg:Gl X x)(hm:X.mg x=none)(hv:bootBuiltins x=some w)(r:zX v w)(hn:x ≠ "__name__" := by decide)(hd:(x==("__debug__" : Str))=false:=by decide):QE X (.Name x pos) (tC v):=⟨zi0 hg hm hv r hn hd⟩
theorem yx:OpQ X (binaryOp .Add) (rI0 fun i j=>.int (i+j)):=⟨zk5⟩
theorem zle:OpQ X (binaryOp .Sub) (rI0 fun i j=>.int (i - j)):=⟨zlb⟩
theorem zaa:OpQ X (binaryOp .Mult) (rI zgZ fun i j=>.int (i * j)):=⟨zk8⟩
theorem zcN:OpQ X (binaryOp .FloorDiv) (rI CDiv fun i j=>.int (i / j)):=⟨ziX⟩
theorem xR:OpQ X (binaryOp .Mod) (rI (fun _ j=>0<j) fun i j=>.int (i % j)):=⟨zk7⟩
theorem ze7:OpQ X (binaryOp .Pow) (rI CPow fun i j=>.int (i ^ j.toNat)):=⟨zla⟩
theorem yS:OpQ X (binaryOp .Add) (zfn X.K):=⟨ziU⟩
theorem zn7:OpQ X (compareOp .Lt) (rI0 fun i j=>.bl (decide (i<j))):=⟨zn4⟩
theorem zlc:OpQ X (compareOp .LtE) (rI0 fun i j=>.bl (decide (i<=j))):=⟨zn3⟩
theorem zgz:OpQ X (compareOp .Gt) (rI0 fun i j=>.bl (decide (j<i))):=⟨zn2⟩
theorem zn6:OpQ X (compareOp .GtE) (rI0 fun i j=>.bl (decide (j<=i))):=⟨zn1⟩
theorem zcM:OpQ X (compareOp .Eq) rEq:=⟨zn0⟩
theorem ziY:OpQ X (compareOp .NotEq) rNe:=⟨zn5⟩
theorem ze6:OpQ X (compareOp .In) (rIn X.K false):=⟨ze5⟩
theorem yi {op:Operator}{r:R2}(ho:OpQ X (binaryOp op) r)(ha:QE X a ta)(hb:QE X b tb):QE X (.BinOp a op b pos) (tOp r ta tb):=⟨zod ho.run ha.run hb.run⟩
theorem zjq {op:CmpOp}{r:R2}(ho:OpQ X (compareOp op) r)(ha:QE X a ta)(hb:QE X b tb)(hm:behindInMarks op b=false):QE X (.Compare a [op] [b] pos) (tOp r ta tb):=⟨zi1 ho.run ha.run hb.run hm⟩
theorem zag {op:CmpOp}{r:R2}(ho:OpQ X (compareOp op) r)(ha:QE X a ta)(hb:QE X b tb)(hm:behindInMarks op b=false):QT X (.Compare a [op] [b] pos) (zjR (tOp r ta tb)):=⟨zjm ho.run ha.run hb.run hm⟩
theorem zlH (hu:X.A.units+1<cLine)(ha:QE X a ta)(hb:QE X b tb):QC X .In a b (zos ta tb):=⟨zlh hu ha.run hb.run⟩
theorem zlQ {op:CmpOp}(h:QC X op a b te)(h1:behindInMarks op b=false:=by first | exact za7 _ (by decide) (by decide) | rfl):QT X (.Compare a [op] [b] pos) (tB te):=⟨zlC h.run h1⟩
theorem zfl (h:QE X e te)(he:∀ whole,isTrue e X.env whole=(do let v <- whole;standAt e.pos;holding [v] (truthy v)):=by intro _;rfl):QT X e (tB te):=⟨zlE h.run he⟩
theorem zfk (h:QT X a t):QT X (.UnaryOp .Not a pos) (tNot t):=⟨zlD h.run⟩
theorem zfm (h:QT X a t):QW X (.BoolOp .And [a] pos) t:=⟨zjp h.run⟩
theorem zhz (h:QT X a t):QW X (.BoolOp .Or [a] pos) t:=⟨zlG h.run⟩
theorem zhy {yy:List Expr}(h:QT X a t)(h':QW X (.BoolOp .And (b::yy) pos) u):QW X (.BoolOp .And (a::b::yy) pos) (zoq t u):=⟨zlF h.run h'.run⟩
theorem zlR {yy:List Expr}(h:QT X a t)(h':QW X (.BoolOp .Or (b::yy) pos) u):QW X (.BoolOp .Or (a::b::yy) pos) (tOr t u):=⟨zoi h.run h'.run⟩
theorem QW.pt (h:QW X e t):QT X e t:=⟨h.run.pt⟩
theorem zlN {op:BoolOp}(h:QE X a ta):QE X (.BoolOp op [a] pos) ta:=⟨zln h.run⟩
theorem zlI {yy:List Expr}(ha:QE X a ta)(hb:QE X (.BoolOp .And (b::yy) pos) tb):QE X (.BoolOp .And (a::b::yy) pos) (zmb ta tb):=⟨zli ha.run hb.run⟩
theorem zlM (ha:QE X a ta):QE X (.UnaryOp .Not a pos) (zmh ta):=⟨zlm ha.run⟩
theorem zgL (hc:QT X c t)(ha:QE X a ta)(hb:QE X b tb):QE X (.IfExp c a b pos) (tIf t ta tb):=⟨zgB hc.run ha.run hb.run⟩
theorem zZ:QA X [] zjZ:=⟨zlf⟩
theorem zp {ts:TA}(ha:QE X e te)(hr:QA X es ts)(hs:starEach (e::es) X.env=(false,eval e X.env)::starEach es X.env:=by rfl):QA X (e::es) (zc2 te ts):=⟨ziZ ha.run hr.run hs⟩
theorem zhw {x1}{ts:TA}(h:QA X es ts):QE X (.Tuple es x1 pos) (tTup ts):=⟨zlp h.run⟩
theorem zjC:QP X pos [] [] []:=⟨zji⟩
theorem zbh {k v:Expr}{ks:List (Option Expr)}{vs:List Expr}{tk tv:TE}{trs:List (TE×TE)}(hk:QE X k tk)(hv:QE X v tv)(hr:QP X pos ks vs trs):QP X pos (some k::ks) (v::vs) ((tk,tv)::trs):=⟨zgH hk.run hv.run hr.run⟩
theorem zjs {keys:List (Option Expr)}{values:List Expr}{trs:List (TE×TE)}(h:QP X pos keys values trs)(hall:keys.all (·.isSome)=true)(hl:keys.length=values.length)(h0:keys≠[])(h15:keys.length<=15):QE X (.Dict keys values pos) (zmd trs):=⟨zi3 h.run hall hl h0 h15⟩
theorem zfh:QO X none zfz:=⟨zjg⟩
theorem zfi (h:QE X e te):QO X (some e) (zmi te):=⟨zjh h.run⟩
theorem zjN:SlQ X rSlA:=⟨zjL⟩
theorem zjM:SlQ X (rSlL X.K):=⟨zjK⟩
theorem zdq {r:V->Option Int->Option Int->Hp->VK->Prop}{lo hi:Option Expr}{tl th:TO}{p2:Pos}(hr:SlQ X r)(he:QE X e te)(hl:QO X lo tl)(hu:QO X hi th):QE X (.Subscript e (.Slice lo hi none p2) pos) (tSl r te tl th):=⟨zgC hr.run he.run hl.run hu.run⟩
theorem zbp:IxQ X (zmQ X.K):=⟨zij⟩
theorem yb:IxQ X (zmR X.K):=⟨zkD⟩
theorem zlL {r:R2}(hr:IxQ X r)(ha:QE X a ta)(hb:QE X b tb)(hs:zcd b):QE X (.Subscript a b pos) (tOp r ta tb):=⟨zoc hr.run ha.run hb.run hs⟩
theorem yT (hu:X.A.units+1<cLine)(ha:QE X a ta)(hb:QE X b tb)(hs:zmD b):QE X (.Subscript a b pos) (zmc ta tb):=⟨zi2 hu ha.run hb.run hs⟩
theorem xo:CallQ X (.builtin "len") (fun xs H Q=>∃ x n,xs=[x]/\zmB X.K x H n/\Q (.int n) H):=⟨zfW⟩
theorem zeh:CallQ X (.builtin "abs") (fun xs H Q=>∃ i,xs=[.int i]/\Q (.int (if i<0 then -i else i)) H):=⟨zfT⟩
theorem zej:CallQ X (.builtin "isinstance") (fun xs H Q=>∃ x T t b,xs=[x,.ty T]/\TyOf X.K H x t/\PySem.W.kitOne X.K t (.type T)=some b/\Q (.bl b) H):=⟨zch⟩
theorem zg7 (hc:X.calm=true):CallQ X (.builtin "all") (fun xs H Q=>∃ (p:Addr) (bs:List Bool),xs=[.ref p]/\H p=some (.lst (bs.map V.bl))/\Q (.bl (bs.all id)) H):=⟨zfU hc⟩
theorem zck:CallQ X (.type "tuple") (fun xs H Q=>∃ p ys,xs=[.ref p]/\((SqL X.K H p ys/\∀ l,H l=none->Q (.ref l) (upd H l (.tup ys)))\/(SqT X.K H p ys/\Q (.ref p) H))):=⟨zaU⟩
theorem z0 {id:String}{r:List V->Hp->VK->Prop}{x:Str}{ts:TA}(hc:CallQ X (.builtin id) r)(hg:Gl X x)(hm:X.mg x=none)(hv:bootBuiltins x=some (.builtin id))(ha:QA X (e::es) ts)(hn:x ≠ "__name__" := by decide)(hdb:(x==("__debug__" : Str))=false:=by decide)
  (he:starEach (e::es) X.env=(false,eval e X.env)::starEach es X.env:=by rfl) (hpl:(backTo pos (starEach es X.env)).any (·.1)=false:=by rfl):QE X (.Call (.Name x p) (e::es) [] pos) (tCB r ts):=⟨zgA hc.run hg hm hv ha.run hn hdb he hpl⟩
theorem zac {T:String}{r:List V->Hp->VK->Prop}{x:Str}{ts:TA}(hc:CallQ X (.type T) r)(hg:Gl X x)(hm:X.mg x=none)(hv:bootBuiltins x=some (.type T))(ha:QA X (e::es) ts)(hn:x ≠ "__name__" := by decide)(hdb:(x==("__debug__" : Str))=false:=by decide)
  (he:starEach (e::es) X.env=(false,eval e X.env)::starEach es X.env:=by rfl) (hpl:(backTo pos (starEach es X.env)).any (·.1)=false:=by rfl):QE X (.Call (.Name x p) (e::es) [] pos) (tCB r ts):=⟨ze8 hc.run hg hm hv ha.run hn hdb he hpl⟩
theorem zjt {x:Str}{st:Stmt}{ps:List Str}{f:Addr}{fd:FuncData}{sp:Sp}{j k:Nat}{ts:TA}(D:Dfn X.K X.mg x st ps f fd)(G:FnOk X.prog X.w X.K X.mg X.base CX0 j f fd ps sp)(hr:Room k X.A)
  (ha:QA X (e::es) ts) (hjk:j<=k:=by decide) (hg:Gl X x:=by rfl) (hdb:(x==("__debug__" : Str))=false:=by decide) (he:starEach (e::es) X.env=(false,eval e X.env)::starEach es X.env:=by rfl) (hpl:(backTo pos (starEach es X.env)).any (·.1)=false:=by rfl) :
  QE X (.Call (.Name x p) (e::es) [] pos) (zc1 sp [] E0 ts):=⟨zob D G hr ha.run hjk hg hdb he hpl⟩
theorem zad {i:Nat}{x:Str}(hN:X.N.Nodup)(hi:X.N[i]?=some x)(hx:Loc X.env.scope x)(hf:X.fn x=true\/X.env.scope.names.lookup x=some .local:=by first | exact .inl rfl | exact .inr rfl | assumption):QG X (.Name x pos) (uy i):=⟨zja hN hi hx hf⟩
theorem zjx:QGs X [] gNil:=⟨zjb⟩
theorem zgM {g:TG}{gs:TGs}(h1:QG X e g)(h2:QGs X es gs)(hs:(assignEach (e::es) X.env).map (·.2)=assign e X.env::(assignEach es X.env).map (·.2):=by rfl):QGs X (e::es) (zku g gs):=⟨zgE h1.run h2.run hs⟩
theorem zlO {k:Nat}{gs:TGs}{n:Nat}(hc:X.calm=true)(h:QGs X es gs)(hn:(assignEach es X.env).length=n:=by rfl)(hst:(assignEach es X.env).findIdx? (·.1)=none:=by rfl):QG X (.Tuple es k pos) (zns X.K n gs):=⟨zlv hc h.run hn hst⟩
theorem zcR {tg:Expr}(hl:QE X e te):QI X tg e (zia X.K te):=⟨zjd hl.run⟩
theorem zhx {tg:Expr}(hl:QE X e te):QI X tg e (znv X.K te):=⟨zlw hl.run⟩
theorem zfg {tg:Expr}{ts:TA}(hg:Gl X "range")(hm:X.mg "range" = none)(ha:QA X [a] ts)(hs:starEach [a] X.env=[(false,eval a X.env)]:=by rfl):QI X tg (.Call (.Name "range" p) [a] [] pos) (zkz ts):=⟨zfa hg hm ha.run hs⟩
theorem zcT:QTs X [] ub:=⟨zjn⟩
theorem zjE (h:QT X c t):QTs X [c] t:=⟨zjo h.run⟩
theorem zjr {elt tg iter:Expr}{ifs:List Expr}{scope:Scope}{wi:TI}{g:TG}{ti:TT}{N:List Str}{cix:List (Option Nat)}(hc:X.calm=true)(c:CompOk X scope N cix)
  (hi:QI X tg iter wi) (hg:∀ C s H ex,QG (zu X scope N C s H ex) tg g) (ht:∀ C s H ex,QTs (zu X scope N C s H ex) ifs ti) (he:∀ C s H ex,QE (zu X scope N C s H ex) elt te)
  (hs:∀ x,foldedSetIterable iter X.env x=pure x:=by intro _;rfl):QE X (.ListComp elt [⟨tg,iter,ifs,0⟩] scope pos) (zor wi g ti te cix):=⟨fun pins s σ H Q I h=>by
 rw [eval_ListComp]
 exact uY (Fin:=fun acc H=>Q (.ref acc) H) (u9 c) hc hi.run (zdJ fun C s H ex=>(hg C s H ex).run) (zdJ fun C s H ex=>(ht C s H ex).run) (zdJ fun C s H ex=>(he C s H ex).run) hs I h fun _ _ _ _ _ hm hb q=>zdg hm hb q⟩
end
section
variable {X:Cx}{st:Stmt}{sts body a b:List Stmt}{t u:TS}{e o i:Expr}{te td ty tv:TE}{pos:Pos}
theorem zaf:QSs X [] zmg:=⟨zjk⟩
theorem zr (h1:QS X st t)(h2:QSs X sts u):QSs X (st::sts) (zov t u):=⟨zgJ h1.run h2.run⟩
theorem ye (h1:QS X st t):QSs X [st] t:=⟨zjl h1.run⟩
theorem zae (he:QE X e te)(hs:swapsWith e none pos.line X.env=pure false:=by rfl):QS X (.Expr e pos) (zjQ te):=⟨zfd he.run hs⟩
theorem xt (he:QE X e te):QS X (.Return (some e) pos) (zmU te):=⟨zlz he.run⟩
theorem zdV {c:Expr}{tc:TT}(hc:QT X c tc)(ha:QSs X a t)(hb:QSs X b u):QS X (.If c a b pos) (tIfS tc t u):=⟨zoh hc.run ha.run hb.run⟩
theorem yE {i:Nat}{x:Str}{pos':Pos}(hN:X.N.Nodup)(hi:X.N[i]?=some x)(hx:Loc X.env.scope x)(he:QE X e te)(hs:swapsWith e (some (.Name x pos')) pos.line X.env=pure false:=by rfl)(hf:X.fn x=true\/X.env.scope.names.lookup x=some .local:=by first | exact .inl rfl | exact .inr rfl | assumption) :
  QS X (.Assign [.Name x pos'] e pos) (zd2 te (uy i)):=⟨zlA hN hi hx he.run hs hf⟩
theorem zlP {tg:Expr}{g:TG}(he:QE X e te)(hg:QG X tg g)(hs:swapsWithSole [tg] e pos.line X.env=pure false:=by rfl)(hw:swappedStores [tg] e X.env=pure none:=by rfl)
  (h1:(assignEach [tg] X.env).map (·.2)=[assign tg X.env]:=by rfl):QS X (.Assign [tg] e pos) (zd2 te g):=⟨zlx he.run hg.run hs hw h1⟩
theorem zcS {pos':Pos}(hu:X.A.units+1<cLine)(ho:QE X o td)(hi:QE X i ty)(hv:QE X e tv)(hs:swapsWith e (some (.Subscript o i pos')) pos.line X.env=pure false):QS X (.Assign [.Subscript o i pos'] e pos) (zl7 td ty tv):=⟨zjj hu ho.run hi.run hv.run hs⟩
theorem zfj {tg iter:Expr}{wi:TI}{g:TG}(hp:PassesOwn (model X.prog X.w) X.A X.env X.xe)(hc:X.calm=true)(hi:QI X tg iter wi)(hg:QG X tg g)(hb:QSs X body t)(hs:∀ x,foldedSetIterable iter X.env x=pure x:=by intro _;rfl):QS X (.For tg iter body [] pos) (zot wi g t):=⟨zly hp hc hi.run hg.run hb.run hs⟩
end
theorem Fun.okQ {P:Program}{w:World}{K:PySem.W.Frag}{mg:Str->Option Value}{base:Heap}{x qual:Str}{st:Stmt}{f:Addr}{fd:FuncData}{N ps:List Str}{k:Nat}{sp:Sp}(F:Fun K x qual st f fd)(S:FnScope N ps (zc st))(len:∀ vs H Q E,sp vs H Q E->vs.length=ps.length)
  (hbody:∀ (cdv:Value) (A:Around) (outer:List Env) (s:Shared) (H:Hp) (vs:List V) (Q:VK) (E:XK),Room k (A.deeper (envOfC qual (zc st) s.heap.objs.size f cdv))->sp vs H Q E->
   ∃ t,QSs (uP CX0 P w K mg base N qual (zc st) f cdv A outer s H E).nox (zH st) t/\t { nx:=fun _ H'=>Q .non H',rt:=Q } (yt N vs) H):FnOk P w K mg base CX0 (k+1) f fd ps sp:=
 F.ok S len fun cdv A outer s H vs Q E hr h=>by
  obtain ⟨t,h1,h2⟩:=hbody cdv A outer s H vs Q E hr h
  exact ⟨t,h1.run,h2⟩
theorem s_ca:¬ (("cells" : Str) = "at"):=by decide +kernel
theorem s_cl:¬ (("cells" : Str) = "rest"):=by decide +kernel
theorem s_al:¬ (("at" : Str) = "rest"):=by decide +kernel
theorem znE:¬ (Sum.inr "cells" : Key)=(Sum.inr "at" : Key):=fun z=>s_ca (Sum.inr.inj z)
theorem znF:¬ (Sum.inr "cells" : Key)=(Sum.inr "rest" : Key):=fun z=>s_cl (Sum.inr.inj z)
theorem zmG:¬ (Sum.inr "at" : Key)=(Sum.inr "rest" : Key):=fun z=>s_al (Sum.inr.inj z)
def xT (c:Addr)(a l:Int):List (Key×V):=[(Sum.inr "cells",.ref c),(Sum.inr "at",.int a),(Sum.inr "rest",.int l)]
theorem zof (c:Addr)(a l:Int):uH (xT c a l) (Sum.inr "cells" : Key)=some (.ref c):=yW rfl
theorem zi9 (c:Addr)(a l:Int):uH (xT c a l) (Sum.inr "at" : Key)=some (.int a):=by
 unfold xT
 rw [yF znE,yW rfl]
theorem zog (c:Addr)(a l:Int):uH (xT c a l) (Sum.inr "rest" : Key)=some (.int l):=by
 unfold xT
 rw [yF znF,yF zmG,yW rfl]
theorem zls (c:Addr)(a l b:Int):zaL (xT c a l) (Sum.inr "at" : Key) (.int b)=xT c b l:=by
 unfold zaL xT
 have e1:=znE
 have e2:¬ (Sum.inr "rest" : Key)=(Sum.inr "at" : Key):=fun z=>zmG z.symm
 simp [e1,e2]
theorem zlt (c:Addr)(a l b:Int):zaL (xT c a l) (Sum.inr "rest" : Key) (.int b)=xT c a b:=by
 unfold zaL xT
 have e1:=znF
 have e2:=zmG
 simp [e1,e2]
theorem zlr (c:Addr)(a l:Int):u4 [] (xT c a l)=xT c a l:=by
 unfold u4 xT
 have e1:=znE
 have e2:=znF
 have e3:=zmG
 simp [zaL,e1,e2,e3]
structure Pen (H:Hp)(p c:Addr)(ns:List Int)(n:Nat):Prop where
 ob:∃ a l:Int,H p=some (.dK (xT c a l))/\0<=a/\a<=n/\0<=l
 ls:∃ ob,H c=some (.frz ob (.lst (ns.map V.int)))
 len:ns.length<=63
theorem Pen.same {H H':Hp}{p c:Addr}{ns:List Int}{n:Nat}(P:Pen H p c ns n)(h:yk H H'):Pen H' p c ns n:=by
 obtain ⟨⟨a,l,h1,h2,h3,h4⟩,h5,h6⟩:=P
 exact ⟨⟨a,l,h _ _ h1,h2,h3,h4⟩,let ⟨ob,e⟩:=h5;⟨ob,h _ _ e⟩,h6⟩
section
variable {H:Hp}{p c:Addr}{a l:Int}
theorem zdo (h:H p=some (.dK (xT c a l))):zcb H p (.str "cells") (some (.ref c)):=by
 have:=zcb.k (k:=(Sum.inr "cells" : Key)) h
 rw [zof] at this
 exact this
theorem zlq (h:H p=some (.dK (xT c a l))):zcb H p (.str "at") (some (.int a)):=by
 have:=zcb.k (k:=(Sum.inr "at" : Key)) h
 rw [zi9] at this
 exact this
theorem ze9 (h:H p=some (.dK (xT c a l))):zcb H p (.str "rest") (some (.int l)):=by
 have:=zcb.k (k:=(Sum.inr "rest" : Key)) h
 rw [zog] at this
 exact this
theorem zlu (h:H p=some (.dK (xT c a l)))(b:Int):zg0 H p (.str "at") (.int b) (upd H p (.dK (xT c b l))):=by
 have:=zg0.k (k:=(Sum.inr "at" : Key)) (v:=.int b) h (by show 3<sizeLine;decide)
 rw [zls] at this
 exact this
theorem zhs (h:H p=some (.dK (xT c a l)))(b:Int):zg0 H p (.str "rest") (.int b) (upd H p (.dK (xT c a b))):=by
 have:=zg0.k (k:=(Sum.inr "rest" : Key)) (v:=.int b) h (by show 3<sizeLine;decide)
 rw [zlt] at this
 exact this
end
theorem zka (ns:List Int)(a:Int)(h:0<((ns.map V.int).length:Int)):∃ z,atI (ns.map V.int) (a % ((ns.map V.int).length:Int))=some (.int z):=by
 have h0:=Int.emod_nonneg a (show ((ns.map V.int).length:Int)≠0 by lia)
 have h1:=Int.emod_lt_of_pos a h
 generalize hm:a % ((ns.map V.int).length:Int)=m at h0 h1
 obtain ⟨j,rfl⟩:∃ j:Nat,m=j:=⟨m.toNat,by lia⟩
 have hj:j<ns.length:=by rw [List.length_map] at h1;lia
 exact ⟨ns[j],zhJ (by simp [hj])⟩
theorem zgV {a:Int}{n:Nat}(h0:0<=a)(h1:a<=n)(h2:n<=1000000):0<=60013 * a * a/\60013 * a * a<=60013000000000000:=by
 have e:60013 * a * a=60013 * (a * a):=Int.mul_assoc _ _ _
 have m0:0<=a * a:=Int.mul_nonneg h0 h0
 have m1:a * a<=1000000 * 1000000:=Int.mul_le_mul (by lia) (by lia) h0 (by lia)
 rw [e]
 lia
theorem meet {α:Type}{G:Prop}(P:α->Prop)(h:(∀ a,P a)->G)(r:∀ a,P a):G:=h r
theorem znZ {G:Prop}(P:Prop)(h:P->G)(r:P):G:=h r
def zgU (K:PySem.W.Frag):Sp:=fun vs H Q _=>∃ (a:Addr) (ns:List Int),vs=[.ref a]/\SqL K H a (ns.map V.int)/\ns.length<=63/\∀ (p c:Addr) (H':Hp),Pen H' p c ns 0->yk H H'->Q (.ref p) H'
def yp (ns:List Int):Int:=ns.foldl (· * ·) 1
theorem yN (ns:List Int)(n:Int):yp (ns++[n])=yp ns * n:=by unfold yp;rw [List.foldl_append];rfl
theorem zo {α:Type}{l:List α}{i:Nat}{x:α}(h:l[i]?=some x):l.take (i+1)=l.take i++[x]:=by
 rw [List.take_succ,h];rfl
def zhC:Sp:=fun vs H Q _=>∃ (a:Addr) (ns:List Int),vs=[.ref a]/\H a=some (.tup (ns.map V.int))/\(∀ n∈ns,2<=n/\n<=4)/\Q (.int (yp ns)) H
theorem zhn {g:TG}{x:V}{σ:St}{H:Hp}{A B:St->Hp->Prop}(h:g x σ H A):g x σ H fun σ3 H3=>ub σ3 H3 fun ok H4=>if ok=true then A σ3 H4 else B σ3 H4:=by
 have e:(fun σ3 H3=>ub σ3 H3 fun ok H4=>if ok=true then A σ3 H4 else B σ3 H4)=A:=by
  funext σ3 H3
  show (if true=true then A σ3 H3 else B σ3 H3)=A σ3 H3
  rw [if_pos rfl]
 rw [e]
 exact h
section
variable {prog:Program}{w:World}{A:Around}{E:Value->Shared->Prop}{s:Shared}
theorem yd {it t:Addr}{i:Nat}{items}{x:Value}{Q:Value->Shared->Prop}(hit:s.heap.IsTupleIter it t i)(ht:s.heap.IsTuple t items)(hx:items[i]?=some x)
  (hQ:∀ h',h'.IsTupleIter it t (i+1)->Heap.SameBut it s.heap h'->Q x { s with heap:=h' }):wpAny (model prog w) A (Builtin.SmallTypes.nextOf (.ref it)) Q E s:=by
 obtain ⟨o,ho,hc,hd⟩:=id hit
 obtain ⟨ol,hol,_,nl,hdl⟩:=ht
 unfold Builtin.SmallTypes.nextOf
 refine wpAny_bind (wpAny_callSpecial?_slot (name:=Str.ofString "__next__") hit.typeIs F.slot_tuple_iterator_next
  (wpAny_call_entry F.slot_tuple_iterator_next hit.typeIs F.entry_tuple_iterator_next ?_ (F.args_tuple_iterator_next_1 _)))
 show wpAny _ _ (field (.ref it) 0 >>= _) _ _ s
 refine wpAny_bind (wpAny_field ho hd (x:=.ref t) rfl ?_)
 show wpAny _ _ (if (Value.ref t==Value.none)=true then _ else _) _ _ s
 rw [if_neg (by grind)]
 show wpAny _ _ (field (.ref it) 1 >>= _) _ _ s
 refine wpAny_bind (wpAny_field ho hd (x:=.int i 0) rfl ?_)
 show wpAny _ _ (seqItems? (.ref t) >>= _) _ _ s
 refine wpAny_bind (wpAny_seqItems hol hdl ?_)
 simp only [Int.toNat_natCast,hx]
 refine wpAny_bind (wpAny_setField ho hd (by simp) (wpAny_pure ⟨x,rfl,wpAny_pure (hQ _ ?_ (Heap.SameBut.update ..))⟩))
 exact ⟨_,Heap.get?_update_self _ ho (Obj.isFreed_of_fields (Obj.data_mapFields hd _)),(Obj.cls_mapFields ..).trans hc,by
  rw [Obj.data_mapFields hd];simp [rawInt]⟩
theorem yn {it t:Addr}{i:Nat}{items}{Q:Value->Shared->Prop}(hh:A.handled=none)(hit:s.heap.IsTupleIter it t i)(ht:s.heap.IsTuple t items)(hx:items[i]?=none)
  (hE:∀ h' e,Heap.ExtBut it s.heap h'->(∃ o,h'.get? e=some o/\o.cls = .type "StopIteration")->E (.ref e) { s with heap:=h' }):wpAny (model prog w) A (Builtin.SmallTypes.nextOf (.ref it)) Q E s:=by
 obtain ⟨o,ho,hc,hd⟩:=id hit
 obtain ⟨ol,hol,_,nl,hdl⟩:=ht
 unfold Builtin.SmallTypes.nextOf
 refine wpAny_bind (wpAny_callSpecial?_slot (name:=Str.ofString "__next__") hit.typeIs F.slot_tuple_iterator_next
  (wpAny_call_entry F.slot_tuple_iterator_next hit.typeIs F.entry_tuple_iterator_next ?_ (F.args_tuple_iterator_next_1 _)))
 show wpAny _ _ (field (.ref it) 0 >>= _) _ _ s
 refine wpAny_bind (wpAny_field ho hd (x:=.ref t) rfl ?_)
 show wpAny _ _ (if (Value.ref t==Value.none)=true then _ else _) _ _ s
 rw [if_neg (by grind)]
 show wpAny _ _ (field (.ref it) 1 >>= _) _ _ s
 refine wpAny_bind (wpAny_field ho hd (x:=.int i 0) rfl ?_)
 show wpAny _ _ (seqItems? (.ref t) >>= _) _ _ s
 refine wpAny_bind (wpAny_seqItems hol hdl ?_)
 simp only [Int.toNat_natCast,hx]
 refine wpAny_bind (wpAny_rule (wpAny_bind (wpAny_setField ho hd (by simp) ?_)))
 show wpAny _ _ (newExc (.type "StopIteration") [] >>= _) _ _ _
 refine wpAny_bind ?_
 simp only [newExc,newTuple]
 refine wpAny_bind (wpAny_newObj_type ?_ (by size_fits))
 refine wpAny_bind (m:=firstArgMember _ _) (wpAny_of_eq (a:=Value.none) (by first | rfl | (simp only [firstArgMember];rfl)) ?_)
 refine wpAny_newObj_type ?_ (by size_fits)
 simp only [raiseNew]
 refine wpAny_bind (wpAny_handled ?_)
 first | rw [show A.in1.handled=none from hh] | rw [hh]
 refine wpAny_bind (wpAny_pure (wpAny_throw ?_))
 exact hE _ _ (((Heap.SameBut.update ..).extBut.push _).push _) ⟨_,Heap.get?_push_size _ rfl,rfl⟩
theorem zco (hh:A.handled=none)(it l:Addr)(hne:l≠it)(items:Array Value) :
  Draws prog w A it [it,l] items.size (fun i v=>items[i]?=some v) (fun i h=>h.IsTupleIter it l i/\h.IsTuple l items) where
 live:=fun _ _ st=>let ⟨o,ho,_⟩:=st.1;⟨o,ho⟩
 frame:=fun _ _ _ st hk=>⟨let ⟨o,ho,r⟩:=st.1;⟨o,hk it (by simp) o ho,r⟩,let ⟨o,ho,r⟩:=st.2;⟨o,hk l (by simp) o ho,r⟩⟩
 item:=fun i s Q E hi st hQ=>by
  refine yd st.1 st.2 (x:=items[i]) (by simp [hi]) fun h' hit' hs'=>?_
  exact hQ _ h' s.toks (by simp [hi]) ⟨hit',st.2.extBut hs'.extBut hne⟩ hs'
 done:=fun s Q E st hE=>yn hh st.1 st.2 (by simp) hE
theorem xn (l:Addr)(items:Array Value)(n:Nat)(dct:Option Addr)(sl:Array (Option Value)) :
  Meets (Builtin.«enumerate.__new__» ⟨[.type "enumerate",.ref l],[]⟩) (fun _ R s=>s.heap.get? l=some { cls:=.type "tuple",dict:=dct,data:=.seq items n,slots:=sl }/\
   R (.ok (.ret (.ref (s.heap.push { cls:=.type "tuple_iterator",data:=.fields #[.ref l,.int 0 0] }).objs.size)))
    { s with heap:=(s.heap.push { cls:=.type "tuple_iterator",data:=.fields #[.ref l,.int 0 0] }).push { cls:=.type "enumerate",data:=.fields #[.none,.bool false,.ref s.heap.objs.size,rawInt 0,.none,.none] } }):=
 .of_wp fun prog w A R s h=>by
  obtain ⟨hp,g,d,tk,os⟩:=s;obtain ⟨hl,h⟩:=h
  have hsub:=sub_enumerate
  have hL:Heap.IsTuple (Shared.heap ⟨hp,g,d,tk,os⟩) l items:=⟨_,hl,rfl,n,rfl⟩
  wp_walk using AutoSeq1.wpAny_loadPart' hl
  refine wpAny_stack_any fun st=>wpAny_pure ?_
  split
  ·rename_i c _ _ _ _ _
   cases (c==Value.type "enumerate")
   ·wp_walk using AutoSeq1.wpAny_loadPart' hl,wpAny_pyIter_tuple hL
    exact ⟨_,rfl,h⟩
   ·wp_walk using AutoSeq1.wpAny_loadPart' hl,wpAny_pyIter_tuple hL
    exact ⟨_,rfl,h⟩
  ·wp_walk using AutoSeq1.wpAny_loadPart' hl,wpAny_pyIter_tuple hL
   exact ⟨_,rfl,h⟩
theorem xm {l:Addr}{items:Array Value}{Q:Value->Shared->Prop}(hL:s.heap.IsTuple l items)
  (h:∀ h',IsEnum h' (s.heap.objs.size+1) s.heap.objs.size 0 .none->h'.IsTupleIter s.heap.objs.size l 0->h'.objs.size=s.heap.objs.size+2->
   (∀ b o,s.heap.get? b=some o->h'.get? b=some o)->Q (.ref (s.heap.objs.size+1)) { s with heap:=h' }) :
  wpAny (model prog w) A (call (.type "enumerate") [.ref l]) Q E s:=by
 obtain ⟨⟨c,dct,dt,sl⟩,hl,hc,n,hd⟩:=hL
 replace hc:c = .type "tuple" := hc
 replace hd:dt = .seq items n:=hd
 subst hc hd
 refine callType_new F.called_enumerate (by decide) (F.typeCall_enumerate_1 _) (F.newCall_enumerate_1 _) (fun obj=>F.args_object_init_2 obj _) F.entry_enumerate_new
  (xn l items n dct sl) ⟨hl,?_⟩
 have hz:(s.heap.push { cls:=.type "tuple_iterator",data:=.fields #[.ref l,.int 0 0] }).objs.size=s.heap.objs.size+1:=Heap.size_push ..
 show _/\_
 rw [hz]
 have he:IsEnum ((s.heap.push { cls:=.type "tuple_iterator",data:=.fields #[.ref l,.int 0 0] }).push
   { cls:=.type "enumerate",data:=.fields #[.none,.bool false,.ref s.heap.objs.size,rawInt 0,.none,.none] }) (s.heap.objs.size+1) s.heap.objs.size 0 .none:=by
  have:=Heap.get?_push_size (s.heap.push { cls:=.type "tuple_iterator",data:=.fields #[.ref l,.int 0 0] })
   (o:={ cls:=.type "enumerate",data:=.fields #[.none,.bool false,.ref s.heap.objs.size,rawInt 0,.none,.none] }) rfl
  rw [hz] at this;exact this
 refine ⟨⟨_,he,rfl⟩,h _ he ⟨_,Heap.get?_push_of_some _ (Heap.get?_push_size _ rfl),rfl,rfl⟩ (by simp) fun b o x=>Heap.get?_push_of_some _ (Heap.get?_push_of_some _ x)⟩
end
def Ite (K:PySem.W.Frag)(a:Addr):It:=
 ⟨fun i H=>∃ xs x,SqT K H a xs/\xs[i]?=some x,fun i H v H'=>∃ T x,v = .ref T/\H T=none/\H'=upd H T (.tup [.int i,x])/\∀ xs,SqT K H a xs->xs[i]?=some x,fun i H=>∃ xs,SqT K H a xs/\xs.length<=i⟩
theorem zfC {P:Program}{w:World}{K:PySem.W.Frag}{elts:List Expr}{x1}{tpos:Pos}(a it e:Addr)(hei:e≠it) :
  Turn P w K (.Tuple elts x1 tpos) (Ite K a) [e,it] e (fun i h=>(∃ old,IsEnum h e it i old)/\h.IsTupleIter it a i) where
 mem:=by simp
 obj:=fun i h st b hb=>by
  rcases List.mem_cons.mp hb with rfl | hb
  ·grind
  ·rw [List.mem_singleton.mp hb]
   obtain ⟨_,o,e,c,d⟩:=st
   simp_all
 keep:=fun i h h' st k=>by
  obtain ⟨⟨old,he⟩,o,ho,r⟩:=st
  exact ⟨⟨old,k e (by simp) _ he⟩,o,k it (by simp) _ ho,r⟩
 item:=by
  intro X hP hw hK hc i pins s σ H E I hf st hg
  subst hP hw hK
  obtain ⟨xs,x,hq,hx⟩:=hg
  obtain ⟨its,rv,p,hz⟩:=I.tuple hq
  obtain ⟨u,hu,ru⟩:=rv.get hx
  obtain ⟨f0,f1,f2,f3,f4,f5⟩:=hf e (by simp)
  obtain ⟨g0,g1,g2,g3,g4,g5⟩:=hf it (by simp)
  obtain ⟨⟨old,he⟩,hit⟩:=st
  have hsz:i<its.toArray.size:=by
   have:=(List.getElem?_eq_some_iff.mp hu).1
   simpa using this
  have hai:a≠it:=by
   intro z
   obtain ⟨o,ho,hcl,_⟩:=p
   obtain ⟨o',ho',hcl',_⟩:=hit
   grind
  have hea:e≠a:=by
   intro z
   obtain ⟨o,ho,hcl,_⟩:=p
   grind
  refine wpAny_pyNext_enum_itemD (zco (A:=X.A.in1) (I.ok.hd hc) it a hai its.toArray) he ⟨hit,p⟩ hsz hei (by simp [hei,hea]) fun y h' tk hy ho hst hT hsz' hk=>?_
  have hy':y=u:=by
   simp_all
  subst hy'
  refine ⟨_,rfl,?_⟩
  refine wpAny_letOwnedTupleGo_enum ho fun h'' he'' hs''=>?_
  have hTe:s.heap.objs.size≠e:=Nat.ne_of_gt (Heap.lt_size he)
  have hTi:s.heap.objs.size≠it:=by
   obtain ⟨o,hoi,_⟩:=hit
   exact Nat.ne_of_gt (Heap.lt_size hoi)
  have hnone:=I.hok.fresh (Nat.le_refl s.heap.objs.size)
  have kp:∀ b o,b≠e->b≠it->s.heap.get? b=some o->h''.get? b=some o:=fun b o h1 h2 hb=>(hs''.2 b h1).trans (hk b o h1 h2 hb)
  have hT'':h''.get? s.heap.objs.size=some { cls:=.type "tuple",data:=.seq #[.int i tk,y] }:=(hs''.2 _ hTe).trans hT
  obtain ⟨oe,hoe⟩:∃ o,h''.get? e=some o:=⟨_,he''⟩
  obtain ⟨oi,hoi⟩:∃ o,h''.get? it=some o:=by
   obtain ⟨⟨o,ho2,_⟩,_⟩:=hst
   exact ⟨o,(hs''.2 it (Ne.symm hei)).trans ho2⟩
  have objK:∀ b u',H b=some u'->b≠e/\b≠it:=fun b u' hb=>⟨zb hb f0,zb hb g0⟩
  have hok':HOk X.prog X.w (upd H s.heap.objs.size (.tup [.int i,x])) h'':=by
   intro b u' hb
   by_cases hbT:b=s.heap.objs.size
   ·subst hbT
    rw [zh] at hb
    cases hb
    exact ⟨by show 2<=sizeLine;decide,[.int i tk,y],.cons ⟨tk,rfl⟩ (.cons ru .nil),_,hT'',rfl,⟨0,rfl⟩,rfl⟩
   ·rw [zd hbT] at hb
    refine (I.hok b u' hb).stay (fun c v hcv q=>?_) (fun c q=>?_) (fun c ys q=>?_)
    ·refine kp c v ?_ ?_ q
     all_goals grind
    ·rw [zd (zb q hnone)];exact q
    ·rw [zd (zb q hnone)];exact q
  have I1:Inv X pins σ (upd H s.heap.objs.size (.tup [.int i,x])) { s with heap:=h'',toks:=tk+1 }:=by
   refine Inv.step (ch:=[e,it]) (g':=s.gens) (d':=s.drawn) (t':=tk+1) I (fun b hb=>?_) (fun b o h1 h2 h3 h4 h5=>?_) (fun b o h1 h2 h3 h4 h5=>?_) (fun b o h3 h4 h5=>?_) (fun b o h3 h4=>?_) (fun b ys q=>?_) (fun b o u' q=>?_) (fun b ps q=>?_) (fun m hm=>?_) hok' I.bare
   ·rcases List.mem_cons.mp hb with rfl | hb
    ·exact ⟨f3,f1,f4,f5⟩
    ·rw [List.mem_singleton.mp hb]
     exact ⟨g3,g1,g4,g5⟩
   ·simp_all
   ·exact ⟨o.slots,kp b o (fun z=>h3 (by simp [z])) (fun z=>h3 (by simp [z])) h4⟩
   ·rw [zd (Nat.ne_of_lt (Heap.lt_size h4))];exact h5
   ·simp_all
   ·rw [zd (zb q hnone)];exact q
   ·rw [zd (zb q hnone)];exact q
   ·exact ⟨#[],by rw [zd (zb q hnone),Array.append_empty];exact q⟩
   ·obtain ⟨o,es,ep,ho1,r1⟩:=hm
    exact ⟨o,es,ep,kp _ o (Ne.symm f1) (Ne.symm g1) ho1,r1⟩
  refine ⟨.ref s.heap.objs.size,_,I1,rfl,⟨s.heap.objs.size,x,rfl,hnone,rfl,fun ys hy2=>by rw [I.tuple_inj hy2 hq];exact hx⟩,⟨⟨y,by have:=he'';push_cast;exact this⟩,?_⟩,fun b hb=>?_⟩
  ·obtain ⟨⟨o,ho2,r2⟩,_⟩:=hst
   exact ⟨o,(hs''.2 it (Ne.symm hei)).trans ho2,r2⟩
  ·rcases List.mem_cons.mp hb with rfl | hb
   ·rw [zd (Ne.symm hTe)];exact f0
   ·rw [List.mem_singleton.mp hb,zd (Ne.symm hTi)];exact g0
 done:=by
  intro X hP hw hK hc i pins s σ H E I hf st hg
  subst hP hw hK
  obtain ⟨xs,hq,hx⟩:=hg
  obtain ⟨its,rv,p,hz⟩:=I.tuple hq
  obtain ⟨f0,f1,f2,f3,f4,f5⟩:=hf it (by simp)
  obtain ⟨⟨old,he⟩,hit⟩:=st
  have hl:=rv.length
  have hT:s.TypeIs (.ref e) "enumerate" := ⟨_,he,rfl⟩
  unfold pyNext
  refine wpAny_bind (wpAny_attempt (wpAny_callSpecial?_slot (name:=Str.ofString "__next__") hT F.slot_enumerate_next
   (wpAny_call_entry F.slot_enumerate_next hT F.entry_enumerate_next ?_ (F.args_enumerate_next_1 _))))
  show wpAny _ _ (field (.ref e) 2 >>= _) _ _ _
  refine wpAny_bind (wpAny_field he rfl (x:=.ref it) rfl ?_)
  refine wpAny_bind (yn (A:=X.A.in1) (I.ok.hd hc) hit p (by simp;lia) fun h' x he' hx'=>?_)
  obtain ⟨o,ho,hc'⟩:=hx'
  refine wpAny_bind (wpAny_isInstance (T := "StopIteration") (b:=true) ⟨o,ho,hc'⟩ isSubtype_stop ?_)
  exact wpAny_pure ⟨rfl,I.turned (t':=s.toks) (fun b o hb e=>he' b o hb e) f0 f1 f3 f4 f5⟩
 self:=fun A i s Q E st h=>by
  obtain ⟨⟨old,he⟩,hit⟩:=st
  exact wpAny_pyIter_enum he h
def zky (K:PySem.W.Frag)(ta:TA):TI:=fun σ H R=>ta σ H fun vs H1=>∃ a,vs=[.ref a]/\(∃ xs,SqT K H1 a xs)/\R (Ite K a) H1
theorem zjc {X:Cx}{elts:List Expr}{x1}{tpos:Pos}{a:Expr}{ta:TA}{p pos:Pos}(hg:Gl X "enumerate")(hm:X.mg "enumerate" = none)(ha:PA X [a] ta)(hs:starEach [a] X.env=[(false,eval a X.env)]:=by rfl) :
  PI X (.Tuple elts x1 tpos) (.Call (.Name "enumerate" p) [a] [] pos) (zky X.K ta):=by
 intro pins s σ H R I h
 refine Call_ (uX I hg hm boot_enumerate (PyProof.Rows.callWith_type1 (thn (ha pos pins s σ H _ I h) fun us s1 ⟨vs,H1,I1,r1,q1⟩=>?_) hs rfl))
 obtain ⟨b,rfl,⟨xs,hq⟩,q⟩:=q1
 obtain ⟨u,rfl,ru⟩:=zb6 r1
 cases ru
 obtain ⟨its,rv,pt,hz⟩:=I1.tuple hq
 refine xm (show s1.heap.IsTuple b its.toArray from pt) fun h' he hit hsz hk=>?_
 have I2:Inv X pins σ H1 { s1 with heap:=h',toks:=s1.toks }:=I1.kept (t':=s1.toks) hk
 refine wpAny_pyIter_enum he ?_
 refine ⟨s1.heap.objs.size+1,[s1.heap.objs.size+1,s1.heap.objs.size],_,_,H1,rfl,I2,zfC b s1.heap.objs.size (s1.heap.objs.size+1) (Nat.succ_ne_self _),⟨⟨_,he⟩,hit⟩,fun c hc=>?_,q⟩
 rcases List.mem_cons.mp hc with rfl | hc
 ·exact I1.fpOk (Nat.le_succ _) (I1.hok.fresh (Nat.le_succ _))
 ·rw [List.mem_singleton.mp hc]
  exact I1.fpOk (Nat.le_refl _) (I1.hok.fresh (Nat.le_refl _))
theorem zjy {X:Cx}{elts:List Expr}{x1}{tpos:Pos}{a:Expr}{ta:TA}{p pos:Pos}(hg:Gl X "enumerate")(hm:X.mg "enumerate" = none)(ha:QA X [a] ta)(hs:starEach [a] X.env=[(false,eval a X.env)]:=by rfl) :
  QI X (.Tuple elts x1 tpos) (.Call (.Name "enumerate" p) [a] [] pos) (zky X.K ta):=⟨zjc hg hm ha.run hs⟩
mutual
def Dt.toW:Dt->PySem.W.Dat
 | .non=>.none
 | .bl b=>.bool b
 | .int i=>.int i
 | .str x=>.str x
 | .tup l=>.tuple (Dt.toWs l)
 | .lst l=>.list (Dt.toWs l)
 | .dct=>.bytes #[]
def Dt.toWs:List Dt->List PySem.W.Dat
 | []=>[]
 | d::ds=>d.toW::Dt.toWs ds
end
mutual
theorem zfB:∀ {d e:Dt},d.toW=e.toW->d=e
 | .non,e,h=>by cases e <;> simp [Dt.toW] at h ⊢
 | .bl b,e,h=>by cases e <;> simp [Dt.toW] at h ⊢;exact h
 | .int b,e,h=>by cases e <;> simp [Dt.toW] at h ⊢;exact h
 | .str b,e,h=>by cases e <;> simp [Dt.toW] at h ⊢;exact h
 | .tup l,e,h=>by
  cases e with
  | tup m=>simp only [Dt.toW,PySem.W.Dat.tuple.injEq] at h;rw [zbm h]
  | _=>simp [Dt.toW] at h
 | .lst l,e,h=>by
  cases e with
  | lst m=>simp only [Dt.toW,PySem.W.Dat.list.injEq] at h;rw [zbm h]
  | _=>simp [Dt.toW] at h
 | .dct,e,h=>by cases e <;> simp [Dt.toW] at h ⊢
theorem zbm:∀ {l m:List Dt},Dt.toWs l=Dt.toWs m->l=m
 | [],m,h=>by cases m <;> simp [Dt.toWs] at h ⊢
 | d::l,m,h=>by
  cases m with
  | nil=>simp [Dt.toWs] at h
  | cons e m=>
   simp only [Dt.toWs,List.cons.injEq] at h
   rw [zfB h.1,zbm h.2]
end
def Dt.eqOk (d:Dt):Prop:=PySem.W.kqdOk 8 d.toW=true
section
variable {P:Program}{w:World}{H:Hp}{h:Heap}
mutual
theorem xM (ok:HOk P w H h):∀ (n:Nat) {d:Dt} {v:V} {u:Value},Is H d v->zX v u->PySem.W.kqdOk n d.toW=true->∃ as,Reads h u (PySem.W.kqdP d.toW) as
 | _,.non,_,_,h1,r,_=>by cases h1;cases r;exact ⟨_,Reads.none⟩
 | n,.bl b,_,_,_,_,k=>by cases n <;> simp [Dt.toW,PySem.W.kqdOk] at k
 | _,.int i,_,_,h1,r,_=>by cases h1;obtain ⟨t,rfl⟩:=r;exact ⟨_,Reads.int i t⟩
 | _,.str x,_,_,h1,r,_=>by cases h1;obtain ⟨t,rfl⟩:=r;exact ⟨_,Reads.str x t⟩
 | 0,.tup l,_,_,_,_,k=>by simp [Dt.toW,PySem.W.kqdOk] at k
 | n+1,.tup l,_,_,h1,r,k=>by
  obtain ⟨a,xs,rfl,ha,hl⟩:=h1
  cases r
  obtain ⟨_,its,rv,o,ho,hc,⟨m,hd⟩,_⟩:=ok a _ ha
  obtain ⟨as,q⟩:=xA ok n hl rv (by simpa [Dt.toW,PySem.W.kqdOk] using k)
  exact ⟨as,reads_tuple_at ho hc hd (by simpa using q)⟩
 | 0,.lst l,_,_,_,_,k=>by simp [Dt.toW,PySem.W.kqdOk] at k
 | n+1,.lst l,_,_,h1,r,k=>by
  obtain ⟨a,xs,rfl,ha,hl⟩:=h1
  cases r
  obtain ⟨_,its,m,rv,e⟩:=ok a _ ha
  obtain ⟨as,q⟩:=xA ok n hl rv (by simpa [Dt.toW,PySem.W.kqdOk] using k)
  exact ⟨_,reads_list_at e rfl rfl (by simpa using q)⟩
 | n,.dct,_,_,_,_,k=>by cases n <;> simp [Dt.toW,PySem.W.kqdOk] at k
theorem xA (ok:HOk P w H h):∀ (n:Nat) {ds:List Dt} {xs:List V} {us:List Value},IsL H ds xs->zY xs us->(∀ d∈Dt.toWs ds,PySem.W.kqdOk n d=true)->∃ as,ReadsAll h us (PySem.W.kqdPs (Dt.toWs ds)) as
 | _,[],_,_,h1,r,_=>by cases h1;cases r;exact ⟨_,ReadsAll.nil⟩
 | n,d::ds,_,_,h1,r,k=>by
  obtain ⟨x,xr,rfl,hd,hr⟩:=h1
  cases r with
  | cons rx rr=>
   obtain ⟨as,q⟩:=xM ok n hd rx (k _ (by simp [Dt.toWs]))
   obtain ⟨bs,q2⟩:=xA ok n hr rr fun e he=>k e (by simp [Dt.toWs,he])
   exact ⟨_,ReadsAll.cons q q2⟩
end
end
theorem yQ {d:Dt}(h:d.eqOk):SeqAt.shaped (PySem.W.kqdP d.toW)=true:=by
 have l:=PySem.W.kqd_lay 8 _ h
 unfold SeqAt.shaped
 grind
def zmP:R2:=fun x y H Q=>∃ d e,Is H d x/\Is H e y/\d.eqOk/\e.eqOk/\∀ b:Bool,(b=true↔d=e)->Q (.bl b) H
def zmS:R2:=fun x y H Q=>∃ d e,Is H d x/\Is H e y/\d.eqOk/\e.eqOk/\∀ b:Bool,(b=true↔d=e)->Q (.bl (!b)) H
section
variable {X:Cx}
theorem zeu {d e:Dt}(h1:d.eqOk)(h2:e.eqOk):PyData.eqv (PySem.W.kqdP d.toW) (PySem.W.kqdP e.toW)=true↔d=e:=
 (PySem.W.kqd_eqv 8 d.toW e.toW 8 h1 h2).trans ⟨zfB,fun z=>by rw [z]⟩
theorem zk6 (hu:X.A.units+64<cLine):OpR X (compareOp .Eq) zmP:=by
 intro pins s σ H x y v u Q I rx ry h
 obtain ⟨d,e,hd,he,kd,ke,q⟩:=h
 obtain ⟨as,ra⟩:=xM I.hok 8 hd rx kd
 obtain ⟨bs,rb⟩:=xM I.hok 8 he ry ke
 exact eq_dataH ra rb (yQ kd) (yQ ke) hu ⟨.bl _,H,I,rfl,q _ (zeu kd ke)⟩
theorem zk9 (hu:X.A.units+64<cLine):OpR X (compareOp .NotEq) zmS:=by
 intro pins s σ H x y v u Q I rx ry h
 obtain ⟨d,e,hd,he,kd,ke,q⟩:=h
 obtain ⟨as,ra⟩:=xM I.hok 8 hd rx kd
 obtain ⟨bs,rb⟩:=xM I.hok 8 he ry ke
 exact ne_dataH ra rb (yQ kd) (yQ ke) hu ⟨.bl _,H,I,rfl,q _ (zeu kd ke)⟩
theorem zbW (hu:X.A.units+64<cLine):OpQ X (compareOp .Eq) zmP:=⟨zk6 hu⟩
theorem zld (hu:X.A.units+64<cLine):OpQ X (compareOp .NotEq) zmS:=⟨zk9 hu⟩
theorem zlJ {o e:Expr}{to:TE}{t:TA}{apos cpos:Pos}(ho:QE X o to)(ha:QA X [e] t)(hbase:attributeBase o "append" X.env (eval o X.env)=eval o X.env:=by rfl)
  (hfew:((backTo cpos (starEach [e] X.env)).all (fun x=>!x.1)&&(backToKw cpos (keywordEach [] X.env)).all (fun x=>x.1.isSome)&&decide (([e]:List Expr).length+([]:List Keyword).length+(if ([]:List Keyword).isEmpty then 0 else 1)<30))=true:=by rfl)
  (hline:(apos.endLine==cpos.line)=true:=by rfl) (hs:starEach [e] X.env=(false,eval e X.env)::starEach [] X.env:=by rfl) (hplain:(backTo cpos (starEach [] X.env)).any (·.1)=false:=by rfl) :
  QE X (.Call (.Attribute o "append" apos) [e] [] cpos) (tBM X.K "list" zcU to t):=⟨zlj PySem.F.plainAttrs_list PySem.F.slot_list_append PySem.F.type_list_append zbQ ho.run ha.run hbase hfew hline hs hplain⟩
end
theorem yL {ns:List Int}:(Dt.tup (ns.map .int)).eqOk:=by
 have e:∀ ns:List Int,(Dt.toWs (ns.map .int)).all (PySem.W.kqdOk 7)=true:=by
  intro ns
  induction ns with
  | nil=>rfl
  | cons n ns ih=>simp only [List.map_cons,Dt.toWs,List.all_cons,ih,Bool.and_true];rfl
 exact e ns
def zE (rm:List Int)(i:Int):Int:=rm.getD i.toNat 0
@[reducible] def yI (q:Int×Int):Dt:=.tup [.int q.1,.int q.2]
structure Giv (rm:List Int)(g:List (Int×Int)):Prop where
 ok:∀ q∈g,0<=q.1/\q.1<rm.length/\0<=q.2/\q.2<zE rm q.1
 up:g.Pairwise fun a b=>a.1<b.1
theorem zdI {g:List (Int×Int)}:(Dt.tup (g.map yI)).eqOk/\(Dt.lst (g.map yI)).eqOk:=by
 have e:∀ g:List (Int×Int),(Dt.toWs (g.map yI)).all (PySem.W.kqdOk 7)=true:=by
  intro g
  induction g with
  | nil=>rfl
  | cons n ns ih=>simp only [List.map_cons,Dt.toWs,List.all_cons,ih,Bool.and_true];rfl
 exact ⟨e g,e g⟩
def zd6 (H H':Hp):Prop:=∀ b xs,H b=some (.tup xs)->H' b=some (.tup xs)
theorem zd6.app {H:Hp}{a:Addr}{xs ys:List V}(h:H a=some (.lst xs)):zd6 H (upd H a (.lst ys)):=fun b zs e=>by
 by_cases hb:b=a
 ·grind
 ·rw [zd hb];exact e
mutual
def Dt.noL:Dt->Bool
 | .tup l=>Dt.noLs l
 | .lst _=>false
 | .dct=>false
 | _=>true
def Dt.noLs:List Dt->Bool
 | []=>true
 | d::ds=>d.noL&&Dt.noLs ds
end
mutual
theorem Is.stayT {H H1:Hp}(a:zd6 H H1):∀ {d:Dt} {v:V},d.noL=true->Is H d v->Is H1 d v
 | .non,_,_,h=>h
 | .bl _,_,_,h=>h
 | .int _,_,_,h=>h
 | .str _,_,_,h=>h
 | .tup l,_,n,h=>by
  obtain ⟨p,xs,e,hp,hl⟩:=h
  exact ⟨p,xs,e,a _ _ hp,IsL.stayT a (by simpa [Dt.noL] using n) hl⟩
 | .lst l,_,n,_=>by simp [Dt.noL] at n
 | .dct,_,n,_=>by simp [Dt.noL] at n
theorem IsL.stayT {H H1:Hp}(a:zd6 H H1):∀ {ds:List Dt} {xs:List V},Dt.noLs ds=true->IsL H ds xs->IsL H1 ds xs
 | [],_,_,h=>h
 | d::ds,_,n,h=>by
  obtain ⟨x,r,e,hd,hr⟩:=h
  have n':d.noL=true/\Dt.noLs ds=true:=by simpa [Dt.noLs] using n
  exact ⟨x,r,e,Is.stayT a n'.1 hd,IsL.stayT a n'.2 hr⟩
end
theorem Giv.snoc {rm:List Int}{g:List (Int×Int)}{i w:Int}(h:Giv rm g)(hl:∀ q∈g,q.1<i)(h0:0<=i)(h1:i<rm.length)(h2:0<=w)(h3:w<zE rm i):Giv rm (g++[(i,w)]):=by
 refine ⟨fun q hq=>?_,List.pairwise_append.mpr ⟨h.up,List.pairwise_singleton _ _,fun a ha b hb=>?_⟩⟩
 ·rcases List.mem_append.mp hq with z | z
  ·exact h.ok q z
  ·simp_all
 ·rw [List.mem_singleton.mp hb];exact hl a ha
def New (H:Hp)(o:HO)(R:V->Hp->Prop):Prop:=∀ (p:Addr) (H':Hp),H p=none->H' p=some o->yk H H'->R (.ref p) H'
theorem New.at {H:Hp}{o:HO}{R:V->Hp->Prop}(h:New H o R){p:Addr}(hp:H p=none):R (.ref p) (upd H p o):=h p _ hp zh (yk.upd hp)
def zmk (t:TA):TE:=fun σ H Q=>t σ H fun xs H1=>xs.length<=sizeLine/\New H1 (.tup xs) Q
def zme (t:TA):TE:=fun σ H Q=>t σ H fun xs H1=>xs.length<=sizeLine/\New H1 (.lst xs) Q
section
variable {X:Cx}{es:List Expr}{t:TA}{pos:Pos}
theorem zi8 {x1}(h:PA X es t):PE X (.Tuple es x1 pos) (zmk t):=by
 intro pins s σ H Q I hq
 refine wpAny_Tuple_spliced (thn (h pos pins s σ H _ I hq) fun us s1 ⟨xs,H1,I1,r,z,q⟩=>⟨by rw [<- r.length];exact z,?_⟩)
 have hf:H1 s1.heap.objs.size=none:=I1.hok.fresh (Nat.le_refl _)
 refine ⟨.ref s1.heap.objs.size,upd H1 s1.heap.objs.size (.tup xs),I1.laid (t':=s1.toks) (fun b u e=>Heap.get?_push_of_some _ e) (Nat.le_refl _) ?_,rfl,q.at hf⟩
 exact ⟨z,us,r,⟨_,Heap.get?_push_size _ rfl,rfl,⟨_,rfl⟩,rfl⟩⟩
theorem zi6 (h:PA X es t):PE X (.List es pos) (zme t):=by
 intro pins s σ H Q I hq
 refine wpAny_List_spliced (thn (h pos pins s σ H _ I hq) fun us s1 ⟨xs,H1,I1,r,z,q⟩=>⟨by rw [<- r.length];exact z,?_⟩)
 have hf:H1 s1.heap.objs.size=none:=I1.hok.fresh (Nat.le_refl _)
 refine ⟨.ref s1.heap.objs.size,upd H1 s1.heap.objs.size (.lst xs),I1.laid (t':=s1.toks) (fun b u e=>Heap.get?_push_of_some _ e) (Nat.le_refl _) ?_,rfl,q.at hf⟩
 exact ⟨z,us,0,r,Heap.get?_push_size _ rfl⟩
theorem zcQ {x1}(h:QA X es t):QE X (.Tuple es x1 pos) (zmk t):=⟨zi8 h.run⟩
theorem zff (h:QA X es t):QE X (.List es pos) (zme t):=⟨zi6 h.run⟩
theorem CallQ.weak {f:Value}{r r':List V->Hp->VK->Prop}(h:CallQ X f r)(k:∀ xs H Q,r' xs H Q->r xs H Q):CallQ X f r':=⟨fun pins s σ H xs us Q I rr z=>h.run pins s σ H xs us Q I rr (k _ _ _ z)⟩
def zcV (K:PySem.W.Frag):List V->Hp->VK->Prop:=fun xs H Q=>∃ p ys,xs=[.ref p]/\((SqL K H p ys/\New H (.tup ys) Q)\/(SqT K H p ys/\Q (.ref p) H))
theorem uc:CallQ X (.type "tuple") (zcV X.K):=zck.weak <| by rintro xs H Q ⟨p,ys,e,h⟩;exact ⟨p,ys,e,h.elim (by rintro ⟨a,n⟩;exact .inl ⟨a,fun l hl=>n.at hl⟩) .inr⟩
end
def zm2 (J:It)(g:TG)(ti:TT)(te:TE)(acc:Addr)(Q:VK)(σ:St)(H:Hp):Prop:=∃ W:Nat->Nat->St->Hp->Prop,(∃ m,W 0 m σ H)/\
 ∀ i m σ' H',W i m σ' H'->(J.stop i H'/\Q (.ref acc) H')\/(J.go i H'/\∃ N:St->Hp->Prop,(∀ σ2 H2,N σ2 H2->∃ m',m'<m/\W (i+1) m' σ2 H2)/\∀ x H2,J.yld i H' x H2->zef g ti te acc N x σ' H2)
def zdu (wi:TI)(g:TG)(ti:TT)(te:TE)(cix:List (Option Nat)):TE:=fun σ H Q=>wi σ H fun J H1=>∀ acc,H1 acc=none->zm2 J g ti te acc Q (uw σ cix) (upd H1 acc (.lst []))
theorem zgK {X:Cx}{pos:Pos}{te:TE}{elt tg iter:Expr}{ifs:List Expr}{scope:Scope}{wi:TI}{g:TG}{ti:TT}{N:List Str}{cix:List (Option Nat)}(hc:X.calm=true)(c:CompOk X scope N cix)
  (hi:QI X tg iter wi) (hg:∀ C s H ex,QG (zu X scope N C s H ex) tg g) (ht:∀ C s H ex,QTs (zu X scope N C s H ex) ifs ti) (he:∀ C s H ex,QE (zu X scope N C s H ex) elt te)
  (hs:∀ x,foldedSetIterable iter X.env x=pure x:=by intro _;rfl):QE X (.ListComp elt [⟨tg,iter,ifs,0⟩] scope pos) (zdu wi g ti te cix):=zjr hc c hi hg ht he hs
section
variable {K:PySem.W.Frag}{a acc:Addr}{xs:List V}{g:TG}{ti:TT}{te:TE}{σ:St}{H:Hp}{Q:VK}
end
theorem zkd {g:TG}{te:TE}{acc:Addr}{N:St->Hp->Prop}{x:V}{σ:St}{H:Hp}(h:g x σ H fun σ3 H3=>te σ3 H3 fun v H5=>∃ xs,H5 acc=some (.lst xs)/\xs.length<sizeLine/\N σ3 (upd H5 acc (.lst (xs++[v])))):zef g ub te acc N x σ H:=zhn h
theorem zgT {H H1:Hp}{acc:Addr}{o:HO}(h:H acc=none)(s:yk H H1):yk H (upd H1 acc o):=fun b u e=>by rw [zd (zb e h)];exact s b u e
section
variable {X:Cx}(K:PySem.W.Frag)(h:X.K=K)
include h
theorem zgy:OpQ X (binaryOp .Add) (zfn K):=h ▸ yS
end
theorem zjw {X:Cx}(K:PySem.W.Frag)(hK:X.K=K){es:List Expr}{pos:Pos}{k:Nat}{gs:TGs}{n:Nat}(hc:X.calm=true)(h:QGs X es gs)(hn:(assignEach es X.env).length=n:=by rfl)(hst:(assignEach es X.env).findIdx? (·.1)=none:=by rfl):QG X (.Tuple es k pos) (zns K n gs):=hK ▸ zlO hc h hn hst
theorem zjz {X:Cx}(K:PySem.W.Frag)(hK:X.K=K){e tg:Expr}{te:TE}(hl:QE X e te):QI X tg e (znv K te):=hK ▸ zhx hl
theorem zdr {X:Cx}(K:PySem.W.Frag)(hK:X.K=K){e tg:Expr}{te:TE}(hl:QE X e te):QI X tg e (zia K te):=hK ▸ zcR hl
structure Wi where
 g:List (Int×Int)
 b:Int
 r:Int
 w:Int
@[reducible] def xI (x:Wi):Dt:=.tup [.tup (x.g.map yI),.int x.b,.int x.r,.int x.w]
structure WishOk (rm:List Int)(x:Wi):Prop where
 giv:Giv rm x.g
 b0:0<=x.b
 b1:x.b<rm.length
 apart:∀ q∈x.g,q.1≠x.b
 r0:0<=x.r
 r1:x.r<zE rm x.b
 w0:0<=x.w
 w1:x.w<zE rm x.b
 ne:x.r≠x.w
section
variable {H H':Hp}{R:Dt->Prop}{xs ys:List V}
end
theorem zgm (x:Wi):PySem.W.kqdOk 7 (xI x).toW=true:=by
 have e:∀ g:List (Int×Int),(Dt.toWs (g.map yI)).all (PySem.W.kqdOk 5)=true:=by
  intro g
  induction g with
  | nil=>rfl
  | cons n ns ih=>simp only [List.map_cons,Dt.toWs,List.all_cons,ih,Bool.and_true];rfl
 show ((Dt.toWs (x.g.map yI)).all (PySem.W.kqdOk 5)&&_)=true
 rw [e]
 rfl
theorem zcr {m:Int}:∀ {g:List (Int×Int)} {lo:Int},(∀ q∈g,lo<=q.1/\q.1<m)->(g.Pairwise fun a b=>a.1<b.1)->lo<=m->(g.length:Int)<=m - lo
 | [],lo,_,_,h=>by simp;lia
 | q::g,lo,h,hp,hm=>by
  have h1:=h q List.mem_cons_self
  have hp':=List.pairwise_cons.mp hp
  have ih:=zcr (g:=g) (lo:=q.1+1) (fun x hx=>⟨by have:=hp'.1 x hx;lia,(h x (List.mem_cons_of_mem _ hx)).2⟩) hp'.2 (by lia)
  grind
theorem zcq {rm:List Int}{g:List (Int×Int)}(h:Giv rm g)(h8:rm.length<=8):g.length<=100:=by
 have:=zcr (g:=g) (lo:=0) (m:=rm.length) (fun q hq=>⟨(h.ok q hq).1,(h.ok q hq).2.1⟩) h.up (by lia)
 lia
section
variable {rm:List Int}{g b r w:Dt}
end
end L2
namespace HT
open PySem PySem.Spec PyProof.Rows
section
variable {prog:Program}{w:World}{A:Around}{E:Value->Shared->Prop}{s:Shared}
theorem zdC (n:Nat):Builtin.Slice.sliceAdjust none none (-1) (n:Int)=((n:Int) - 1,-1):=by
 unfold Builtin.Slice.sliceAdjust
 simp
theorem zdU (n:Nat):Builtin.Slice.slicePlaces ((n:Int) - 1) (-1) (-1)=n:=by
 unfold Builtin.Slice.slicePlaces
 grind
theorem zdi {α β:Type}{f g:α->Option β}:∀ {l:List α},(∀ m∈l,f m=g m)->l.filterMap f=l.filterMap g
 | [],_=>rfl
 | a::l,h=>by rw [List.filterMap_cons,List.filterMap_cons,h a List.mem_cons_self,zdi fun m hm=>h m (List.mem_cons_of_mem _ hm)]
theorem zgG (xs:Array Value):((List.range xs.size).filterMap fun (m:Nat)=>xs[((xs.size:Int) - 1+(m:Int) * (-1)).toNat]?).toArray=xs.toList.reverse.toArray:=by
 congr 1
 have e:∀ m∈List.range xs.size,xs[((xs.size:Int) - 1+(m:Int) * (-1)).toNat]?=some (xs.toList.reverse.getD m .none):=by
  intro m hm
  have hm':=List.mem_range.mp hm
  have e1:((xs.size:Int) - 1+(m:Int) * (-1)).toNat=xs.size - 1 - m:=by lia
  simp_all
 rw [zdi e]
 rw [List.filterMap_eq_map' (f:=fun m=>xs.toList.reverse.getD m .none)]
 refine List.ext_getElem? fun i=>?_
 rw [List.getElem?_map]
 by_cases hi:i<xs.size
 all_goals simp_all
theorem uB {sl:Addr}{t:Tok}{n:Nat}{Q:Int×Int×Nat->Shared->Prop}(hs:s.heap.IsSliceOf sl .none .none (.int (-1) t))(h:Q ((n:Int) - 1,-1,n) s):wpAny (model prog w) A (Builtin.Slice.sliceApplied (.ref sl) (pure (n:Int))) Q E s:=by
 obtain ⟨os,hos,hcs,hds⟩:=id hs
 unfold Builtin.Slice.sliceApplied Builtin.Slice.sliceFields
 refine wpAny_bind (wpAny_bind (wpAny_field hos hds (x:=.none) rfl (wpAny_bind (wpAny_field hos hds (x:=.none) rfl (wpAny_bind (wpAny_field hos hds (x:=.int (-1) t) rfl (wpAny_pure ?_)))))))
 refine wpAny_bind (yO (.int (-1) t) ?_)
 show wpAny _ _ (if ((-1:Int)==0)=true then _ else _) _ _ s
 rw [if_neg (by decide)]
 refine wpAny_bind (yO .none (wpAny_bind (yO .none (wpAny_bind (wpAny_pure ?_)))))
 show wpAny _ _ (match Builtin.Slice.sliceAdjust none none (-1) (n:Int) with | (lo,hi)=>pure (lo,(-1:Int),Builtin.Slice.slicePlaces lo hi (-1))) _ _ s
 rw [zdC n]
 show wpAny _ _ (pure ((n:Int) - 1,(-1:Int),Builtin.Slice.slicePlaces ((n:Int) - 1) (-1) (-1))) _ _ s
 rw [zdU]
 exact wpAny_pure h
theorem getItem_tuple_rev {t sl:Addr}{items:Array Value}{tk:Tok}{Q:Value->Shared->Prop}(ht:IsTup s.heap t items)(hs:s.heap.IsSliceOf sl .none .none (.int (-1) tk))
  (h:Q (.ref s.heap.objs.size) { s with heap:=s.heap.push { cls:=.type "tuple",data:=.seq items.toList.reverse.toArray } })
  (hsz:items.size<=sizeLine):wpAny (model prog w) A (getItem (.ref t) (.ref sl)) Q E s:=by
 have htake:sizeOk (.seq items.toList.reverse.toArray):=by
  show items.toList.reverse.toArray.size<=sizeLine
  simp_all
 obtain ⟨os,hos,hcs,hds⟩:=id hs
 have hTs:s.TypeIs (.ref sl) "slice" := ⟨os,hos,hcs⟩
 unfold getItem
 try with_reducible refine wpAny_holding ?_
 first | refine wpAny_bind (wpAny_pure ?_) | skip
 refine wpAny_bind (wpAny_sequenceKey ht.typeIs (by decide) ?_)
 refine wpAny_bind (wpAny_callSpecial?_slot (name:=Str.ofString "__getitem__") ht.typeIs PyProof.Rows.slot_tuple_getitem
  (wpAny_call_entry PyProof.Rows.slot_tuple_getitem ht.typeIs entry_tuple_getitem ?_ (args_tuple_getitem _ _)))
 show wpAny _ _ (Builtin.Tuple.tupleItemsOf (.ref t) >>= _) _ _ s
 refine wpAny_bind (tupleItemsOf_ ht ?_)
 refine wpAny_bind (wpAny_typeOf hTs ?_)
 rw [if_pos (by decide)]
 refine wpAny_bind (uB hs ?_)
 have hno:¬ ((((items.size:Int) - 1)==0&&(-1:Int)==1&&items.size==items.size)=true):=by
  simp_all
 show wpAny _ _ (if (((items.size:Int) - 1)==0&&(-1:Int)==1&&items.size==items.size)=true then _ else _) _ _ s
 rw [if_neg hno,zgG]
 first
  | exact wpAny_bind (m:=Builtin.Tuple.tupleExact _) (wpAny_newObj_type (wpAny_pure ⟨_,rfl,wpAny_pure h⟩) htake)
  | exact wpAny_bind (by grind) (by grind)
end
end HT
namespace L2
open PySem PySem.Spec PyProof.Rows
section
variable {X:Cx}{e:Expr}{te:TE}{pos p2 p3 p4:Pos}{j:Nat}
theorem zb8 {xs:List V}{us:List Value}(r:zY xs us):zY xs.reverse us.reverse:=by
 induction r with
 | nil=>exact .nil
 | cons h _ ih=>rw [List.reverse_cons,List.reverse_cons];exact ih.append (.cons h .nil)
def zmj (te:TE):TE:=fun σ H Q=>te σ H fun x H1=>∃ a xs,x = .ref a/\H1 a=some (.tup xs)/\New H1 (.tup xs.reverse) Q
theorem zi7 (he:PE X e te):PE X (.Subscript e (.Slice none none (some (.UnaryOp .USub (.Constant (.int 1) j p4) p3)) p2) pos) (zmj te):=by
 intro pins s σ H Q I h
 refine Subscript_ (thn (he pins s σ H _ I h)  ?_)
 rintro v s1 ⟨x,H1,I1,r1,q1⟩
 obtain ⟨a,xs,rfl,ha,q⟩:=q1
 cases r1
 refine wpAny_Slice ?_
 rw [evalPart_none]
 refine wpAny_pure (wpAny_pure ?_)
 rw [evalPart_some]
 refine thn (zoe (zmp (X:=X)) (zhq (X:=X)) pins s1 σ H1 (fun z H2=>z = .int (-1)/\H2=H1) I1 ⟨1,rfl,rfl,rfl⟩)  ?_
 rintro u s2 ⟨z,H2,I2,r2,e1,e2⟩
 subst e1 e2
 obtain ⟨tk,rfl⟩:=r2
 have I3:Inv X pins σ H2 { s2 with heap:=s2.heap.push { cls:=.type "slice",data:=.fields #[.none,.none,.int (-1) tk] } }:=I2.kept (t':=s2.toks) fun b ob q=>Heap.get?_push_of_some _ q
 obtain ⟨its,r,ht,hz⟩:=I3.tuple (.of ha)
 have hlen:its.toArray.size=xs.length:=by rw [List.size_toArray];exact r.length.symm
 show wpAny (model X.prog X.w) X.A (subscriptTail e _ (.ref a) (.ref s2.heap.objs.size)) (EP X pins σ Q) X.xe { s2 with heap:=s2.heap.push { cls:=.type "slice",data:=.fields #[.none,.none,.int (-1) tk] } }
 refine tail_any (ops:=[.ref a,.ref s2.heap.objs.size]) ht.typeIs PyProof.Rows.slot_tuple_getitem.lookup ?_ (by with_unfolding_all rfl)
 refine HT.getItem_tuple_rev ht (Heap.IsSliceOf.new ..) ?_ (by rw [hlen];exact hz)
 refine ⟨.ref _,_,I3.laid (t':=s2.toks) (o:=.tup xs.reverse) (fun b ob q=>Heap.get?_push_of_some _ q) (Nat.le_refl _) ?_,rfl,q.at (I3.hok.fresh (Nat.le_refl _))⟩
 exact ⟨by simp_all,_,zb8 r,y8.new _ _⟩
theorem zjv (he:QE X e te):QE X (.Subscript e (.Slice none none (some (.UnaryOp .USub (.Constant (.int 1) j p4) p3)) p2) pos) (zmj te):=⟨zi7 he.run⟩
end
section
variable {X:Cx}
end
def chg (st:List Int)(b w:Int):List Int:=st.take b.toNat++[w]++st.drop (b.toNat+1)
def zx (st:List Int)(g:List (Int×Int)):Bool:=g.all fun q=>decide (zE st q.1=q.2)
def znt (st:List Int)(x:Wi):Bool:=decide (zE st x.b=x.w)&&zx st x.g
theorem xO (st:List Int)(j:Nat):zE st (j:Int)=st.getD j 0:=by unfold zE;simp
theorem zbP {st:List Int}{r b:Int}(h0:0<=b)(h1:b<st.length):zE (st++[r]) b=zE st b:=by
 obtain ⟨j,rfl⟩:∃ j:Nat,b=j:=⟨b.toNat,by lia⟩
 have hj:j<st.length:=by lia
 rw [xO,xO,List.getD_eq_getElem?_getD,List.getD_eq_getElem?_getD,List.getElem?_append_left hj]
theorem zbO {st:List Int}{r:Int}:zE (st++[r]) (st.length:Int)=r:=by
 rw [xO,List.getD_eq_getElem?_getD,List.getElem?_append_right (Nat.le_refl _),Nat.sub_self]
 rfl
theorem zcC {st:List Int}{i:Nat}{m:Int}(h:st[i]?=some m):zE st (i:Int)=m:=by
 rw [xO,List.getD_eq_getElem?_getD,h]
 rfl
theorem zah {rm:List Int}(hb:∀ r∈rm,2<=r/\r<=4){b:Int}(h0:0<=b)(h1:b<rm.length):2<=zE rm b/\zE rm b<=4:=by
 obtain ⟨j,rfl⟩:∃ j:Nat,b=j:=⟨b.toNat,by lia⟩
 have hj:j<rm.length:=by lia
 rw [zcC (List.getElem?_eq_getElem hj)]
 simp_all
theorem zbR:∀ st:List Int,Dt.noLs (st.map .int)=true
 | []=>rfl
 | _::st=>by
  show (true&&Dt.noLs (st.map .int))=true
  rw [zbR st]
  rfl
theorem zjD {X:Cx}{elt tg iter:Expr}{ifs:List Expr}{scope:Scope}{pos spos:Pos}{wi:TI}{g:TG}{ti:TT}{te:TE}{N:List Str}{cix:List (Option Nat)}{ix:Nat}{nx:Str}{px:Pos}(hNd:X.N.Nodup)(hix:X.N[ix]?=some nx)(hlx:X.env.scope.names.lookup nx=some .local)(hc:X.calm=true)(c:CompOk X scope N cix)
  (hi:QI X tg iter wi) (hg:∀ C s H ex,QG (zu X scope N C s H ex) tg g) (ht:∀ C s H ex,QTs (zu X scope N C s H ex) ifs ti) (he:∀ C s H ex,QE (zu X scope N C s H ex) elt te)
  (hsw:swapsWithSole [.Name nx px] (.ListComp elt [⟨tg,iter,ifs,0⟩] scope pos) spos.line X.env=pure true:=by rfl)
  (hs:∀ x,foldedSetIterable iter X.env x=pure x:=by intro _;rfl)
  (h1a:(assignEach [.Name nx px] X.env).map (·.2)=[assign (.Name nx px) X.env]:=by rfl):QS X (.Assign [.Name nx px] (.ListComp elt [⟨tg,iter,ifs,0⟩] scope pos) spos) (zd2 (zdu wi g ti te cix) (uy ix)):=⟨fun pins s σ H D I h=>zc8 hNd hix hlx hsw h1a (fun _=>rfl) fun U Qp hf=>uY (Fin:=fun acc H=>D.nx (σ.set ix (some (.ref acc))) H) (u9 c) hc hi.run (zdJ fun C s H ex=>(hg C s H ex).run) (zdJ fun C s H ex=>(ht C s H ex).run) (zdJ fun C s H ex=>(he C s H ex).run) hs I h hf⟩
section
variable {prog:Program}{w:World}{A:Around}{E:Value->Shared->Prop}{s:Shared}
end
section
variable {X:Cx}
end
section
variable {prog:Program}{w:World}{A:Around}{R:Result->Shared->Prop}{s:Shared}
theorem ux {elt target iter:Expr}{c1:Comprehension}{ifs:List Expr}{scope:Scope}{pos:Pos}{it acc:Value}{env:Env}(I:Nat->Shared->Prop)
  (turn:∀ n s,I n s->wpAny (model prog w) A (pyNext it) (fun r s₁=>match r with
   | none=>R (.ok .next) s₁
   | some v=>wpAny (model prog w) A (letOwnedTupleGo target it v) (fun _ s₂=>wpAny (model prog w) A (assign target env v) (fun _ s₃=>
     wpAny (model prog w) A (forIn ifs true fun c r=>if r=true then do let ok <- isTrue c env (eval c env);pure (ForInStep.yield ok) else pure (ForInStep.yield r)) (fun ok s₄=>
      if ok=true then wpAny (model prog w) A (eval elt env) (fun x s₅=>
       wpAny (model prog w) A (call (.builtin "list.append") [acc,x]) (fun _ s₆=>∃ m,m<n/\I m s₆) (fun _ _=>False) s₅) (fun _ _=>False) s₄
      else ∃ m,m<n/\I m s₄) (fun _ _=>False) s₃) (fun _ _=>False) s₂) (fun _ _=>False) s₁) (fun _ _=>False) s)
  (n:Nat) (h:I n s) :
  codeAny (model prog w) A (.compLoop (.ListComp elt [c1,⟨target,iter,ifs,0⟩] scope pos) 1 it acc env) R s:=by
 refine codeAny_loop rfl I (fun n s hI=>?_) n h
 show wpAny _ A ((compTurn (.ListComp elt [c1,⟨target,iter,ifs,0⟩] scope pos) 1 it acc env).onRaise (fun x=>do noteFrame x env;theTreesLotGoes x)) _ _ s
 refine wpAny_noted ?_
 unfold compTurn
 refine wpAny_bind (wpAny_standAt (wpAny_bind (wpAny_mono (turn n s hI) (fun r s₁ h₁=>?_) fun _ _ h'=>h'.elim)))
 cases r with
 | none=>exact wpAny_pure h₁
 | some v=>
  refine wpAny_bind (wpAny_mono h₁ (fun _ s₂ h₂=>?_) fun _ _ h'=>h'.elim)
  refine wpAny_bind (wpAny_mono h₂ (fun _ s₃ h₃=>wpAny_bind (wpAny_mono h₃ (fun ok s₄ h₄=>?_) fun _ _ h'=>h'.elim)) fun _ _ h'=>h'.elim)
  cases ok with
  | false=>exact wpAny_pure ⟨rfl,h₄⟩
  | true=>
   exact wpAny_bind (wpAny_bind (wpAny_mono h₄ (fun x s₅ h₅=>wpAny_bind (wpAny_mono h₅ (fun _ s₆ h₆=>wpAny_pure (wpAny_pure ⟨rfl,h₆⟩)) fun _ _ h'=>h'.elim)) fun _ _ h'=>h'.elim))
theorem xy {elt target iter:Expr}{c1:Comprehension}{ifs:List Expr}{scope:Scope}{pos:Pos}{it acc:Value}{env:Env}
  (h1:codeAny (model prog w) A (.compLoop (.ListComp elt [c1,⟨target,iter,ifs,0⟩] scope pos) 1 it acc env) R s)
  (h2:wpAny (model prog w) A (pyIter it) (fun it' s'=>codeAny (model prog w) A (.compLoop (.ListComp elt [c1,⟨target,iter,ifs,0⟩] scope pos) 1 it' acc env) R s') (fun _ _=>False) s) :
  codeAny (model prog w) A (.compStart (.ListComp elt [c1,⟨target,iter,ifs,0⟩] scope pos) 1 it acc env) R s:=by
 refine codeAny_of_tree ?_
 show wpAny _ A ((compStart (.ListComp elt [c1,⟨target,iter,ifs,0⟩] scope pos) 1 it acc env).onRaise (fun x=>do noteFrame x env;standAt theWindowsPlace)) _ _ s
 refine wpAny_onRaise ?_
 unfold compStart
 rw [if_neg (by show ¬ ((0 != 0)=true);decide)]
 refine wpAny_bind (wpAny_askSetting ?_)
 split
 ·exact wpAny_pure ⟨rfl,h1⟩
 ·refine wpAny_bind (wpAny_rule ?_)
  refine wpAny_bind (wpAny_standAt ?_)
  refine wpAny_bind (wpAny_mono h2 (fun it' s' h'=>wpAny_pure ⟨rfl,h'⟩) fun _ _ h'=>h'.elim)
theorem xW {elt target iter t2 it2:Expr}{ifs ifs2:List Expr}{scope:Scope}{pos:Pos}{it acc:Value}{env:Env}(hf:∀ x,foldedSetIterable it2 env x=pure x)(I:Nat->Shared->Prop)
  (turn:∀ n s,I n s->wpAny (model prog w) A (pyNext it) (fun r s₁=>match r with
   | none=>R (.ok .next) s₁
   | some v=>wpAny (model prog w) A (letOwnedTupleGo target it v) (fun _ s₂=>wpAny (model prog w) A (assign target env v) (fun _ s₃=>
     wpAny (model prog w) A (forIn ifs true fun c r=>if r=true then do let ok <- isTrue c env (eval c env);pure (ForInStep.yield ok) else pure (ForInStep.yield r)) (fun ok s₄=>
      if ok=true then wpAny (model prog w) A (eval it2 env) (fun x s₅=>wpAny (model prog w) A (pyIter x) (fun iv s₆=>
       codeAny (model prog w) A (.compStart (.ListComp elt [⟨target,iter,ifs,0⟩,⟨t2,it2,ifs2,0⟩] scope pos) 1 iv acc env) (fun r s₇=>match r with
        | .ok _=>∃ m,m<n/\I m s₇
        | .error _=>False) s₆) (fun _ _=>False) s₅) (fun _ _=>False) s₄
      else ∃ m,m<n/\I m s₄) (fun _ _=>False) s₃) (fun _ _=>False) s₂) (fun _ _=>False) s₁) (fun _ _=>False) s)
  (n:Nat) (h:I n s) :
  codeAny (model prog w) A (.compLoop (.ListComp elt [⟨target,iter,ifs,0⟩,⟨t2,it2,ifs2,0⟩] scope pos) 0 it acc env) R s:=by
 refine codeAny_loop rfl I (fun n s hI=>?_) n h
 show wpAny _ A ((compTurn (.ListComp elt [⟨target,iter,ifs,0⟩,⟨t2,it2,ifs2,0⟩] scope pos) 0 it acc env).onRaise (fun x=>do noteFrame x env;theTreesLotGoes x)) _ _ s
 refine wpAny_noted ?_
 unfold compTurn
 refine wpAny_bind (wpAny_standAt (wpAny_bind (wpAny_mono (turn n s hI) (fun r s₁ h₁=>?_) fun _ _ h'=>h'.elim)))
 cases r with
 | none=>exact wpAny_pure h₁
 | some v=>
  refine wpAny_bind (wpAny_mono h₁ (fun _ s₂ h₂=>?_) fun _ _ h'=>h'.elim)
  refine wpAny_bind (wpAny_mono h₂ (fun _ s₃ h₃=>wpAny_bind (wpAny_mono h₃ (fun ok s₄ h₄=>?_) fun _ _ h'=>h'.elim)) fun _ _ h'=>h'.elim)
  cases ok with
  | false=>exact wpAny_pure ⟨rfl,h₄⟩
  | true=>
   refine wpAny_bind (wpAny_mono h₄ (fun x s₅ h₅=>?_) fun _ _ h'=>h'.elim)
   refine wpAny_bind (wpAny_standAt ?_)
   show wpAny _ _ (foldedSetIterable it2 env x >>= _) _ _ _
   rw [hf]
   refine wpAny_bind (wpAny_pure ?_)
   show wpAny _ _ (holding [x] (pyIter x) >>= _) _ _ _
   refine wpAny_bind (wpAny_holding (wpAny_mono h₅ (fun iv s₆ h₆=>?_) fun _ _ h'=>h'.elim))
   refine wpAny_bind (wpAny_runOwn (h:=none) ?_)
   refine codeAny_mono (show codeAny (model prog w) (A.mark none) _ _ s₆ from h₆) fun r s₇ h₇=>?_
   cases r with
   | ok f=>exact wpAny_pure ⟨rfl,h₇⟩
   | error e=>exact h₇.elim
end
def zeF (J:It)(g:TG)(ti:TT)(te:TE)(acc:Addr)(N:St->Hp->Prop)(σ:St)(H:Hp):Prop:=∃ W:Nat->Nat->St->Hp->Prop,(∃ m,W 0 m σ H)/\
 ∀ i m σ' H',W i m σ' H'->(J.stop i H'/\N σ' H')\/(J.go i H'/\∃ N2:St->Hp->Prop,(∀ σ2 H2,N2 σ2 H2->∃ m',m'<m/\W (i+1) m' σ2 H2)/\∀ x H2,J.yld i H' x H2->zef g ti te acc N2 x σ' H2)
def zed (g:TG)(ti:TT)(wi2:TI)(g2:TG)(ti2:TT)(te:TE)(acc:Addr)(N:St->Hp->Prop)(x:V)(σ:St)(H:Hp):Prop:=
 g x σ H fun σ3 H3=>ti σ3 H3 fun ok H4=>if ok=true then wi2 σ3 H4 fun J2 H5=>zeF J2 g2 ti2 te acc N σ3 H5 else N σ3 H4
def zg6 (J:It)(g:TG)(ti:TT)(wi2:TI)(g2:TG)(ti2:TT)(te:TE)(acc:Addr)(Q:VK)(σ:St)(H:Hp):Prop:=∃ W:Nat->Nat->St->Hp->Prop,(∃ m,W 0 m σ H)/\
 ∀ i m σ' H',W i m σ' H'->(J.stop i H'/\Q (.ref acc) H')\/(J.go i H'/\∃ N:St->Hp->Prop,(∀ σ2 H2,N σ2 H2->∃ m',m'<m/\W (i+1) m' σ2 H2)/\∀ x H2,J.yld i H' x H2->zed g ti wi2 g2 ti2 te acc N x σ' H2)
def zhE (wi:TI)(g:TG)(ti:TT)(wi2:TI)(g2:TG)(ti2:TT)(te:TE)(cix:List (Option Nat)):TE:=fun σ H Q=>wi σ H fun J H1=>∀ acc,H1 acc=none->zg6 J g ti wi2 g2 ti2 te acc Q (uw σ cix) (upd H1 acc (.lst []))
section
variable {X:Cx}{Fam:Cx->Prop}{scope:Scope}{N:List Str}{cix:List (Option Nat)}{z:Str}{use:Option (Value->Sem Unit)}{Qp:Value->Shared->Prop}{elt ke ve tg iter tg2 iter2:Expr}{ifs ifs2:List Expr}{pos ipos spos px:Pos}{wi wi2:TI}{g g2:TG}{ti ti2:TT}{te tk tv:TE}{pins:List (Addr×Obj)}{σ:St}{H:Hp}{s:Shared}{Q:VK}{o0:HO}
theorem zdE (O:Opn X scope cix Fam)(hc:X.calm=true)(hi:PI X tg iter wi)(hg:∀ X',Fam X'->PG X' tg g)(ht:∀ X',Fam X'->PTs X' ifs ti)(hi2:∀ X',Fam X'->PI X' tg2 iter2 wi2)(hg2:∀ X',Fam X'->PG X' tg2 g2)(ht2:∀ X',Fam X'->PTs X' ifs2 ti2)(he:∀ X',Fam X'->PE X' elt te)
  (hs:∀ x,foldedSetIterable iter X.env x=pure x) (hs2:∀ X',Fam X'->∀ x,foldedSetIterable iter2 X'.env x=pure x) (I:Inv X pins σ H s) (h:zhE wi g ti wi2 g2 ti2 te cix σ H Q) (hfin:EndK X pins σ use Qp Q) :
  wpAny (model X.prog X.w) X.A (comprehension (.ListComp elt [⟨tg,iter,ifs,0⟩,⟨tg2,iter2,ifs2,0⟩] scope pos) scope X.env ipos (newList []) false (eval iter X.env) use) Qp X.xe s:=
 zbB (ob:={ cls:=.type "list",dict:=none,data:=.seq ([]:List Value).toArray }) (o0:=fun _=>.lst []) (Fin:=fun acc H=>Q (.ref acc) H)
  (B:=fun X' acc P s=>wpAny (model X'.prog X'.w) X'.A (eval iter2 X'.env) (fun x s5=>wpAny (model X'.prog X'.w) X'.A (pyIter x) (fun iv s6=>codeAny (model X'.prog X'.w) X'.A (.compStart (.ListComp elt [⟨tg,iter,ifs,0⟩,⟨tg2,iter2,ifs2,0⟩] scope pos) 1 iv (.ref acc) X'.env) (fun r s7=>match r with | .ok _=>P s7 | .error _=>False) s6) (fun _ _=>False) s5) (fun _ _=>False) s) (tb:=fun acc Nx σ H=>wi2 σ H fun J2 H5=>zeF J2 g2 ti2 te acc Nx σ H5)
  O hc rfl hs (fun _ _ _ _ _ h0 h1=>codeAny_compStart_list h0 h1) (fun X' hF _ _ _ _ I turn n h=>xW (hs2 X' hF) I turn n h) (fun s Q h=>wpAny_newObj_type h) (fun _ _=>⟨Nat.zero_le _,[],0,.nil,Heap.get?_push_size _ rfl⟩) hi hg ht (fun X' hF pX wX AX cX xX acc pl s σ H Nx P I q k=>by
  have e9:=hi2 X' hF pl s σ H _ I q
  rw [xX] at e9
  refine thn e9 fun xv s1 h1=>thn h1 fun itv s2 h2=>?_
  obtain ⟨it,fp,tn,J,H2,e,I2,T,st2,f2,W,⟨m0,w0⟩,turn⟩:=h2
  subst e
  have loop:=zbN (X:=X') (e:=.ListComp elt [⟨tg,iter,ifs,0⟩,⟨tg2,iter2,ifs2,0⟩] scope pos) (pl:=pl) (R:=fun r s7=>match r with | .ok _=>P s7 | .error _=>False) (k:=1) (B:=fun P s=>wpAny (model X'.prog X'.w) X'.A (eval elt X'.env) (fun x s5=>wpAny (model X'.prog X'.w) X'.A (call (.builtin "list.append") [.ref acc,x]) (fun _ s6=>P s6) (fun _ _=>False) s5) (fun _ _=>False) s) (tb:=fun Nx σ H=>te σ H fun v H'=>∃ xs,H' acc=some (.lst xs)/\xs.length<sizeLine/\Nx σ (upd H' acc (.lst (xs++[v]))))
   (fun _ _ I turn n h=>ux I turn n h) cX xX T (fun hn b hb=>⟨hn b hb,(f2 b hb).2⟩) (hg2 X' hF) (ht2 X' hF) (fun _ _ _ _ _ _ I q k=>zc7 (he X' hF) xX I q k) turn (fun σ' H' s' I' q'=>k σ' H' s' I' q') I2 st2 (fun b hb=>(f2 b hb).1) w0
  exact xy loop (T.self X'.A 0 _ _ _ st2 loop)) I h (fun J H1 acc q hn=>q acc hn) hfin
end
theorem zgN {X:Cx}{elt tg iter tg2 iter2:Expr}{ifs ifs2:List Expr}{scope:Scope}{pos spos:Pos}{wi wi2:TI}{g g2:TG}{ti ti2:TT}{te:TE}{N:List Str}{cix:List (Option Nat)}{ix:Nat}{nx:Str}{px:Pos}(hNd:X.N.Nodup)(hix:X.N[ix]?=some nx)(hlx:X.env.scope.names.lookup nx=some .local)(hc:X.calm=true)(c:CompOk X scope N cix)
  (hi:QI X tg iter wi) (hg:∀ C s H ex,QG (zu X scope N C s H ex) tg g) (ht:∀ C s H ex,QTs (zu X scope N C s H ex) ifs ti)
  (hi2:∀ C s H ex,QI (zu X scope N C s H ex) tg2 iter2 wi2) (hg2:∀ C s H ex,QG (zu X scope N C s H ex) tg2 g2) (ht2:∀ C s H ex,QTs (zu X scope N C s H ex) ifs2 ti2) (he:∀ C s H ex,QE (zu X scope N C s H ex) elt te)
  (hsw:swapsWithSole [.Name nx px] (.ListComp elt [⟨tg,iter,ifs,0⟩,⟨tg2,iter2,ifs2,0⟩] scope pos) spos.line X.env=pure true:=by rfl)
  (hs:∀ x,foldedSetIterable iter X.env x=pure x:=by intro _;rfl) (hs2:∀ C s H ex x,foldedSetIterable iter2 (zu X scope N C s H ex).env x=pure x:=by intro _ _ _ _ _;rfl)
  (h1a:(assignEach [.Name nx px] X.env).map (·.2)=[assign (.Name nx px) X.env]:=by rfl):QS X (.Assign [.Name nx px] (.ListComp elt [⟨tg,iter,ifs,0⟩,⟨tg2,iter2,ifs2,0⟩] scope pos) spos) (zd2 (zhE wi g ti wi2 g2 ti2 te cix) (uy ix)):=⟨fun pins s σ H D I h=>zc8 hNd hix hlx hsw h1a (fun _=>rfl) fun U Qp hf=>zdE (Q:=fun v H=>D.nx (σ.set ix (some v)) H) (u9 c) hc hi.run (zdJ fun C s H ex=>(hg C s H ex).run) (zdJ fun C s H ex=>(ht C s H ex).run) (zdJ fun C s H ex=>(hi2 C s H ex).run) (zdJ fun C s H ex=>(hg2 C s H ex).run) (zdJ fun C s H ex=>(ht2 C s H ex).run) (zdJ fun C s H ex=>(he C s H ex).run) hs (zdJ fun C s H ex=>hs2 C s H ex) I h hf⟩
section
variable {K:PySem.W.Frag}{a acc:Addr}{xs:List V}{g:TG}{ti:TT}{wi2:TI}{g2:TG}{ti2:TT}{te:TE}{σ:St}{H:Hp}{Q:VK}{N:St->Hp->Prop}
theorem zdF (hacc:H acc=none)(Pv:Nat->St->Hp->Prop)(h0:∀ H',H' acc=some (.lst [])->yk H H'->Pv 0 σ H')(hl:∀ i σ H,i<=xs.length->Pv i σ H->SqL K H a xs)
  (hs:∀ i x σ H,xs[i]?=some x->Pv i σ H->zed g ti wi2 g2 ti2 te acc (Pv (i+1)) x σ H) (hd:∀ σ H,Pv xs.length σ H->Q (.ref acc) H):zg6 (Itl K a) g ti wi2 g2 ti2 te acc Q σ (upd H acc (.lst [])):=by
 refine ⟨fun i m σ H=>m=xs.length - i/\i<=xs.length/\Pv i σ H,⟨xs.length,by simp,Nat.zero_le _,h0 _ zh (yk.upd hacc)⟩,?_⟩
 rintro i m σ H ⟨rfl,hi,p⟩
 have q:=hl i σ H hi p
 by_cases hlt:i<xs.length
 ·refine .inr ⟨⟨xs,xs[i],q,by simp [hlt]⟩,Pv (i+1),fun σ' H' p'=>⟨xs.length - (i+1),by lia,rfl,hlt,p'⟩,fun x H' y=>?_⟩
  obtain ⟨e,y⟩:=y
  subst e
  exact hs i x σ _ (y xs q) p
 ·have e:i=xs.length:=by lia
  subst e
  exact .inl ⟨⟨xs,q,Nat.le_refl _⟩,hd σ H p⟩
theorem zdK (Pv:Nat->St->Hp->Prop)(h0:Pv 0 σ H)(hl:∀ i σ H,i<=xs.length->Pv i σ H->SqL K H a xs)
  (hs:∀ i x σ H,xs[i]?=some x->Pv i σ H->zef g ti te acc (Pv (i+1)) x σ H) (hd:∀ σ H,Pv xs.length σ H->N σ H):zeF (Itl K a) g ti te acc N σ H:=by
 refine ⟨fun i m σ H=>m=xs.length - i/\i<=xs.length/\Pv i σ H,⟨xs.length,by simp,Nat.zero_le _,h0⟩,?_⟩
 rintro i m σ H ⟨rfl,hi,p⟩
 have q:=hl i σ H hi p
 by_cases hlt:i<xs.length
 ·refine .inr ⟨⟨xs,xs[i],q,by simp [hlt]⟩,Pv (i+1),fun σ' H' p'=>⟨xs.length - (i+1),by lia,rfl,hlt,p'⟩,fun x H' y=>?_⟩
  obtain ⟨e,y⟩:=y
  subst e
  exact hs i x σ _ (y xs q) p
 ·have e:i=xs.length:=by lia
  subst e
  exact .inl ⟨⟨xs,q,Nat.le_refl _⟩,hd σ H p⟩
end
section
variable {X:Cx}
theorem zfZ:CallQ X (.type "range") (fun xs H Q=>∃ n,xs=[.int n]/\New H (.rng 0 n) Q):=⟨by
 intro pins s σ H xs us Q I r h
 obtain ⟨n,rfl,q⟩:=h
 obtain ⟨u,rfl,ru⟩:=zb6 r
 obtain ⟨t,rfl⟩:=ru
 refine call_range_1 ?_
 refine ⟨.ref s.heap.objs.size,_,I.laid (t':=s.toks+1+1) (o:=.rng 0 n) (fun b ob q=>Heap.get?_push_of_some _ q) (Nat.le_refl _) ?_,rfl,q.at (I.hok.fresh (Nat.le_refl _))⟩
 exact ⟨_,_,_,Heap.get?_push_size _ rfl⟩⟩
theorem zdt (n:Nat):Builtin.Range.rangeSize 0 (n:Int) 1=n:=by
 unfold Builtin.Range.rangeSize
 grind
theorem zfK:∀ {xs:List V} {us:List Value},xs.length=us.length->(∀ (i:Nat) x u,xs[i]?=some x->us[i]?=some u->zX x u)->zY xs us
 | [],[],_,_=>.nil
 | [],_::_,h,_=>by simp at h
 | _::_,[],h,_=>by simp at h
 | x::xs,u::us,h,k=>.cons (k 0 x u rfl rfl) (zfK (by simpa using h) fun i y v hy hv=>k (i+1) y v hy hv)
theorem zcj (hc:X.calm=true):CallQ X (.type "list") (fun xs H Q=>∃ (p:Addr) (n:Nat),xs=[.ref p]/\H p=some (.rng 0 n)/\n<=1000/\New H (.lst ((List.range n).map fun i:Nat=>V.int i)) Q):=⟨by
 intro pins s σ H xs us Q I r h
 obtain ⟨p,n,rfl,hp,hn,q⟩:=h
 obtain ⟨u,rfl,ru⟩:=zb6 r
 cases ru
 obtain ⟨t,u,v,ho⟩:=I.hok p _ hp
 have hn':n<sizeLine:=zb3 hn
 refine call_list_range (a:=0) (b:=n) (c:=1) (n:=n) (I.ok.hd hc) ho ?_ ?_ (Nat.le_trans hn (by decide)) fun h' tk acc' c' kp hg hit=>?_
 ·have e:=zdt n
  unfold Builtin.Range.small
  rw [e]
  simp [Builtin.Range.rangeFitsLong]
  lia
 ·exact zdt n
 ·have hv:zY ((List.range n).map fun i:Nat=>V.int i) acc'.toList:=by
   refine zfK (by rw [List.length_map,List.length_range,Array.length_toList,hit.1]) fun j x u hx hu=>?_
   rw [List.getElem?_map] at hx
   obtain ⟨k,hk,rfl⟩:=Option.map_eq_some_iff.mp hx
   obtain ⟨hlt,e⟩:=List.getElem?_eq_some_iff.mp hk
   have:k=j:=by simpa using e.symm
   subst this
   obtain ⟨t',rfl⟩:=hit.2 k u (by simpa using hu)
   exact ⟨t',by lia⟩
  refine ⟨.ref s.heap.objs.size,_,I.laid (t':=tk) (o:=.lst ((List.range n).map fun i:Nat=>V.int i)) kp (Nat.le_refl _) ?_,rfl,q.at (I.hok.fresh (Nat.le_refl _))⟩
  exact ⟨by rw [List.length_map,List.length_range];exact Nat.le_of_lt hn',acc'.toList,c',hv,by simpa using hg⟩⟩
end
def zt (m:Int):List Int:=(List.range m.toNat).map fun i:Nat=>(i:Int)
def yK (rows:List (List Int))(ws:List Int):List (List Int):=rows.flatMap fun r=>ws.map fun w=>r++[w]
def y4 (cs:List (List Int)):List (List Int):=cs.foldl yK [[]]
theorem yg (cs:List (List Int))(c:List Int):y4 (cs++[c])=yK (y4 cs) c:=by
 unfold y4
 simp_all
@[reducible] def stD (st:List Int):Dt:=.tup (st.map .int)
theorem uF:∀ sts:List (List Int),Dt.noLs (sts.map stD)=true
 | []=>rfl
 | st::sts=>by
  show ((stD st).noL&&Dt.noLs (sts.map stD))=true
  rw [uF sts,show (stD st).noL=true from zbR st]
  rfl
def zj6 (H:Hp)(xs:List V)(cs:List (List Int)):Prop:=xs.length=cs.length/\∀ (i:Nat) c,cs[i]?=some c->∃ a,xs[i]?=some (.ref a)/\H a=some (.lst (c.map V.int))
def zaR (K:PySem.W.Frag):Sp:=fun vs H Q _=>∃ (ca:Addr) (xs:List V) (cs:List (List Int)),vs=[.ref ca]/\H ca=some (.lst xs)/\zj6 H xs cs/\cs.length<=8/\(∀ c∈cs,c.length<=4)/\
 ∀ (a:Addr) (ys:List V) (H':Hp),H a=none->H' a=some (.lst ys)->IsL H' ((y4 cs).map stD) ys->yk H H'->Q (.ref a) H'
theorem zcl (rows:List (List Int))(r ws:List Int):yK (rows++[r]) ws=yK rows ws++ws.map fun w=>r++[w]:=by
 unfold yK
 simp_all
theorem xk (rows:List (List Int))(ws:List Int):(yK rows ws).length=rows.length * ws.length:=by
 unfold yK
 rw [List.length_flatMap]
 induction rows with
 | nil=>simp
 | cons r rows ih=>rw [List.map_cons,List.sum_cons,ih,List.length_map,List.length_cons,Nat.succ_mul,Nat.add_comm]
theorem xJ:∀ (cs:List (List Int)) (row:List Int),row∈y4 cs->row.length=cs.length:=by
 intro cs
 have:∀ (n:Nat) (cs:List (List Int)),cs.length=n->∀ row,row∈y4 cs->row.length=cs.length:=by
  intro n
  induction n with
  | zero=>
   intro cs h row hr
   have:cs=[]:=List.eq_nil_of_length_eq_zero h
   subst this
   have:row=[]:=by simpa [y4] using hr
   simp_all
  | succ n ih=>
   intro cs h row hr
   have hne:cs≠[]:=by intro z;rw [z] at h;simp at h
   rw [<- List.dropLast_concat_getLast hne,yg] at hr
   unfold yK at hr
   grind
 exact this cs.length cs rfl
theorem zhH:∀ (n:Nat) (cs:List (List Int)),cs.length=n->(∀ c∈cs,c.length<=4)->(y4 cs).length<=4 ^ n:=by
 intro n
 induction n with
 | zero=>
  intro cs h _
  have:cs=[]:=List.eq_nil_of_length_eq_zero h
  subst this
  exact Nat.le_refl _
 | succ n ih=>
  intro cs h h4
  have hne:cs≠[]:=by intro z;rw [z] at h;simp at h
  rw [<- List.dropLast_concat_getLast hne,yg,xk,Nat.pow_succ]
  exact Nat.mul_le_mul (ih cs.dropLast (by grind) fun c hc=>h4 c ((List.dropLast_sublist cs).subset hc)) (h4 _ (List.getLast_mem hne))
theorem zaT {cs:List (List Int)}(h8:cs.length<=8)(h4:∀ c∈cs,c.length<=4)(k:Nat):(y4 (cs.take k)).length<=65536:=by
 refine Nat.le_trans (zhH _ (cs.take k) rfl fun c hc=>h4 c (List.mem_of_mem_take hc)) ?_
 have:(cs.take k).length<=8:=by rw [List.length_take];lia
 exact Nat.le_trans (Nat.pow_le_pow_right (by decide) this) (by decide)
theorem yu (m:Int):(zt m).length=m.toNat:=by unfold zt;rw [List.length_map,List.length_range]
section
variable {X:Cx}{o:Expr}{to:TE}{apos cpos:Pos}
theorem zju (ho:QE X o to)(hbase:attributeBase o "reverse" X.env (eval o X.env)=eval o X.env:=by rfl)(hline:(apos.endLine==cpos.line)=true:=by rfl):QE X (.Call (.Attribute o "reverse" apos) [] [] cpos) (tBM0 X.K "list" zds to):=⟨zlk PySem.F.plainAttrs_list PySem.F.slot_list_reverse PySem.F.type_list_reverse zdQ ho.run hbase hline⟩
end
open PySem PySem.Spec PyProof.Rows PySem.W
section
variable {n:Nat}{f:Nat->Int}
def key (f:Nat->Int)(p:Array Nat)(k:Nat):Int:=f (p.getD k 0)
end
open PySem PySem.Spec PyProof.Rows
section
variable {X:Cx}
end
open PySem PySem.Spec PySem.Calls PyProof.Rows PySem.W
section
variable {X:Cx}
end
open PySem
def Ris (xs:Array Nat):Prop:=∀ i j:Nat,i<j->j<xs.size->xs.getD i 0<xs.getD j 0
def tm (mask:Nat):SetTable:=⟨mask,#[],#[],0,true,0,true⟩
def stp (mask:Nat)(h:Int):Nat->SetTable.Probe
 | 0=>(tm mask).probeStart h
 | n+1=>(tm mask).advance (stp mask h n)
def wk (mask:Nat)(h:Int)(n:Nat):Nat:=(stp mask h n).j
open PySem PySem.Spec PyProof.Rows
section
variable {t:SetTable}{hashAt:Nat->Int}{h:Int}
end
section
variable {prog:Program}{w:World}
abbrev tk (prog:Program)(w:World):HeapKind prog w (List Key):=tupleKind (zT prog w)
def zmZ (t:SetTable)(h:Int)(i:Nat):Prop:=∃ n,n<10 * SetTable.turns t.mask/\t.place[i]?=some (wk t.mask h n)/\∀ m,m<n->∃ i':Nat,t.place[i']?=some (wk t.mask h m)
def zkY (m:Nat):Prop:=m=7\/m=31\/m=127\/m=511
structure Tb (prog:Program)(w:World)(t:SetTable)(es:Array (Int×Value))(xs:List (List Key×Addr)):Prop where
 eq:es.toList=xs.map fun q=>((tk prog w).hash q.1,Value.ref q.2)
 nd:(xs.map (·.1)).Nodup
 dm:t.dummies = #[]
 ris:Ris t.place
 le:∀ (i j:Nat),t.place[i]?=some j->j<=t.mask
 sz:t.place.size=xs.length
 msk:zkY t.mask
 few:xs.length<=t.mask
 plain:t.plain=true
 led:t.led = !w.params.followText "set-order"
 reach:∀ (i:Nat) (q:List Key×Addr),xs[i]?=some q->zmZ t ((tk prog w).hash q.1) i
variable {t:SetTable}{es:Array (Int×Value)}{xs:List (List Key×Addr)}
variable {A:Around}{E:Value->Shared->Prop}{s:Shared}
end
section
variable {prog:Program}{w:World}{t:SetTable}{es:Array (Int×Value)}{xs:List (List Key×Addr)}{A:Around}{E:Value->Shared->Prop}{s:Shared}
end
section
variable {prog:Program}{w:World}{t:SetTable}{es:Array (Int×Value)}{xs:List (List Key×Addr)}
end
structure Own (mask:Nat)(hs:List Int)(n:Nat)(owner:Array (Option Nat)):Prop where
 size:owner.size=mask+1
 lt:∀ (j i:Nat),owner[j]?=some (some i)->i<n
 inj:∀ (j j' i:Nat),owner[j]?=some (some i)->owner[j']?=some (some i)->j=j'
 reach:∀ (i:Nat) (h:Int),i<n->hs[i]?=some h->∃ N,N<10 * SetTable.turns mask/\owner[wk mask h N]?=some (some i)/\∀ m,m<N->∃ i',owner[wk mask h m]?=some (some i')
section
variable {prog:Program}{w:World}{t:SetTable}{es:Array (Int×Value)}{xs:List (List Key×Addr)}
end
section
variable {prog:Program}{w:World}{t:SetTable}{es:Array (Int×Value)}{xs:List (List Key×Addr)}{A:Around}{E:Value->Shared->Prop}{s:Shared}
def zdA (prog:Program)(w:World)(h:Heap)(a:Addr)(xs:List (List Key×Addr)):Prop:=∃ o es ep t,h.get? a=some o/\o.ExactSet/\o.data = .set es ep t/\Tb prog w t es xs/\xs.length * 5<t.mask * 3
end
open PySem PySem.Spec PyProof.Rows PySem.W
end L2
namespace L2
open PySem PySem.Spec PyProof.Rows PySem.W
section
variable {prog:Program}{w:World}{t:SetTable}{es:Array (Int×Value)}{xs:List (List Key×Addr)}{A:Around}{E:Value->Shared->Prop}{s:Shared}
end
open PySem PySem.Spec PyProof.Rows PySem.W PySem.Calls
section
variable {prog:Program}{w:World}{t:SetTable}{es:Array (Int×Value)}{xs:List (List Key×Addr)}{A:Around}{E:Value->Shared->Prop}{s:Shared}
end
section
variable {prog:Program}{w:World}{A:Around}{E:Value->Shared->Prop}{s:Shared}
end
def zoo (P:Program)(w:World)(a:Addr)(xs:List (List Key×Addr)):HO:=.ext fun h=>zdA P w h a xs
def znG (xs:List (List Int×Addr)):List (List Key×Addr):=xs.map fun q=>(q.1.map Sum.inl,q.2)
theorem zjH {o:Obj}{n:Nat}{d:Addr}{u:Obj}(h:(⟨Array.replicate (n+1) o,{}⟩:Heap).get? d=some u):u=o:=by
 unfold Heap.get? at h
 simp only [Array.getElem?_replicate] at h
 split at h
 ·cases h
 ·split at h
  ·exact (Option.some.inj h).symm
  ·cases h
theorem zjJ {P:Program}{w:World}{a d:Addr}{xs:List (List Key×Addr)}{ob:Obj}(hs:∃ h:Heap,h.get? d=some ob):(fun h=>zdA P w h a xs)≠fun h=>h.get? d=some ob:=fun e=>by
 obtain ⟨h0,hh⟩:=hs
 have h1:zdA P w h0 a xs:=by rw [show zdA P w h0 a xs=_ from congrFun e h0];exact hh
 obtain ⟨o,es,ep,t,ho,hx,hd,T,hr⟩:=h1
 have k:∀ ep':Nat,({ o with data:=.set es ep' t }:Obj)=ob:=fun ep'=>by
  have h2:zdA P w (⟨Array.replicate (a+1) { o with data:=.set es ep' t },{}⟩:Heap) a xs:=⟨{ o with data:=.set es ep' t },es,ep',t,by simp [Heap.get?],hx,rfl,T,hr⟩
  rw [show zdA P w _ a xs=_ from congrFun e _] at h2
  exact (zjH h2).symm
 have:=congrArg Obj.data ((k 0).trans (k 1).symm)
 cases this
theorem zhm {P:Program}{w:World}{a:Addr}{xs:List (List Key×Addr)}:∀ kvs,pnK (zoo P w a xs)=some kvs->uH kvs (Sum.inr "at" : Key)=none:=fun kvs e=>by
 unfold zoo pnK at e
 dsimp only at e
 rw [if_neg] at e
 ·cases e
 ·rintro ⟨d,ob,hs,z⟩
  exact zjJ hs z
section
variable {X:Cx}
end
open PySem PySem.Spec PyProof.Rows
section
variable {prog:Program}{w:World}{A:Around}{E:Value->Shared->Prop}{R:Result->Shared->Prop}{s:Shared}
end
section
variable {X:Cx}
end
section
variable {X:Cx}{Fam:Cx->Prop}{scope:Scope}{N:List Str}{cix:List (Option Nat)}{z:Str}{use:Option (Value->Sem Unit)}{Qp:Value->Shared->Prop}{elt ke ve tg iter tg2 iter2:Expr}{ifs ifs2:List Expr}{pos ipos spos px:Pos}{wi wi2:TI}{g g2:TG}{ti ti2:TT}{te tk tv:TE}{pins:List (Addr×Obj)}{σ:St}{H:Hp}{s:Shared}{Q:VK}{o0:HO}
end
section
variable {P:Program}{w:World}{K:PySem.W.Frag}{a acc:Addr}{xs:List V}{g:TG}{ti:TT}{te:TE}{σ:St}{H:Hp}{Q:VK}
end
open PySem
theorem zfx (H:Hp):yk H H:=fun _ _ z=>z
open PySem PySem.Spec PyProof.Rows
section
variable {X:Cx}
end
open PySem PySem.Spec PyProof.Rows PySem.W PySem.Calls
section
variable {prog:Program}{w:World}{A:Around}{E:Value->Shared->Prop}{s:Shared}{es:Array DictEntry}
end
section
variable {prog:Program}{w:World}{A:Around}{E:Value->Shared->Prop}{s:Shared}
end
section
variable {X:Cx}
end
def keyT (kvs:List (List Int×V)):List (List Key×V):=kvs.map fun q=>(q.1.map Sum.inl,q.2)
def dtO (kvs:List (List Int×V)):HO:=.dT (keyT kvs)
section
variable {X:Cx}
end
open PySem PySem.Spec PyProof.Rows
def insU (x:List Int):List (List Int)->List (List Int)
 | []=>[x]
 | y::r=>if HT.lexLt x y then x::y::r else if x=y then y::r else y::insU x r
def zma (l:List (List Int)):List (List Int):=l.foldr insU []
def zkv (bk:List Wi)(st hs:List Int):List (List Int):=(bk.filter fun x=>znt st x&&!hs.contains x.b).map fun x=>chg st x.b x.r
def betF (bk:List Wi)(st hs:List Int):List (List Int):=zma (zkv bk st hs)
theorem zbS {α:Type}[BEq α][LawfulBEq α]:∀ {l l':List α},l.Nodup->(∀ x∈l,x∈l')->l.length<=l'.length
 | [],_,_,_=>Nat.zero_le _
 | a::l,l',hn,h=>by
  rw [List.nodup_cons] at hn
  have ha:=h a List.mem_cons_self
  have:=zbS (l:=l) (l':=l'.erase a) hn.2 fun x hx=>by
   grind
  grind
open PySem
end L2
namespace L2
open PySem PySem.Spec PyProof.Rows PySem.SeqAt
section
variable {X:Cx}
end
open PySem PySem.Spec PyProof.Rows
def zlg (bk:List Wi)(box:Int)(st:List Int):List (List Int):=(bk.filter fun x=>decide (x.b=box)&&zx st x.g).map fun x=>[x.w,x.r]
def lpF (bk:List Wi)(box:Int)(st:List Int):List (List Int):=zma (zlg bk box st)
def zgX (C:Nat->Nat->Bool)(w j:Nat):List (List Int):=((List.range j).filter (C w)).map fun b:Nat=>[(w:Int),(b:Int)]
def zow (C:Nat->Nat->Bool)(n:Nat):Nat->List (List Int)
 | 0=>[]
 | i+1=>zow C n i++zgX C i n
open PySem PySem.Spec PyProof.Rows PySem.W PySem.Calls
section
variable {prog:Program}{w:World}{A:Around}{E:Value->Shared->Prop}{s:Shared}{R:Result->Shared->Prop}
end
section
variable {X:Cx}
end
open PySem PySem.Spec PyProof.Rows
section
variable {X:Cx}{e st:Expr}{te tk:TE}{pos p2:Pos}
end
def unlike (one z hs:List Int):List Int:=hs.filter fun b=>decide (zE one b≠zE z b)
section
variable {X:Cx}{pos:Pos}
end
end L2
namespace L2
open PySem PySem.Spec PyProof.Rows
end L2
namespace L2
open PySem PySem.Spec PyProof.Rows
section
variable {M:Model}{A:Around}{E:Value->Shared->Prop}{s:Shared}
theorem uL {α:Type}{f:List (Str×Addr)->Sem α}{Q:α->Shared->Prop}:∀ (names:List (Str×NameKind)) (cells:List (Str×Addr)),(∀ y∈names,y.2≠.cell)->wpAny M A (f cells) Q E s->
  wpAny M A ((forIn names cells fun x r=>match x with | (name,kind)=>if (kind==NameKind.cell)=true then do let a <- alloc { cls:=.type "cell",data:=.cell none };pure (ForInStep.yield ((name,a)::r)) else pure (ForInStep.yield r)) >>= f) Q E s
 | [],cells,_,h=>h
 | (n,k)::r,cells,hn,h=>by
  have hk:(k==NameKind.cell)=false:=by simpa using hn (n,k) List.mem_cons_self
  rw [List.forIn_cons]
  simp only [hk,Bool.false_eq_true,if_false,pure_bind]
  exact uL r cells (fun y hy=>hn y (List.mem_cons_of_mem _ hy)) h
theorem uM {α:Type}{z:Str}{f:List (Str×Addr)->Sem α}{Q:α->Shared->Prop}:∀ (names:List (Str×NameKind)) (cells:List (Str×Addr)),names.filter (fun y=>y.2==.cell)=[(z,.cell)]->
  wpAny M A (f ((z,s.heap.objs.size)::cells)) Q E { s with heap:=s.heap.push { cls:=.type "cell",data:=.cell none } }->
  wpAny M A ((forIn names cells fun x r=>match x with | (name,kind)=>if (kind==NameKind.cell)=true then do let a <- alloc { cls:=.type "cell",data:=.cell none };pure (ForInStep.yield ((name,a)::r)) else pure (ForInStep.yield r)) >>= f) Q E s
 | [],cells,hn,h=>by cases hn
 | (n,k)::r,cells,hn,h=>by
  rw [List.forIn_cons]
  by_cases hk:(k==NameKind.cell)=true
  ·rw [List.filter_cons_of_pos (p:=fun y:Str×NameKind=>y.2==.cell) (a:=(n,k)) hk] at hn
   injection hn with h1 h2
   cases h1
   simp only [hk,if_true,bind_assoc,pure_bind]
   refine wpAny_bind (wpAny_alloc ?_)
   refine uL r _ (fun y hy e=>?_) h
   have:y∈r.filter (fun y=>y.2==.cell):=List.mem_filter.mpr ⟨hy,by rw [e];rfl⟩
   grind
  ·rw [List.filter_cons_of_neg (p:=fun y:Str×NameKind=>y.2==.cell) (a:=(n,k)) hk] at hn
   simp only [hk,Bool.false_eq_true,if_false,pure_bind]
   exact uM r cells hn h
theorem zcF {scope:Scope}{z:Str}{globals:Addr}{closure:List (Str×Addr)}{qual:Str}{o:Env}{Q:Env->Shared->Prop}(hn:scope.names.filter (fun y=>y.2==.cell)=[(z,.cell)])
  (h:Q { scope,locals:=s.heap.objs.size,globals,cells:=(z,(s.heap.push { cls:=.type "dict",data:=.dict #[] }).objs.size)::closure,qual,func:=none,code:=o.code,frame:=o.frame,builtins:=o.builtins } { s with heap:=(s.heap.push { cls:=.type "dict",data:=.dict #[] }).push { cls:=.type "cell",data:=.cell none } }) :
  wpAny M A (newFunctionEnv scope globals closure [] qual none .none (some o)) Q E s:=by
 unfold newFunctionEnv
 simp only [Option.isSome_some,if_true]
 refine wpAny_bind (wpAny_alloc ?_)
 refine uM scope.names closure hn ?_
 exact wpAny_bind (wpAny_pure (wpAny_pure h))
end
def zK (X:Cx)(scope:Scope)(N:List Str)(z:Str)(C D:Addr)(s:Shared)(H:Hp)(ex:List Addr):Cx:=
 { zu X scope N C s H ex with env:={ compEnvC scope (zar X.env scope.names []) C X.env with cells:=(z,D)::zar X.env scope.names [] },fn:=fun y=>y==z }
def zeb (XN:List Str)(Xnames names:List (Str×NameKind))(N:List Str)(z:Str)(cix:List (Option Nat)):Bool:=
 N.length==cix.length&&(names.filter (fun y=>y.2==.cell)==[(z,NameKind.cell)]&&names.lookup z==some .cell)&&((N.zip cix).all fun p=>match p.2 with
  | none=>true
  | some i=>XN[i]?==some p.1&&names.lookup p.1==some .free&&(Xnames.lookup p.1==some .cell || Xnames.lookup p.1==some .free)) &&
 (names.all fun y=>y.2 != .free || (Xnames.lookup y.1==some .cell || Xnames.lookup y.1==some .free))
structure CompOkC (X:Cx)(scope:Scope)(N:List Str)(z:Str)(cix:List (Option Nat)):Prop where
 kind:scope.kind = .function
 names:∀ x∈scope.names,x.2 = .local->scope.names.lookup x.1=some .local
 caps:zeb X.N X.env.scope.names scope.names N z cix=true
theorem mem_of_lookup {α β:Type}[BEq α][LawfulBEq α]{x:α}{k:β}:∀ {l:List (α×β)},l.lookup x=some k->(x,k)∈l
 | [],h=>by simp at h
 | (n,q)::r,h=>by
  rw [List.lookup_cons] at h
  cases e:x==n with
  | true=>
   grind
  | false=>
   rw [e] at h
   exact List.mem_cons_of_mem _ (mem_of_lookup h)
theorem yc {env:Env}:∀ {names:List (Str×NameKind)} {x:Str} {k:NameKind},
  (names.map fun (n,k)=>if (k==NameKind.free&&env.scope.kind==.function&&env.kindOf n==some .cell) then (n,NameKind.cell) else (n,k)).lookup x=some k->(k = .cell\/k = .free)->names.lookup x=some .free\/names.lookup x=some .cell
 | [],_,_,h,_=>by simp at h
 | (n,k)::r,x,k',h,hk=>by
  have ih:=@yc env r x k'
  grind
section
variable {X:Cx}{pins:List (Addr×Obj)}{σ:St}{H:Hp}{s:Shared}{scope:Scope}{N:List Str}{z:Str}{cix:List (Option Nat)}
theorem CompOkC.parts (c:CompOkC X scope N z cix):N.length=cix.length/\scope.names.filter (fun y=>y.2==.cell)=[(z,.cell)]:=by
 have h:=c.caps
 unfold L2.zeb at h
 simp_all
theorem CompOkC.lk (c:CompOkC X scope N z cix):scope.names.lookup z=some .cell:=by
 have h:=c.caps
 unfold L2.zeb at h
 simp_all
theorem CompOkC.cells (c:CompOkC X scope N z cix)(ok:X.Ok):∀ x∈scope.names,x.2 = .free->∃ a,X.env.cells.lookup x.1=some a:=fun x hx e=>by
 have h:=c.caps
 unfold L2.zeb at h
 rw [Bool.and_eq_true] at h
 have q:=List.all_eq_true.mp h.2 x hx
 rw [e] at q
 have q':(X.env.scope.names.lookup x.1==some NameKind.cell || X.env.scope.names.lookup x.1==some NameKind.free)=true:=by simpa using q
 rcases Bool.or_eq_true_iff.mp q' with q | q
 ·exact ok.has _ (.inl (eq_of_beq q))
 ·exact ok.has _ (.inr (eq_of_beq q))
theorem CompOkC.cap (c:CompOkC X scope N z cix){j i:Nat}{x:Str}(h1:N[j]?=some x)(h2:cix[j]?=some (some i)):X.N[i]?=some x/\scope.names.lookup x=some .free/\(X.env.scope.names.lookup x=some .cell\/X.env.scope.names.lookup x=some .free):=by
 have h:=c.caps
 unfold L2.zeb at h
 rw [Bool.and_eq_true,Bool.and_eq_true] at h
 have hm:(x,some i)∈N.zip cix:=by
  refine List.mem_of_getElem? (i:=j) ?_
  rw [List.getElem?_zip_eq_some]
  exact ⟨h1,h2⟩
 have q:=List.all_eq_true.mp h.1.2 _ hm
 grind
theorem CompOkC.isZ (c:CompOkC X scope N z cix){x:Str}(h:scope.names.lookup x=some .cell):x=z:=by
 have:(x,NameKind.cell)∈scope.names.filter (fun y=>y.2==.cell):=List.mem_filter.mpr ⟨mem_of_lookup h,rfl⟩
 rw [c.parts.2,List.mem_singleton] at this
 grind
theorem zeG {fp:List Addr}{h':Heap}{tk:Nat}{m:Str->Option Value}{D:Addr}(I:Inv X pins σ H s)(c:CompOkC X scope N z cix)(hf:∀ b∈fp,zbu X pins H b)(hfo:∀ b∈fp,b<s.heap.objs.size)
  (hn:h'.Ns s.heap.objs.size m) (hD:s.heap.objs.size<=D) (hcd:h'.IsCell D none) (hk:∀ b o,s.heap.get? b=some o->h'.get? b=some o) :
  Inv (zK X scope N z s.heap.objs.size D s H fp) [] (uw σ cix) H { s with heap:=h',toks:=tk }:=by
 have hcl:=c.cells I.ok
 have back:∀ x a,((z,D)::zar X.env scope.names []).lookup x=some a->(x=z/\a=D)\/(x≠z/\(zar X.env scope.names []).lookup x=some a/\X.env.cells.lookup x=some a/\a<s.heap.objs.size):=fun x a e=>by
  rw [List.lookup_cons] at e
  cases q:x==z with
  | true=>
   simp_all
  | false=>
   rw [q] at e
   have e':(zar X.env scope.names []).lookup x=some a:=e
   have hl:X.env.cells.lookup x=some a:=by
    rcases yJ hcl e' with z | z
    ·exact z
    ·simp at z
   obtain ⟨v,oc,hoc,_⟩:=I.cell x a hl
   exact .inr ⟨by grind,e',hl,Heap.lt_size hoc⟩
 refine ⟨⟨I.mod,c.kind,I.ok.glob,I.ok.blt,Nat.le_refl _,fun x y a e1 e2=>?_,fun x hx=>?_,fun x a hz e=>?_,I.ok.hd,I.ok.frames,.inl rfl,
  fun b hb=>⟨Nat.ne_of_lt (hfo b hb),fun x a e=>?_⟩,I.bs,Nat.le_trans I.ok.bsz I.sz,fun b o e hb=>?_,fun b hb z=>?_,I.stack,I.stkFree⟩,
  I.os ▸ rfl,I.bare,Un.kept hk,⟨m,hn,fun j x v h1 h2 h3=>?_⟩,fun x a e=>?_,I.hok.fresh (Nat.le_refl _),fun x a e=>?_,fun p hp=>absurd (show p∈([]:List (Addr×Obj)) from hp) (by simp),I.hok.kept hk,?_⟩
 ·rcases back x a e1 with ⟨r1,r2⟩ | ⟨_,_,r1,r2⟩ <;> rcases back y a e2 with ⟨q1,q2⟩ | ⟨_,_,q1,q2⟩
  ·grind
  ·exact absurd (Nat.lt_of_lt_of_le q2 (r2 ▸ hD)) (Nat.lt_irrefl _)
  ·exact absurd (Nat.lt_of_lt_of_le r2 (q2 ▸ hD)) (Nat.lt_irrefl _)
  ·exact I.ok.inj x y a r1 q1
 ·have hx':((relabel scope X.env).names.lookup x=some .cell\/(relabel scope X.env).names.lookup x=some .free):=hx
  have hx2:scope.names.lookup x=some .free\/scope.names.lookup x=some .cell:=by
   rcases hx' with q | q
   ·exact yc q (.inl rfl)
   ·exact yc q (.inr rfl)
  show ∃ a,((z,D)::zar X.env scope.names []).lookup x=some a
  rw [List.lookup_cons]
  cases q:x==z with
  | true=>exact ⟨D,rfl⟩
  | false=>
   rcases hx2 with e | e
   ·exact yB e
   ·exact absurd (c.isZ e) fun w=>by subst w;simp at q
 ·have hz':(x==z)=true:=hz
  rcases back x a e with ⟨_,r⟩ | ⟨r,_⟩
  ·rw [r];exact hD
  ·simp_all
 ·rcases back x a e with ⟨_,r⟩ | ⟨_,_,r,_⟩
  ·rw [r]
   exact Nat.ne_of_gt (Nat.lt_of_lt_of_le (hfo b hb) hD)
  ·exact (hf b hb).2.2.2.2.1 x a r
 ·rcases (hf b hb).2.2.2.1 with z | z
  ·exact I.ok.noex b o e z
  ·exact absurd (Nat.lt_of_lt_of_le (Heap.lt_size e) (Nat.le_trans I.ok.bsz z)) (Nat.lt_irrefl _)
 ·rcases List.mem_cons.mp (I.stkSub b z) with e | e
  ·exact (hf b hb).2.1 e
  ·exact (hf b hb).2.2.1 e
 ·have h1':N[j]?=some x:=h1
  unfold uw at h2
  rw [List.getElem?_map] at h2
  cases e:cix[j]? with
  | none=>rw [e] at h2;cases h2
  | some o=>
   rw [e] at h2
   cases o with
   | none=>cases h2
   | some i=>
    have h2':(σ[i]?).join=some v:=Option.some.inj h2
    have h2'':σ[i]?=some (some v):=by
     cases q:σ[i]? with
     | none=>rw [q] at h2';cases h2'
     | some z=>rw [q] at h2';have:z=some v:=h2';rw [this]
    obtain ⟨q1,q2,q3⟩:=c.cap h1' e
    obtain ⟨m0,hn0,hl0⟩:=I.loc
    obtain ⟨u,ru,hu⟩:=hl0 i x v q1 h2'' (q3.elim (fun z=>.inr (.inl z)) fun z=>.inr (.inr z))
    refine ⟨u,ru,.inr ⟨z6 q2,?_⟩⟩
    rcases hu with ⟨z,_⟩ | ⟨_,a,ha,hcell⟩
    ·have z':X.env.scope.names.lookup x=some .local:=z
     simp_all
    ·obtain ⟨a',ha'⟩:=yB (env:=X.env) (cs:=[]) q2
     have hxz:(x==z)=false:=by
      cases q:x==z with
      | false=>rfl
      | true=>
       have:=eq_of_beq q
       subst this
       rw [c.lk] at q2
       cases q2
     have hlk:((z,D)::zar X.env scope.names []).lookup x=some a':=by rw [List.lookup_cons,hxz];exact ha'
     have:a'=a:=by
      rcases back x a' hlk with ⟨r,_⟩ | ⟨_,_,r,_⟩
      all_goals simp_all
     subst this
     obtain ⟨oc,hoc,hd⟩:=hcell
     exact ⟨a',hlk,oc,hk _ _ hoc,hd⟩
 ·rcases back x a e with ⟨_,r⟩ | ⟨_,_,r,_⟩
  ·rw [r]
   exact ⟨none,hcd⟩
  ·obtain ⟨v,oc,hoc,hd⟩:=I.cell x a r
   exact ⟨v,oc,hk _ _ hoc,hd⟩
 ·rcases back x a e with ⟨_,r⟩ | ⟨_,_,r,_⟩
  ·rw [r]
   exact I.hok.fresh hD
  ·exact I.freeC x a r
 ·show (uw σ cix).length=N.length
  unfold uw
  rw [List.length_map,c.parts.1]
theorem zct {fp:List Addr}{σ':St}{H':Hp}{s':Shared}{h'':Heap}{D:Addr}(I:Inv X pins σ H s)(hf:∀ b∈fp,zbu X pins H b)(I':Inv (zK X scope N z s.heap.objs.size D s H fp) [] σ' H' s')(hs:Heap.SameBut s.heap.objs.size s'.heap h'') :
  Inv X pins σ H' { s' with heap:=h'' }:=by
 have ne:∀ b o,s.heap.get? b=some o->b≠s.heap.objs.size:=fun b o e=>Nat.ne_of_lt (Heap.lt_size e)
 have u:=I'.base
 refine Inv.call' (ch:=fp) I I'.os ⟨fun b o e n hb hx=>?_,fun b o e n hb hx=>?_,u.free,fun b o e hx=>?_,u.tups,u.frzs,u.tbls⟩ (uR I'.hok I'.free hs) I'.bare fun b hb=>⟨(hf b hb).2.2.2.1,(hf b hb).2.1,(hf b hb).2.2.2.2.1,(hf b hb).2.2.2.2.2⟩
 ·exact (hs.2 b (ne b o e)).trans (u.keep b o e n hb hx)
 ·obtain ⟨sl,q⟩:=u.slot b o e n hb hx
  exact ⟨sl,(hs.2 b (ne b o e)).trans q⟩
 ·obtain ⟨o',q⟩:=u.there b o e hx
  exact ⟨o',(hs.2 b (ne b o e)).trans q⟩
end
section
variable {X:Cx}{scope:Scope}{N:List Str}{cix:List (Option Nat)}{z:Str}
theorem zgx (c:CompOkC X scope N z cix):Opn X scope cix (fun X'=>∃ C D s H ex,X'=zK X scope N z C D s H ex) where
 kind:=c.kind
 names:=c.names
 cells:=c.cells
 run:=fun pins σ H3 s3 fp Q I3 f3 ltF k=>by
  refine zcF c.parts.2 ?_
  have hCD:s3.heap.objs.size<=(s3.heap.push { cls:=.type "dict",data:=.dict #[] }).objs.size:=by rw [Heap.size_push];exact Nat.le_succ _
  have kp:∀ b o,s3.heap.get? b=some o->((s3.heap.push { cls:=.type "dict",data:=.dict #[] }).push { cls:=.type "cell",data:=.cell none }).get? b=some o:=fun b o e=>Heap.get?_push_of_some _ (Heap.get?_push_of_some _ e)
  refine k (zK X scope N z s3.heap.objs.size (s3.heap.push { cls:=.type "dict",data:=.dict #[] }).objs.size s3 H3 fp) _ _ ⟨_,_,_,_,_,rfl⟩ ⟨rfl,rfl,rfl,rfl,rfl,rfl,rfl,fun {H'} hn b hb=>⟨hn b hb,Nat.ne_of_lt (ltF b hb),fun y=>?_,.inl hb,fun x a e=>?_,fun p hp=>?_⟩,fun I' hs=>zct I3 f3 I' hs⟩ rfl rfl (zeG I3 c f3 ltF ((Heap.Ns.new ..).at' fun o e=>Heap.get?_push_of_some _ e) hCD ⟨_,Heap.get?_push_size _ rfl,rfl⟩ kp) kp
  ·rcases List.mem_cons.mp (I3.stkSub b y) with e | e
   ·exact (f3 b hb).2.1 e
   ·exact (f3 b hb).2.2.1 e
  ·have e':((z,(s3.heap.push { cls:=.type "dict",data:=.dict #[] }).objs.size)::zar X.env scope.names []).lookup x=some a:=e
   rw [List.lookup_cons] at e'
   cases q:x==z with
   | true=>
    rw [q] at e'
    cases (show some _=some a from e')
    exact Nat.ne_of_gt (Nat.lt_of_lt_of_le (ltF b hb) hCD)
   | false=>
    rw [q] at e'
    rcases yJ (c.cells I3.ok) e' with y | y
    ·exact (f3 b hb).2.2.2.2.1 x a y
    ·simp at y
  ·exact absurd (show p∈([]:List (Addr×Obj))++[] from hp) (by simp)
theorem znr {P:Cx->Prop}(h:∀ C D s H ex,P (zK X scope N z C D s H ex)):∀ X',(∃ C D s H ex,X'=zK X scope N z C D s H ex)->P X':=by simp_all
end
end L2
namespace L2
open PySem PySem.Spec PyProof.Rows
theorem zfe {X:Cx}{pos:Pos}{te:TE}{elt tg iter:Expr}{ifs:List Expr}{scope:Scope}{wi:TI}{g:TG}{ti:TT}{N:List Str}{z:Str}{cix:List (Option Nat)}(hc:X.calm=true)(c:CompOkC X scope N z cix)
  (hi:QI X tg iter wi) (hg:∀ C D s H ex,QG (zK X scope N z C D s H ex) tg g) (ht:∀ C D s H ex,QTs (zK X scope N z C D s H ex) ifs ti) (he:∀ C D s H ex,QE (zK X scope N z C D s H ex) elt te)
  (hs:∀ x,foldedSetIterable iter X.env x=pure x:=by intro _;rfl):QE X (.ListComp elt [⟨tg,iter,ifs,0⟩] scope pos) (zdu wi g ti te cix):=⟨fun pins s σ H Q I h=>by
 rw [eval_ListComp]
 exact uY (Fin:=fun acc H=>Q (.ref acc) H) (zgx c) hc hi.run (znr fun C D s H ex=>(hg C D s H ex).run) (znr fun C D s H ex=>(ht C D s H ex).run) (znr fun C D s H ex=>(he C D s H ex).run) hs I h fun _ _ _ _ _ hm hb q=>zdg hm hb q⟩
theorem zbn:typeLookup (.type "tuple") "keys" = pure none:=by rw [typeLookup_type,builtinLookup_eq_fast];kernel_rfl
theorem uJ {prog:Program}{w:World}{A:Around}{E:Value->Shared->Prop}{s:Shared}{a:Addr}{o:Obj}{xs:Array Value}{k:Nat}{name:Str}{Q:Option Value->Shared->Prop}
  (hx:s.heap.get? a=some o) (hc:o.cls = .type "tuple") (hdat:o.data = .seq xs k) (hd:o.dict=none) (hmiss:typeLookup (.type "tuple") name=pure none) (hname:(["__module__","__name__","__qualname__","__doc__","__annotations__"]:List Str).contains name=false) (hA:A.handled=none)
  (h:∀ h' tk e,Heap.NewExcOf s.heap h' e "AttributeError" -> Q none { s with heap:=h',toks:=tk }) (hsz:name.length+100<=sizeLine:=by size_fits) :
  wpAny (model prog w) A (getAttr? (.ref a) name) Q E s:=by
 obtain ⟨c,dct,dat,sl⟩:=o
 simp only at hc hdat hd
 subst hc hdat hd
 obtain ⟨hp,g,d,tk,os⟩:=s
 have hT:∀ tk',(⟨hp,g,d,tk',os⟩:Shared).TypeIs (.ref a) "tuple" := fun _=>⟨_,hx,rfl⟩
 have f1:=sub_AttributeError
 have f3:=F.slot_tuple_getattribute.lookup
 have f4:=F.slot_tuple_getattribute.bind (.ref a)
 have f5:=am_tuple_getattr_none
 unfold getAttr? getAttrBy? getAttrBy
 repeat (any_goals (first | assumption | exact hT _ | ((with_reducible show wpAny _ _ (call (Value.builtin "tuple.__getattribute__") _ _) _ _ _);refine call_meets F.slot_tuple_getattribute (hT _) am_entry_tuple_getattribute (F.args_tuple_getattribute_2 _ _) (meets_getattribute_miss_tuple a xs k sl name _ hmiss hname hsz) ⟨hx,hA,fun h' tk e hx'=>?_⟩) | wp_step))
 obtain ⟨t',u',he⟩:=hx'.there
 show wpAny _ _ (getattributeRaised _ _ _ _ _ _ _) _ _ _
 unfold getattributeRaised
 repeat (any_goals (first | assumption | wp_step))
 exact h _ _ _ hx'.of
theorem z9:entryFor table "dict.update.loop" = some Builtin.«dict.update.loop»:=entryFor_of_tree (by kernel_rfl)
theorem zB:plainId "dict.update.loop" = true:=by decide +kernel
structure PairAt (h:Heap)(q:Addr×Int×Tok×Value):Prop where
 at':IsTup h q.1 #[.int q.2.1 q.2.2.1,q.2.2.2]
theorem PairAt.keep {h h':Heap}{q:Addr×Int×Tok×Value}(x:PairAt h q)(k:∀ o,h.get? q.1=some o->h'.get? q.1=some o):PairAt h' q:=by
 obtain ⟨o,ho,r⟩:=x.at'
 exact ⟨⟨o,k o ho,r⟩⟩
section
variable {prog:Program}{w:World}{A:Around}{E:Value->Shared->Prop}{s:Shared}{R:Result->Shared->Prop}{Kt:Type}[DecidableEq Kt]{knd:KeyKind prog w Kt}{κ:Int->Kt}
theorem zaq {a:Addr}{o:Obj}{xs:Array Value}{n:Nat}{Q:Option (Array Value)->Shared->Prop}(ho:s.heap.get? a=some o)(hd:o.data = .seq xs n)(h:Q (some xs) s):wpAny (model prog w) A (seqItems? (.ref a)) Q E s:=by
 obtain ⟨c,d,dt,sl⟩:=o
 simp only at hd
 subst hd
 unfold seqItems?
 repeat (any_goals (first | assumption | wp_step))
theorem zes {D I l:Addr}{items:Array Value}{ps:List (Addr×Int×Tok×Value)}{tk0:Tok}(hh:A.in1.handled=none)(hkk:∀ n t,knd.is (κ n) (.int n t)=true)(hit:items.toList=ps.map fun q=>Value.ref q.1)(hDI:D≠I)(hlD:l≠D)(hlI:l≠I)(hq:∀ q∈ps,q.1≠D/\q.1≠I)(hn:ps.length<=1000) :
  ∀ (k i:Nat) (s:Shared) (kvs:List (Kt×Value)) (j:Int) (tj:Tok),ps.length - i=k->i<=ps.length->s.heap.IsTupleIter I l i->s.heap.IsTuple l items->(∀ q∈ps,PairAt s.heap q)->s.heap.DictOf knd D kvs->kvs.length<=i->
   (∀ h' tk',h'.DictOf knd D (merged kvs ((ps.drop i).map fun q=>(κ q.2.1,q.2.2.2)))->(∀ b o,b≠D->b≠I->s.heap.get? b=some o->h'.get? b=some o)->R (.ok (.ret .none)) { s with heap:=h',toks:=tk' })->
   codeAny (model prog w) A (.builtin "dict.update.loop" ⟨[.ref D,.ref I,.int j tj,.none],[]⟩) R s:=by
 intro k
 induction k with
 | zero=>
  intro i s kvs j tj hk hi hI hl hel hD hlen hR
  have hin:i=ps.length:=by lia
  subst hin
  refine codeAny_builtin z9 ?_
  rw [Around.under_plainId zB _]
  show wpAny _ A.in1 (pyNext (.ref I) >>= _) _ _ s
  refine wpAny_bind (wpAny_pyNext_tuple_end hh hI hl ?_ fun h' hx=>?_)
  ·have e:items.toList[ps.length]?=none:=by rw [hit,List.getElem?_map,List.getElem?_eq_none (Nat.le_refl _)];rfl
   simpa using e
  show wpAny _ A.in1 (Builtin.Dict.addKeywords D [] >>= _) _ _ _
  refine wpAny_bind (wpAny_pure (wpAny_pure (hR h' s.toks ?_ fun b o _ hb e=>hx b o hb e)))
  rw [List.drop_length]
  obtain ⟨o,es,ep,ho,r⟩:=hD
  exact ⟨o,es,ep,hx D o hDI ho,r⟩
 | succ k ih=>
  intro i s kvs j tj hk hi hI hl hel hD hlen hR
  have hlt:i<ps.length:=by lia
  refine codeAny_builtin z9 ?_
  rw [Around.under_plainId zB _]
  show wpAny _ A.in1 (pyNext (.ref I) >>= _) _ _ s
  have hx:items[i]?=some (Value.ref ps[i].1):=by
   have e:items.toList[i]?=some (Value.ref ps[i].1):=by rw [hit,List.getElem?_map,List.getElem?_eq_getElem hlt];rfl
   simpa using e
  have hmi:ps[i]∈ps:=List.getElem_mem hlt
  refine wpAny_bind (wpAny_pyNext_tuple_item hI hl hx fun h1 hI1 hs1=>?_)
  have kp1:∀ b o,b≠I->s.heap.get? b=some o->h1.get? b=some o:=fun b o hb e=>by rw [hs1.2 b hb];exact e
  have hel1:∀ q∈ps,PairAt h1 q:=fun q z=>(hel q z).keep fun o e=>kp1 _ _ (hq q z).2 e
  have hD1:h1.DictOf knd D kvs:=by
   obtain ⟨o,es,ep,ho,r⟩:=hD
   exact ⟨o,es,ep,kp1 _ _ hDI ho,r⟩
  have hp:=(hel1 _ hmi).at'
  have hT:Shared.TypeIs { s with heap:=h1 } (.ref ps[i].1) "tuple" := hp.typeIs
  refine wpAny_bind (wpAny_holding ?_)
  refine wpAny_bind (wpAny_tryCatch ?_)
  unfold Builtin.Dict.pairItems
  refine wpAny_bind (wpAny_typeOf hT ?_)
  rw [if_pos (by decide)]
  obtain ⟨o,ho,hc,n,hd⟩:=id hp
  refine wpAny_bind (zaq ho hd ?_)
  refine wpAny_pure ?_
  show wpAny _ _ (holding [Value.int ps[i].2.1 ps[i].2.2.1,ps[i].2.2.2] (dictSet D (Value.int ps[i].2.1 ps[i].2.2.1) ps[i].2.2.2)) _ _ _
  refine wpAny_holding ?_
  refine wpAny_dictSet_pairs (s:={ s with heap:=h1 }) (hkk _ _) hD1 (fun h2 hD2 hs2=>?_) (by rw [sizeLine_eq];lia)
  have kp2:∀ b o,b≠D->h1.get? b=some o->h2.get? b=some o:=fun b o hb e=>by rw [hs2.2 b hb];exact e
  refine wpAny_pure ⟨plainId_quiet zB _,ih (i+1) _ _ (j+1) _ (by lia) hlt ?_ ?_ ?_ hD2 ?_ ?_⟩
  ·obtain ⟨o,ho,r⟩:=hI1
   exact ⟨o,kp2 _ _ hDI.symm ho,r⟩
  ·obtain ⟨o,ho,r⟩:=hl
   exact ⟨o,kp2 _ _ hlD (kp1 _ _ hlI ho),r⟩
  ·exact fun q z=>(hel1 q z).keep fun o e=>kp2 _ _ (hq q z).1 e
  ·have:=stored_length_le kvs (κ ps[i].2.1) ps[i].2.2.2
   lia
  ·intro h' tk' hD' kp
   refine hR h' tk' ?_ fun b o b1 b2 e=>kp b o b1 b2 (kp2 b o b1 (kp1 b o b2 e))
   have e:ps.drop i=ps[i]::ps.drop (i+1):=List.drop_eq_getElem_cons hlt
   rw [e,List.map_cons]
   exact hD'
theorem uK {l:Addr}{items:Array Value}{ps:List (Addr×Int×Tok×Value)}{Q:Value->Shared->Prop}(hh:A.handled=none)(hkk:∀ n t,knd.is (κ n) (.int n t)=true)(hinj:∀ a b,κ a=κ b->a=b)
  (hl:∃ o,s.heap.get? l=some o/\o.cls = .type "tuple" /\ (∃ n,o.data = .seq items n)/\o.dict=none) (hit:items.toList=ps.map fun q=>Value.ref q.1) (hel:∀ q∈ps,PairAt s.heap q) (hn:ps.length<=1000) (hnd:(ps.map (·.2.1)).Nodup)
  (h:∀ (h':Heap) (tk:Nat),h'.DictOf knd s.heap.objs.size (ps.map fun q=>(κ q.2.1,q.2.2.2))->(∀ b o,s.heap.get? b=some o->h'.get? b=some o)->Q (.ref s.heap.objs.size) { s with heap:=h',toks:=tk }) :
  wpAny (model prog w) A (call (.type "dict") [.ref l]) Q E s:=by
 refine callType_codes (Q₁:=fun obj s₁=>obj = .ref s.heap.objs.size/\s₁={ s with heap:=s.heap.push { cls:=.type "dict",data:=.dict #[] } }) F.kt_called_dict (F.kt_typeCall_dict_1 _) F.entry_dict_init (kt_code_dict_new _ ⟨rfl,rfl⟩) ?_
 rintro obj s₁ ⟨rfl,rfl⟩
 have hnew:(s.heap.push { cls:=.type "dict",data:=.dict #[] }).DictOf knd s.heap.objs.size []:=Heap.DictOf.new s.heap
 obtain ⟨o,ho,hc,⟨n,hd⟩,hdn⟩:=hl
 have ho1:(s.heap.push { cls:=.type "dict",data:=.dict #[] }).get? l=some o:=Heap.get?_push_of_some _ ho
 have hT1:Shared.TypeIs { s with heap:=s.heap.push { cls:=.type "dict",data:=.dict #[] } } (.ref l) "tuple" := ⟨o,ho1,hc⟩
 refine ⟨hnew.typeIs,F.args_dict_init_2 _ _,?_⟩
 unfold Builtin.«dict.__init__»
 refine wpAny_bind ?_
 unfold Builtin.Dict.selfAndRest
 refine wpAny_bind (wpAny_notOrdered_dict hnew.typeIs ?_)
 show wpAny _ _ (pure (s.heap.objs.size,[Value.ref l])) _ _ _
 refine wpAny_pure ?_
 show wpAny _ _ (Builtin.Dict.updateFrom "dict.__init__" s.heap.objs.size (.ref l) [] .none) _ _ _
 unfold Builtin.Dict.updateFrom
 refine wpAny_bind (wpAny_typeOf hT1 ?_)
 rw [if_pos (by decide)]
 refine wpAny_bind (uJ ho1 hc hd hdn zbn (by decide) (by simp [hh]) (fun h2 tk e hx=>?_) (by decide))
 have kp2:=hx.keeps
 rw [if_pos (by rfl)]
 refine wpAny_bind (wpAny_rule ?_)
 have hlS:l<s.heap.objs.size:=Heap.lt_size ho
 have hqS:∀ q∈ps,q.1<s.heap.objs.size:=fun q hq=>by
  obtain ⟨o,ho,_⟩:=(hel q hq).at'
  exact Heap.lt_size ho
 have hg2:s.heap.objs.size<h2.objs.size:=by
  obtain ⟨_,_,_,hg,_⟩:=hnew
  exact Heap.lt_size (kp2 _ _ hg)
 have ho2:=kp2 _ _ ho1
 refine wpAny_bind (wpAny_pyIter_tuple (s:={ s with heap:=h2,toks:=tk }) ⟨o,ho2,hc,n,hd⟩ ?_)
 refine wpAny_pure ⟨plainId_quiet zB _,?_⟩
 refine zes (A:=A.in1) (knd:=knd) (κ:=κ) (items:=items) (ps:=ps) (l:=l) (tk0:=0) (by simp [hh]) hkk hit ?_ ?_ ?_ ?_ hn (ps.length - 0) 0 _ [] _ _ (by lia) (Nat.zero_le _) ⟨_,Heap.get?_push_size _ rfl,rfl,rfl⟩ ?_ ?_ ?_ (Nat.le_refl _) ?_
 ·exact Nat.ne_of_lt hg2
 ·exact Nat.ne_of_lt hlS
 ·exact Nat.ne_of_lt (Nat.lt_trans hlS hg2)
 ·intro q hq
  have:=hqS q hq
  exact ⟨Nat.ne_of_lt this,Nat.ne_of_lt (Nat.lt_trans this hg2)⟩
 ·exact ⟨o,Heap.get?_push_of_some _ ho2,hc,n,hd⟩
 ·exact fun q hq=>(hel q hq).keep fun o e=>Heap.get?_push_of_some _ (kp2 _ _ (Heap.get?_push_of_some _ e))
 ·obtain ⟨o',es,ep,ho',r⟩:=hnew
  exact ⟨o',es,ep,Heap.get?_push_of_some _ (kp2 _ _ ho'),r⟩
 ·intro h' tk' hD kp
  refine ⟨rfl,h h' tk' ?_ fun b o e=>?_⟩
  ·rw [List.drop_zero,merged_nil_of_nodup] at hD
   ·exact hD
   ·rw [List.map_map]
    have e:(ps.map ((fun x=>x.1) ∘ fun q=>(κ q.2.1,q.2.2.2)))=(ps.map (·.2.1)).map κ:=by rw [List.map_map];rfl
    rw [e]
    exact List.Pairwise.map κ (fun a b hab he=>hab (hinj a b he)) hnd
  ·have hb:=Heap.lt_size e
   exact kp b o (Nat.ne_of_lt hb) (Nat.ne_of_lt (Nat.lt_trans hb hg2)) (Heap.get?_push_of_some _ (kp2 _ _ (Heap.get?_push_of_some _ e)))
end
structure PrsAt (H:Hp)(a:Addr)(ps:List (Addr×Int×V)):Prop where
 at':H a=some (.tup (ps.map fun q=>V.ref q.1))
 one:∀ q∈ps,H q.1=some (.tup [.int q.2.1,q.2.2])
theorem zn8 {ps:List (Addr×Int×V)}{P:Program}{w:World}{H:Hp}{h:Heap}(ok:HOk P w H h):∀ {its:List Value},zY (ps.map fun q=>V.ref q.1) its->(∀ q∈ps,H q.1=some (.tup [.int q.2.1,q.2.2]))->
  ∃ qs:List (Addr×Int×Tok×Value),its=qs.map (fun q=>Value.ref q.1)/\(∀ q∈qs,PairAt h q)/\qs.map (·.2.1)=ps.map (·.2.1)/\KV (ps.map fun q=>((Sum.inl q.2.1:Key),q.2.2)) (qs.map fun q=>((Sum.inl q.2.1:Key),q.2.2.2)):=by
 induction ps with
 | nil=>intro its r _;cases r;exact ⟨[],rfl,fun _ h=>by simp at h,rfl,.nil⟩
 | cons q ps ih=>
  intro its r hq
  cases r with
  | cons r1 r2=>
   obtain ⟨qs,rfl,h1,h2,h3⟩:=ih r2 fun z hz=>hq z (List.mem_cons_of_mem _ hz)
   cases r1
   obtain ⟨_,us,rv,o,ho,hc,⟨n,hd⟩,_⟩:=(show zG P w H h q.1 (.tup _) from ok _ _ (hq q List.mem_cons_self))
   cases rv with
   | cons rk rv=>
    cases rv with
    | cons ru rn=>
     cases rn
     obtain ⟨t,rfl⟩:=rk
     refine ⟨(q.1,q.2.1,t,_)::qs,rfl,fun z hz=>?_,by simp_all,.cons ⟨rfl,ru⟩ h3⟩
     rcases List.mem_cons.mp hz with rfl | hz
     ·exact ⟨⟨o,ho,hc,n,hd⟩⟩
     ·exact h1 z hz
def zfo:List V->Hp->VK->Prop:=fun xs H Q=>∃ (a:Addr) (ps:List (Addr×Int×V)),xs=[.ref a]/\PrsAt H a ps/\(ps.map (·.2.1)).Nodup/\ps.length<=1000/\New H (.dK (ps.map fun q=>((Sum.inl q.2.1:Key),q.2.2))) Q
theorem zfY {X:Cx}(hc:X.calm=true):CallQ X (.type "dict") zfo:=⟨by
 intro pins s σ H xs us Q I rr hh
 obtain ⟨a,ps,rfl,hp,hnd,hn,q⟩:=hh
 cases rr with
 | cons r1 r2=>
  cases r2
  cases r1
  obtain ⟨hz,its,rv,o,ho,hcl,⟨n,hd⟩,hdn⟩:=(show zG X.prog X.w H s.heap a (.tup _) from I.hok a _ hp.at')
  obtain ⟨qs,rfl,h1,h2,h3⟩:=zn8 I.hok rv hp.one
  have hlen:qs.length=ps.length:=by have:=congrArg List.length h2;simpa using this
  refine uK (knd:=zT X.prog X.w) (κ:=Sum.inl) (items:=(qs.map fun q=>Value.ref q.1).toArray) (ps:=qs) (I.ok.hd hc) (fun n t=>u5 _ _ n t) (fun a b e=>Sum.inl.inj e) ⟨o,ho,hcl,⟨n,hd⟩,hdn⟩ (by simp) h1 (by lia) (by rw [h2];exact hnd) fun h' tk hD kp=>?_
  have hf:H s.heap.objs.size=none:=I.hok.fresh (Nat.le_refl _)
  refine ⟨.ref s.heap.objs.size,_,I.laid (t':=tk) (o:=.dK (ps.map fun q=>((Sum.inl q.2.1:Key),q.2.2))) kp (Nat.le_refl _) ⟨?_,?_,_,h3,hD⟩,rfl,q.at hf⟩
  ·simp_all
  ·exact beq_eq_false_iff_ne.mpr (Ne.symm (Nat.ne_of_lt I.big))⟩
theorem xH {X:Cx}{pins:List (Addr×Obj)}{σ:St}{H:Hp}{s:Shared}{a:Addr}{xs:List V}(I:Inv X pins σ H s)(h:SqL X.K H a xs):∃ its:List Value,zY xs its/\s.heap.IsList a its.toArray/\xs.length<=sizeLine:=by
 obtain ⟨its,r,⟨o,n,e,c,_,d⟩,z⟩:=I.list h
 exact ⟨its,r,⟨o,e,c,n,d⟩,z⟩
def Izl (K:PySem.W.Frag)(a b:Addr):It:=
 ⟨fun i H=>∃ xs ys x y,SqL K H a xs/\SqL K H b ys/\xs[i]?=some x/\ys[i]?=some y,fun i H v H'=>∃ T x y,v = .ref T/\H T=none/\H'=upd H T (.tup [x,y])/\(∀ xs,SqL K H a xs->xs[i]?=some x)/\∀ ys,SqL K H b ys->ys[i]?=some y,fun i H=>∃ xs ys,SqL K H a xs/\SqL K H b ys/\(xs.length<=i\/ys.length<=i)⟩
theorem zfF {P:Program}{w:World}{K:PySem.W.Frag}{elts:List Expr}{x1}{tpos:Pos}(z TI TO i1 i2 a b:Addr)(D:ZipApart z TI TO i1 i2 a b) :
  Turn P w K (.Tuple elts x1 tpos) (Izl K a b) [z,TI,TO,i1,i2] z (fun i h=>IsZip h z TI TO .none/\IsPair h TI (.ref i1) (.ref i2)/\(∃ c d,IsPair h TO c d)/\h.IsListIter i1 a i/\h.IsListIter i2 b i) where
 mem:=by simp
 obj:=fun i h st c hc=>by
  obtain ⟨hz,hTI,⟨u,v,hTO⟩,⟨o1,e1,c1,d1⟩,⟨o2,e2,c2,d2⟩⟩:=st
  grind
 keep:=fun i h h' st k=>by
  obtain ⟨hz,hTI,⟨u,v,hTO⟩,⟨o1,e1,r1⟩,⟨o2,e2,r2⟩⟩:=st
  exact ⟨k z (by simp) _ hz,k TI (by simp) _ hTI,⟨u,v,k TO (by simp) _ hTO⟩,⟨o1,k i1 (by simp) _ e1,r1⟩,⟨o2,k i2 (by simp) _ e2,r2⟩⟩
 item:=by
  intro X hP hw hK hc i pins s σ H E I hf st hg
  subst hP hw hK
  obtain ⟨xs,ys,x,y,hq1,hq2,hx,hy⟩:=hg
  obtain ⟨its1,rv1,p1,hz1⟩:=xH I hq1
  obtain ⟨its2,rv2,p2,hz2⟩:=xH I hq2
  obtain ⟨u1,hu1,ru1⟩:=rv1.get hx
  obtain ⟨u2,hu2,ru2⟩:=rv2.get hy
  have fz:=hf z (by simp)
  have fTO:=hf TO (by simp)
  have f1:=hf i1 (by simp)
  have f2:=hf i2 (by simp)
  obtain ⟨hz,hTI,⟨c0,d0,hTO⟩,hi1,hi2⟩:=st
  have hT:s.TypeIs (.ref z) "zip" := ⟨_,hz,rfl⟩
  unfold pyNext
  refine wpAny_bind (wpAny_attempt (wpAny_callSpecial?_slot (name:=Str.ofString "__next__") hT F.slot_zip_next
   (wpAny_call_entry F.slot_zip_next hT F.entry_zip_next (zip_next_item (A:=X.A.in1) D hz hTI hTO hi1 hi2 p1 p2 (x:=u1) (y:=u2) (by simpa using hu1) (by simpa using hu2) fun h' gz gTO gi1 gi2 gT sz' hk=>?_) (F.args_zip_next_1 _))))
  refine wpAny_pure ⟨_,rfl,?_⟩
  refine wpAny_letOwnedTupleGo_zip (s:={ s with heap:=h' }) gz fun h'' gz'' hs''=>?_
  have nz:∀ b' o',s.heap.get? b'=some o'->s.heap.objs.size≠b':=fun b' o' e=>Nat.ne_of_gt (Heap.lt_size e)
  have hTz:s.heap.objs.size≠z:=nz z _ hz
  have hTTO:s.heap.objs.size≠TO:=nz TO _ hTO
  have hT1:s.heap.objs.size≠i1:=by obtain ⟨o,ho,_⟩:=hi1;exact nz i1 _ ho
  have hT2:s.heap.objs.size≠i2:=by obtain ⟨o,ho,_⟩:=hi2;exact nz i2 _ ho
  have hTTI:s.heap.objs.size≠TI:=nz TI _ hTI
  have hnone:=I.hok.fresh (Nat.le_refl s.heap.objs.size)
  have kp:∀ c o,c≠z->c≠TO->c≠i1->c≠i2->s.heap.get? c=some o->h''.get? c=some o:=fun c o h1 h2 h3 h4 hb=>(hs''.2 c h1).trans (hk c o h1 h2 h3 h4 hb)
  have hT'':h''.get? s.heap.objs.size=some { cls:=.type "tuple",data:=.seq #[u1,u2] }:=(hs''.2 _ hTz).trans gT
  have objK:∀ b' u',H b'=some u'->b'≠z/\b'≠TO/\b'≠i1/\b'≠i2:=fun b' u' hb=>⟨zb hb fz.1,zb hb fTO.1,zb hb f1.1,zb hb f2.1⟩
  have hok':HOk X.prog X.w (upd H s.heap.objs.size (.tup [x,y])) h'':=by
   intro b' u' hb
   by_cases hbT:b'=s.heap.objs.size
   ·subst hbT
    rw [zh] at hb
    cases hb
    exact ⟨by show 2<=sizeLine;decide,[u1,u2],.cons ru1 (.cons ru2 .nil),_,hT'',rfl,⟨0,rfl⟩,rfl⟩
   ·rw [zd hbT] at hb
    refine (I.hok b' u' hb).stay (fun c v hcv q=>?_) (fun c q=>?_) (fun c ys q=>?_)
    ·have:c≠z/\c≠TO/\c≠i1/\c≠i2:=by
      rcases hcv with rfl | hcv
      all_goals simp_all
     simp_all
    ·rw [zd (zb q hnone)];exact q
    ·rw [zd (zb q hnone)];exact q
  have kp':∀ c o,c∉[z,TO,i1,i2]->s.heap.get? c=some o->h''.get? c=some o:=fun c o hc e=>kp c o (fun q=>hc (by simp [q])) (fun q=>hc (by simp [q])) (fun q=>hc (by simp [q])) (fun q=>hc (by simp [q])) e
  have I1:Inv X pins σ (upd H s.heap.objs.size (.tup [x,y])) { s with heap:=h'',toks:=s.toks }:=by
   refine Inv.step (ch:=[z,TO,i1,i2]) (g':=s.gens) (d':=s.drawn) (t':=s.toks) I (fun c hc=>?_) (fun c o h1 h2 h3 h4 h5=>?_) (fun c o h1 h2 h3 h4 h5=>?_) (fun c o h3 h4 h5=>?_) (fun c o h3 h4=>?_) (fun c ys q=>?_) (fun c o u' q=>?_) (fun c ps q=>?_) (fun m hm=>?_) hok' I.bare
   ·simp only [List.mem_cons,List.not_mem_nil,or_false] at hc
    rcases hc with rfl | rfl | rfl | rfl
    ·exact ⟨fz.2.2.2.1,fz.2.1,fz.2.2.2.2.1,fz.2.2.2.2.2⟩
    ·exact ⟨fTO.2.2.2.1,fTO.2.1,fTO.2.2.2.2.1,fTO.2.2.2.2.2⟩
    ·exact ⟨f1.2.2.2.1,f1.2.1,f1.2.2.2.2.1,f1.2.2.2.2.2⟩
    ·exact ⟨f2.2.2.2.1,f2.2.1,f2.2.2.2.2.1,f2.2.2.2.2.2⟩
   ·exact kp' c o h3 h4
   ·exact ⟨o.slots,kp' c o h3 h4⟩
   ·rw [zd (Nat.ne_of_lt (Heap.lt_size h4))];exact h5
   ·exact ⟨o,kp' c o h3 h4⟩
   ·rw [zd (zb q hnone)];exact q
   ·rw [zd (zb q hnone)];exact q
   ·exact ⟨#[],by rw [zd (zb q hnone),Array.append_empty];exact q⟩
   ·obtain ⟨o,es,ep,ho1,r1⟩:=hm
    exact ⟨o,es,ep,kp _ o (Ne.symm fz.2.1) (Ne.symm fTO.2.1) (Ne.symm f1.2.1) (Ne.symm f2.2.1) ho1,r1⟩
  refine ⟨.ref s.heap.objs.size,_,I1,rfl,⟨s.heap.objs.size,x,y,rfl,hnone,rfl,fun zs hz'=>by rw [I.list_inj hz' hq1];exact hx,fun zs hz'=>by rw [I.list_inj hz' hq2];exact hy⟩,⟨gz'',?_,⟨_,_,(hs''.2 TO D.TOz).trans gTO⟩,?_,?_⟩,fun c hc=>?_⟩
  ·exact kp TI _ D.TIz D.TITO D.TIi1 D.TIi2 hTI
  ·obtain ⟨o,ho,r⟩:=gi1
   exact ⟨o,(hs''.2 i1 D.i1z).trans ho,r⟩
  ·obtain ⟨o,ho,r⟩:=gi2
   exact ⟨o,(hs''.2 i2 D.i2z).trans ho,r⟩
  ·simp only [List.mem_cons,List.not_mem_nil,or_false] at hc
   rcases hc with rfl | rfl | rfl | rfl | rfl
   ·rw [zd (Ne.symm hTz)];exact fz.1
   ·rw [zd (Ne.symm hTTI)];exact (hf _ (by simp)).1
   ·rw [zd (Ne.symm hTTO)];exact fTO.1
   ·rw [zd (Ne.symm hT1)];exact f1.1
   ·rw [zd (Ne.symm hT2)];exact f2.1
 done:=by
  intro X hP hw hK hc i pins s σ H E I hf st hg
  subst hP hw hK
  obtain ⟨xs,ys,hq1,hq2,hx⟩:=hg
  obtain ⟨its1,rv1,p1,hzz⟩:=xH I hq1
  obtain ⟨its2,rv2,p2,hzz2⟩:=xH I hq2
  have fz:=hf z (by simp)
  have fTO:=hf TO (by simp)
  have f1:=hf i1 (by simp)
  have f2:=hf i2 (by simp)
  obtain ⟨hz,hTI,⟨c0,d0,hTO⟩,hi1,hi2⟩:=st
  have hl1:=rv1.length
  have hl2:=rv2.length
  have hT:s.TypeIs (.ref z) "zip" := ⟨_,hz,rfl⟩
  unfold pyNext
  refine wpAny_bind (wpAny_attempt (wpAny_callSpecial?_slot (name:=Str.ofString "__next__") hT F.slot_zip_next
   (wpAny_call_entry F.slot_zip_next hT F.entry_zip_next (zip_next_end (A:=X.A.in1) (I.ok.hd hc) D hz hTI hTO hi1 hi2 p1 p2 (hx.elim (fun z=>.inl (by simp;lia)) fun z=>.inr (by simp;lia)) fun h' e ko he=>?_) (F.args_zip_next_1 _))))
  obtain ⟨o,ho,hc'⟩:=he
  refine wpAny_bind (wpAny_isInstance (T := "StopIteration") (b:=true) ⟨o,ho,hc'⟩ isSubtype_stop ?_)
  refine wpAny_pure ⟨rfl,?_⟩
  have kp':∀ c o,c∉[z,TO,i1,i2]->s.heap.get? c=some o->h'.get? c=some o:=fun c o hc e=>ko c o (fun q=>hc (by simp [q])) (fun q=>hc (by simp [q])) (fun q=>hc (by simp [q])) (fun q=>hc (by simp [q])) e
  refine Inv.step (ch:=[z,TO,i1,i2]) (g':=s.gens) (d':=s.drawn) (t':=s.toks) I (fun c hc=>?_) (fun c o h1 h2 h3 h4 h5=>kp' c o h3 h4) (fun c o h1 h2 h3 h4 h5=>⟨o.slots,kp' c o h3 h4⟩) (fun c o h3 h4 h5=>h5) (fun c o h3 h4=>⟨o,kp' c o h3 h4⟩) (fun c ys q=>q) (fun c o u' q=>q) (fun c ps q=>⟨#[],by simp_all⟩) (fun m hm=>?_) (fun b' u' hb=>?_) I.bare
  ·simp only [List.mem_cons,List.not_mem_nil,or_false] at hc
   rcases hc with rfl | rfl | rfl | rfl
   ·exact ⟨fz.2.2.2.1,fz.2.1,fz.2.2.2.2.1,fz.2.2.2.2.2⟩
   ·exact ⟨fTO.2.2.2.1,fTO.2.1,fTO.2.2.2.2.1,fTO.2.2.2.2.2⟩
   ·exact ⟨f1.2.2.2.1,f1.2.1,f1.2.2.2.2.1,f1.2.2.2.2.2⟩
   ·exact ⟨f2.2.2.2.1,f2.2.1,f2.2.2.2.2.1,f2.2.2.2.2.2⟩
  ·obtain ⟨o,es,ep,ho1,r1⟩:=hm
   exact ⟨o,es,ep,ko _ o (Ne.symm fz.2.1) (Ne.symm fTO.2.1) (Ne.symm f1.2.1) (Ne.symm f2.2.1) ho1,r1⟩
  ·refine (I.hok b' u' hb).stay (fun c v hcv q=>?_) (fun c q=>q) (fun c ys q=>q)
   have:c≠z/\c≠TO/\c≠i1/\c≠i2:=by
    rcases hcv with rfl | hcv
    ·exact ⟨zb hb fz.1,zb hb fTO.1,zb hb f1.1,zb hb f2.1⟩
    ·exact ⟨zb hcv fz.1,zb hcv fTO.1,zb hcv f1.1,zb hcv f2.1⟩
   exact ko c v this.1 this.2.1 this.2.2.1 this.2.2.2 q
 self:=fun A i s Q E st h=>by
  obtain ⟨hz,_⟩:=st
  exact wpAny_pyIter_zip hz h
def zkB (K:PySem.W.Frag)(ta:TA):TI:=fun σ H R=>ta σ H fun vs H1=>∃ a b,vs=[.ref a,.ref b]/\(∃ xs,SqL K H1 a xs)/\(∃ ys,SqL K H1 b ys)/\R (Izl K a b) H1
theorem zjf {X:Cx}{elts:List Expr}{x1}{tpos:Pos}{a b:Expr}{ta:TA}{p pos:Pos}(hg:Gl X "zip")(hm:X.mg "zip" = none)(ha:PA X [a,b] ta)(hs:starEach [a,b] X.env=[(false,eval a X.env),(false,eval b X.env)]:=by rfl)(hs2:starEach [b] X.env=[(false,eval b X.env)]:=by rfl) :
  PI X (.Tuple elts x1 tpos) (.Call (.Name "zip" p) [a,b] [] pos) (zkB X.K ta):=by
 intro pins s σ H R I h
 refine Call_ (uX I hg hm boot_zip (PyProof.Rows.callWith_type1 (thn (ha pos pins s σ H _ I h) fun us s1 ⟨vs,H1,I1,r1,q1⟩=>?_) (by rw [hs,hs2]) (by rw [hs2];rfl)))
 obtain ⟨c,d,e,⟨xs,hq1⟩,⟨ys,hq2⟩,q⟩:=q1
 subst e
 cases r1 with
 | cons r rr=>
  cases rr with
  | cons r' rr=>
   cases rr
   cases r
   cases r'
   obtain ⟨its1,rv1,p1,hz1⟩:=xH I1 hq1
   obtain ⟨its2,rv2,p2,hz2⟩:=xH I1 hq2
   have lt1:c<s1.heap.objs.size:=by obtain ⟨o,ho,_⟩:=id p1;exact Heap.lt_size ho
   have lt2:d<s1.heap.objs.size:=by obtain ⟨o,ho,_⟩:=id p2;exact Heap.lt_size ho
   refine call_zip_2 (show s1.heap.IsList c its1.toArray from p1) (show s1.heap.IsList d its2.toArray from p2) fun h' gz gTI gTO gi1 gi2 hsz hk=>?_
   have I2:Inv X pins σ H1 { s1 with heap:=h',toks:=s1.toks }:=I1.kept (t':=s1.toks) hk
   refine wpAny_pyIter_zip gz ?_
   refine ⟨s1.heap.objs.size+4,[s1.heap.objs.size+4,s1.heap.objs.size+2,s1.heap.objs.size+3,s1.heap.objs.size,s1.heap.objs.size+1],_,_,H1,rfl,I2,zfF _ _ _ _ _ c d (zipApart_new lt1 lt2),⟨gz,gTI,⟨_,_,gTO⟩,gi1,gi2⟩,fun e he=>?_,q⟩
   simp only [List.mem_cons,List.not_mem_nil,or_false] at he
   rcases he with rfl | rfl | rfl | rfl | rfl
   ·exact I1.fpOk (by lia) (I1.hok.fresh (by lia))
   ·exact I1.fpOk (by lia) (I1.hok.fresh (by lia))
   ·exact I1.fpOk (by lia) (I1.hok.fresh (by lia))
   ·exact I1.fpOk (Nat.le_refl _) (I1.hok.fresh (Nat.le_refl _))
   ·exact I1.fpOk (by lia) (I1.hok.fresh (by lia))
theorem zjB {X:Cx}{elts:List Expr}{x1}{tpos:Pos}{a b:Expr}{ta:TA}{p pos:Pos}(hg:Gl X "zip")(hm:X.mg "zip" = none)(ha:QA X [a,b] ta)(hs:starEach [a,b] X.env=[(false,eval a X.env),(false,eval b X.env)]:=by rfl)(hs2:starEach [b] X.env=[(false,eval b X.env)]:=by rfl) :
  QI X (.Tuple elts x1 tpos) (.Call (.Name "zip" p) [a,b] [] pos) (zkB X.K ta):=⟨zjf hg hm ha.run hs hs2⟩
@[reducible] def nmS (b:Bool):String:=match b with | true => "tuple" | false => "list"
@[reducible] def nmI (b:Bool):String:=match b with | true => "tuple_iterator" | false => "list_iterator"
def SqH (b:Bool)(h:Heap)(l:Addr)(xs:Array Value):Prop:=∃ o,h.get? l=some o/\o.cls = .type (nmS b)/\∃ n,o.data = .seq xs n
def ItH (b:Bool)(h:Heap)(i l:Addr)(k:Nat):Prop:=∃ o,h.get? i=some o/\o.cls = .type (nmI b)/\o.data = .fields #[.ref l,.int k 0]
@[reducible] def SqV (b:Bool) (K:PySem.W.Frag) (H:Hp) (a:Addr) (xs:List V):Prop:=match b with | true=>SqT K H a xs | false=>SqL K H a xs
theorem zcP {X:Cx}{pins:List (Addr×Obj)}{σ:St}{H:Hp}{s:Shared}{a:Addr}{xs:List V}{b:Bool}(I:Inv X pins σ H s)(h:SqV b X.K H a xs):∃ its:List Value,zY xs its/\SqH b s.heap a its.toArray:=by
 cases b
 ·obtain ⟨its,r,p,_⟩:=xH I h
  exact ⟨its,r,p⟩
 ·obtain ⟨its,r,p,_⟩:=I.tuple h
  exact ⟨its,r,p⟩
theorem znw {X:Cx}{pins:List (Addr×Obj)}{σ:St}{H:Hp}{s:Shared}{a:Addr}{xs ys:List V}{b:Bool}(I:Inv X pins σ H s)(h:SqV b X.K H a xs)(h':SqV b X.K H a ys):xs=ys:=by
 cases b
 ·exact I.list_inj h h'
 ·exact I.tuple_inj h h'
section
variable {prog:Program}{w:World}{A:Around}{E:Value->Shared->Prop}{s:Shared}
theorem zdR {k:Bool}{it t:Addr}{i:Nat}{items:Array Value}{x:Value}{Q:Value->Shared->Prop}(hit:ItH k s.heap it t i)(ht:SqH k s.heap t items)(hx:items[i]?=some x)
  (hQ:∀ h',ItH k h' it t (i+1)->Heap.SameBut it s.heap h'->Q x { s with heap:=h' }):wpAny (model prog w) A (Builtin.SmallTypes.nextOf (.ref it)) Q E s:=by
 cases k
 ·exact wpAny_nextOf_list_item hit ht hx hQ
 ·exact yd hit ht hx hQ
theorem ze0 {k:Bool}{it t:Addr}{i:Nat}{items:Array Value}{Q:Value->Shared->Prop}(hh:A.handled=none)(hit:ItH k s.heap it t i)(ht:SqH k s.heap t items)(hx:items[i]?=none)
  (hE:∀ h' e,Heap.ExtBut it s.heap h'->(∃ o,h'.get? e=some o/\o.cls = .type "StopIteration")->E (.ref e) { s with heap:=h' }):wpAny (model prog w) A (Builtin.SmallTypes.nextOf (.ref it)) Q E s:=by
 cases k
 ·exact wpAny_nextOf_list_end hh hit ht hx hE
 ·exact yn hh hit ht hx hE
theorem znx {k:Bool}{l:Addr}{items:Array Value}{Q:Value->Shared->Prop}(h:SqH k s.heap l items)(hQ:Q (.ref s.heap.objs.size) { s with heap:=s.heap.push { cls:=.type (nmI k),data:=.fields #[.ref l,.int 0 0] } }):wpAny (model prog w) A (pyIter (.ref l)) Q E s:=by
 cases k
 ·exact wpAny_pyIter_list h hQ
 ·exact wpAny_pyIter_tuple h hQ
theorem zaB {kb:Bool}{z TI TO i1 i2 t1 t2:Addr}{k1 k2:Nat}{xs ys:Array Value}{x y a b:Value}{Q:Value->Shared->Prop}(D:ZipApart z TI TO i1 i2 t1 t2)
  (hz:IsZip s.heap z TI TO .none) (hTI:IsPair s.heap TI (.ref i1) (.ref i2)) (hTO:IsPair s.heap TO a b) (h1:ItH kb s.heap i1 t1 k1) (h2:s.heap.IsTupleIter i2 t2 k2)
  (hx:SqH kb s.heap t1 xs) (hy:s.heap.IsTuple t2 ys) (ex:xs[k1]?=some x) (ey:ys[k2]?=some y)
  (hQ:∀ h',IsZip h' z TI TO (rawInt s.heap.objs.size)->IsPair h' TO x y->ItH kb h' i1 t1 (k1+1)->h'.IsTupleIter i2 t2 (k2+1)->IsPair h' s.heap.objs.size x y->h'.objs.size=s.heap.objs.size+1->
   (∀ c o,c≠z->c≠TO->c≠i1->c≠i2->s.heap.get? c=some o->h'.get? c=some o)->Q (.ref s.heap.objs.size) { s with heap:=h' }) :
  wpAny (model prog w) A (Builtin.«zip.__next__» ⟨[.ref z],[]⟩) (fun fin s'=>∃ v,fin = .done (.ret v)/\Q v s') E s:=by
 show wpAny _ _ (field (.ref z) 2 >>= _) _ _ s
 refine wpAny_bind (wpAny_field hz rfl (x:=.bool false) rfl ?_)
 show wpAny _ _ (field (.ref z) 3 >>= _) _ _ s
 refine wpAny_bind (wpAny_field hz rfl (x:=.ref TI) rfl ?_)
 show wpAny _ _ (seqItems? (.ref TI) >>= _) _ _ s
 refine wpAny_bind (wpAny_seqItems hTI rfl ?_)
 show wpAny _ _ (Builtin.SmallTypes.ownedTupleIsFree (.ref z) >>= _) _ _ s
 refine wpAny_bind ?_
 show wpAny _ _ (field (.ref z) 0 >>= _) _ _ s
 refine wpAny_bind (wpAny_field hz rfl (x:=.none) rfl ?_)
 refine wpAny_pure ?_
 show wpAny _ _ (rule "zip.__next__.owned-tuple-again" >>= _) _ _ s
 refine wpAny_bind (wpAny_rule ?_)
 show wpAny _ _ (field (.ref z) 4 >>= _) _ _ s
 refine wpAny_bind (wpAny_field hz rfl (x:=.ref TO) rfl ?_)
 show wpAny _ _ (setField (.ref z) 0 .ellipsis >>= _) _ _ s
 refine wpAny_bind (wpAny_setField hz rfl (by simp) ?_)
 have hz1:(s.heap.update z (Obj.mapFields fun x=>x.setIfInBounds 0 Value.ellipsis)).get? z=some { cls:=.type "zip",data:=.fields #[.ellipsis,.bool false,.bool false,.ref TI,.ref TO] }:=Heap.get?_update_self _ hz rfl
 have ko1:∀ c,c≠z->(s.heap.update z (Obj.mapFields fun x=>x.setIfInBounds 0 Value.ellipsis)).get? c=s.heap.get? c:=fun c hc=>Heap.get?_update_other _ _ (Ne.symm hc)
 have zs1:(s.heap.update z (Obj.mapFields fun x=>x.setIfInBounds 0 Value.ellipsis)).objs.size=s.heap.objs.size:=by simp [Heap.update]
 generalize s.heap.update z (Obj.mapFields fun x=>x.setIfInBounds 0 Value.ellipsis)=H1 at hz1 ko1 zs1
 show wpAny _ _ (forIn ([(Value.ref i1,0),(Value.ref i2,1)]:List (Value×Nat)) ((none,()):Option PySem.Fin×Unit) _ >>= _) _ _ _
 rw [List.forIn_cons]
 refine wpAny_bind (wpAny_bind ?_)
 refine wpAny_bind (wpAny_onRaise ?_)
 show wpAny _ _ (if (Value.bool false==Value.bool true)=true then _ else (Builtin.SmallTypes.nextOf (.ref i1) >>= fun x=>pure (some x))) _ _ _
 rw [if_neg (by decide)]
 have h1':ItH kb H1 i1 t1 k1:=by obtain ⟨o,ho,r⟩:=h1;exact ⟨o,(ko1 _ D.i1z).trans ho,r⟩
 have hx':SqH kb H1 t1 xs:=by obtain ⟨o,ho,r⟩:=hx;exact ⟨o,(ko1 _ D.l1z).trans ho,r⟩
 refine wpAny_bind (zdR (s:={ s with heap:=H1 }) h1' hx' ex fun H2 hit2 sb2=>?_)
 refine wpAny_pure ?_
 have ko2:∀ c,c≠i1->H2.get? c=H1.get? c:=fun c hc=>sb2.2 c hc
 have hTO2:IsPair H2 TO a b:=(ko2 _ D.TOi1).trans ((ko1 _ D.TOz).trans hTO)
 show wpAny _ _ (seqItems? (.ref TO) >>= _) _ _ _
 refine wpAny_bind (wpAny_seqItems (s:={ s with heap:=H2 }) hTO2 rfl ?_)
 refine wpAny_bind (wpAny_updateSeq_pair (s:={ s with heap:=H2 }) hTO2 fun H3 hTO3 sb3=>?_)
 refine wpAny_bind (wpAny_letGo ?_)
 refine wpAny_pure ?_
 have hTO3':IsPair H3 TO x b:=hTO3
 have ko3:∀ c,c≠TO->H3.get? c=H2.get? c:=fun c hc=>sb3.2 c hc
 show wpAny _ _ (forIn ([(Value.ref i2,1)]:List (Value×Nat)) ((none,()):Option PySem.Fin×Unit) _) _ _ _
 rw [List.forIn_cons]
 refine wpAny_bind ?_
 refine wpAny_bind (wpAny_onRaise ?_)
 show wpAny _ _ (if (Value.bool false==Value.bool true)=true then _ else (Builtin.SmallTypes.nextOf (.ref i2) >>= fun x=>pure (some x))) _ _ _
 rw [if_neg (by decide)]
 have h2':H3.IsTupleIter i2 t2 k2:=by obtain ⟨o,ho,r⟩:=h2;exact ⟨o,(ko3 _ (Ne.symm D.TOi2)).trans ((ko2 _ (Ne.symm D.i12)).trans ((ko1 _ D.i2z).trans ho)),r⟩
 have hy':H3.IsTuple t2 ys:=by obtain ⟨o,ho,r⟩:=hy;exact ⟨o,(ko3 _ D.l2TO).trans ((ko2 _ D.l2i1).trans ((ko1 _ D.l2z).trans ho)),r⟩
 refine wpAny_bind (yd (s:={ s with heap:=H3 }) h2' hy' ey fun H4 hit4 sb4=>?_)
 refine wpAny_pure ?_
 have ko4:∀ c,c≠i2->H4.get? c=H3.get? c:=fun c hc=>sb4.2 c hc
 have hTO4:IsPair H4 TO x b:=(ko4 _ D.TOi2).trans hTO3'
 show wpAny _ _ (seqItems? (.ref TO) >>= _) _ _ _
 refine wpAny_bind (wpAny_seqItems (s:={ s with heap:=H4 }) hTO4 rfl ?_)
 refine wpAny_bind (wpAny_updateSeq_pair (s:={ s with heap:=H4 }) hTO4 fun H5 hTO5 sb5=>?_)
 refine wpAny_bind (wpAny_letGo ?_)
 refine wpAny_pure ?_
 have hTO5':IsPair H5 TO x y:=hTO5
 have ko5:∀ c,c≠TO->H5.get? c=H4.get? c:=fun c hc=>sb5.2 c hc
 show wpAny _ _ (forIn ([]:List (Value×Nat)) ((none,()):Option PySem.Fin×Unit) _) _ _ _
 rw [List.forIn_nil]
 refine wpAny_pure ?_
 show wpAny _ _ (seqItems? (.ref TO) >>= _) _ _ _
 refine wpAny_bind (wpAny_seqItems (s:={ s with heap:=H5 }) hTO5' rfl ?_)
 refine wpAny_bind (wpAny_newTuple ?_ (by show 2<=sizeLine;decide))
 have sz5:H5.objs.size=s.heap.objs.size:=sb5.1.trans (sb4.1.trans (sb3.1.trans (sb2.1.trans zs1)))
 have ko:∀ c o,c≠z->c≠TO->c≠i1->c≠i2->s.heap.get? c=some o->H5.get? c=some o:=fun c o c1 c2 c3 c4 e=>(ko5 _ c2).trans ((ko4 _ c4).trans ((ko3 _ c2).trans ((ko2 _ c3).trans ((ko1 _ c1).trans e))))
 have hz5:H5.get? z=some { cls:=.type "zip",data:=.fields #[.ellipsis,.bool false,.bool false,.ref TI,.ref TO] }:=(ko5 _ (Ne.symm D.TOz)).trans ((ko4 _ (Ne.symm D.i2z)).trans ((ko3 _ (Ne.symm D.TOz)).trans ((ko2 _ (Ne.symm D.i1z)).trans hz1)))
 have hnew:=Heap.get?_push_size H5 (o:={ cls:=.type "tuple",data:=.seq #[x,y] }) rfl
 show wpAny _ _ (Builtin.SmallTypes.ownedTupleHandOut (.ref z) (.ref H5.objs.size) >>= _) _ _ { s with heap:=H5.push { cls:=.type "tuple",data:=.seq #[x,y] } }
 have ko6:∀ c o,H5.get? c=some o->(H5.push { cls:=.type "tuple",data:=.seq #[x,y] }).get? c=some o:=fun c o e=>Heap.get?_push_of_some _ e
 have sz6:(H5.push { cls:=.type "tuple",data:=.seq #[x,y] }).objs.size=s.heap.objs.size+1:=by rw [Heap.size_push,sz5]
 rw [sz5] at hnew ⊢
 generalize H5.push { cls:=.type "tuple",data:=.seq #[x,y] }=H6 at hnew ko6 sz6
 have hz6:=ko6 _ _ hz5
 refine wpAny_bind ?_
 show wpAny _ _ (setField (.ref z) 0 (rawInt s.heap.objs.size) >>= _) _ _ { s with heap:=H6 }
 refine wpAny_bind (wpAny_setField hz6 rfl (by simp) ?_)
 have hz7:(H6.update z (Obj.mapFields fun x=>x.setIfInBounds 0 (rawInt s.heap.objs.size))).get? z=some { cls:=.type "zip",data:=.fields #[rawInt s.heap.objs.size,.bool false,.bool false,.ref TI,.ref TO] }:=Heap.get?_update_self _ hz6 rfl
 have ko7:∀ c,c≠z->(H6.update z (Obj.mapFields fun x=>x.setIfInBounds 0 (rawInt s.heap.objs.size))).get? c=H6.get? c:=fun c hc=>Heap.get?_update_other _ _ (Ne.symm hc)
 have sz7:(H6.update z (Obj.mapFields fun x=>x.setIfInBounds 0 (rawInt s.heap.objs.size))).objs.size=H6.objs.size:=by simp [Heap.update]
 generalize H6.update z (Obj.mapFields fun x=>x.setIfInBounds 0 (rawInt s.heap.objs.size))=H7 at hz7 ko7 sz7
 refine wpAny_setField (s:={ s with heap:=H7 }) hz7 rfl (by simp) ?_
 have hz8:(H7.update z (Obj.mapFields fun x=>x.setIfInBounds 1 (Value.bool false))).get? z=some { cls:=.type "zip",data:=.fields #[rawInt s.heap.objs.size,.bool false,.bool false,.ref TI,.ref TO] }:=Heap.get?_update_self _ hz7 rfl
 have ko8:∀ c,c≠z->(H7.update z (Obj.mapFields fun x=>x.setIfInBounds 1 (Value.bool false))).get? c=H7.get? c:=fun c hc=>Heap.get?_update_other _ _ (Ne.symm hc)
 have sz8:(H7.update z (Obj.mapFields fun x=>x.setIfInBounds 1 (Value.bool false))).objs.size=H7.objs.size:=by simp [Heap.update]
 generalize H7.update z (Obj.mapFields fun x=>x.setIfInBounds 1 (Value.bool false))=H8 at hz8 ko8 sz8
 have kk:∀ c o,c≠z->H5.get? c=some o->H8.get? c=some o:=fun c o hc e=>(ko8 _ hc).trans ((ko7 _ hc).trans (ko6 _ _ e))
 have hzlt:=Heap.lt_size hz
 refine wpAny_pure ⟨_,rfl,hQ H8 hz8 (kk _ _ D.TOz hTO5') ?_ ?_ ?_ (by rw [sz8,sz7,sz6]) fun c o c1 c2 c3 c4 e=>kk _ _ c1 (ko c o c1 c2 c3 c4 e)⟩
 ·obtain ⟨o,ho,r⟩:=hit2
  exact ⟨o,kk _ _ D.i1z ((ko5 _ (Ne.symm D.TOi1)).trans ((ko4 _ D.i12).trans ((ko3 _ (Ne.symm D.TOi1)).trans ho))),r⟩
 ·obtain ⟨o,ho,r⟩:=hit4
  exact ⟨o,kk _ _ D.i2z ((ko5 _ (Ne.symm D.TOi2)).trans ho),r⟩
 ·exact (ko8 _ (Nat.ne_of_gt hzlt)).trans ((ko7 _ (Nat.ne_of_gt hzlt)).trans hnew)
theorem zbr {kb:Bool}{z TI TO i1 i2 t1 t2:Addr}{k1:Nat}{xs:Array Value}{Q:PySem.Fin->Shared->Prop}(D:ZipApart z TI TO i1 i2 t1 t2)(hh:A.handled=none)
  (hz:IsZip s.heap z TI TO .none) (hTI:IsPair s.heap TI (.ref i1) (.ref i2)) (h1:ItH kb s.heap i1 t1 k1) (hx:SqH kb s.heap t1 xs) (ex:xs[k1]?=none)
  (hE:∀ h' e,(∀ c o,c≠z->c≠i1->s.heap.get? c=some o->h'.get? c=some o)->(∃ o,h'.get? e=some o/\o.cls = .type "StopIteration")->E (.ref e) { s with heap:=h' }) :
  wpAny (model prog w) A (Builtin.«zip.__next__» ⟨[.ref z],[]⟩) Q E s:=by
 show wpAny _ _ (field (.ref z) 2 >>= _) _ _ s
 refine wpAny_bind (wpAny_field hz rfl (x:=.bool false) rfl ?_)
 show wpAny _ _ (field (.ref z) 3 >>= _) _ _ s
 refine wpAny_bind (wpAny_field hz rfl (x:=.ref TI) rfl ?_)
 show wpAny _ _ (seqItems? (.ref TI) >>= _) _ _ s
 refine wpAny_bind (wpAny_seqItems hTI rfl ?_)
 show wpAny _ _ (Builtin.SmallTypes.ownedTupleIsFree (.ref z) >>= _) _ _ s
 refine wpAny_bind ?_
 show wpAny _ _ (field (.ref z) 0 >>= _) _ _ s
 refine wpAny_bind (wpAny_field hz rfl (x:=.none) rfl ?_)
 refine wpAny_pure ?_
 show wpAny _ _ (rule "zip.__next__.owned-tuple-again" >>= _) _ _ s
 refine wpAny_bind (wpAny_rule ?_)
 show wpAny _ _ (field (.ref z) 4 >>= _) _ _ s
 refine wpAny_bind (wpAny_field hz rfl (x:=.ref TO) rfl ?_)
 show wpAny _ _ (setField (.ref z) 0 .ellipsis >>= _) _ _ s
 refine wpAny_bind (wpAny_setField hz rfl (by simp) ?_)
 have hz1:(s.heap.update z (Obj.mapFields fun x=>x.setIfInBounds 0 Value.ellipsis)).get? z=some { cls:=.type "zip",data:=.fields #[.ellipsis,.bool false,.bool false,.ref TI,.ref TO] }:=Heap.get?_update_self _ hz rfl
 have ko1:∀ c,c≠z->(s.heap.update z (Obj.mapFields fun x=>x.setIfInBounds 0 Value.ellipsis)).get? c=s.heap.get? c:=fun c hc=>Heap.get?_update_other _ _ (Ne.symm hc)
 generalize s.heap.update z (Obj.mapFields fun x=>x.setIfInBounds 0 Value.ellipsis)=H1 at hz1 ko1
 show wpAny _ _ (forIn ([(Value.ref i1,0),(Value.ref i2,1)]:List (Value×Nat)) ((none,()):Option PySem.Fin×Unit) _ >>= _) _ _ _
 rw [List.forIn_cons]
 refine wpAny_bind (wpAny_bind ?_)
 refine wpAny_bind (wpAny_onRaise ?_)
 show wpAny _ _ (if (Value.bool false==Value.bool true)=true then _ else (Builtin.SmallTypes.nextOf (.ref i1) >>= fun x=>pure (some x))) _ _ _
 rw [if_neg (by decide)]
 have h1':ItH kb H1 i1 t1 k1:=by obtain ⟨o,ho,r⟩:=h1;exact ⟨o,(ko1 _ D.i1z).trans ho,r⟩
 have hx':SqH kb H1 t1 xs:=by obtain ⟨o,ho,r⟩:=hx;exact ⟨o,(ko1 _ D.l1z).trans ho,r⟩
 refine wpAny_bind (ze0 (s:={ s with heap:=H1 }) hh h1' hx' ex fun H2 e eb he=>?_)
 have hz2:=eb z _ (Ne.symm D.i1z) hz1
 refine wpAny_setField (s:={ s with heap:=H2 }) hz2 rfl (by simp) ?_
 have hez:e≠z:=by
  grind
 refine hE _ e (fun c o c1 c2 e1=>?_) ?_
 ·exact (Heap.get?_update_other _ _ (Ne.symm c1)).trans (eb c o c2 ((ko1 _ c1).trans e1))
 ·obtain ⟨o,ho,hc⟩:=he
  exact ⟨o,(Heap.get?_update_other _ _ (Ne.symm hez)).trans ho,hc⟩
def zdz (kb:Bool)(h:Heap)(l1 l2:Addr):Heap:=
 ((((h.push { cls:=.type (nmI kb),data:=.fields #[.ref l1,.int 0 0] }).push { cls:=.type "tuple_iterator",data:=.fields #[.ref l2,.int 0 0] }).push { cls:=.type "tuple",data:=.seq #[.ref h.objs.size,.ref (h.objs.size+1)] }).push { cls:=.type "tuple",data:=.seq #[.none,.none] }).push
  { cls:=.type "zip",data:=.fields #[.none,.bool false,.bool false,.ref (h.objs.size+2),.ref (h.objs.size+3)] }
theorem zaw (kb:Bool)(l1 l2:Addr)(xs ys:Array Value) :
  Meets (Builtin.«zip.__new__» ⟨[.type "zip",.ref l1,.ref l2],[]⟩) (fun _ R s=>SqH kb s.heap l1 xs/\s.heap.IsTuple l2 ys/\R (.ok (.ret (.ref (s.heap.objs.size+4)))) { s with heap:=zdz kb s.heap l1 l2 }):=
 .of_wp fun prog w A R s h=>by
  obtain ⟨hp,g,d,tk,os⟩:=s;obtain ⟨h1,h2,h⟩:=h
  have hsub:=sub_zip
  have h2':Heap.IsTuple (Shared.heap ⟨hp.push { cls:=.type (nmI kb),data:=.fields #[.ref l1,.int 0 0] },g,d,tk,os⟩) l2 ys:=by
   obtain ⟨o,ho,r⟩:=h2
   exact ⟨o,Heap.get?_push_of_some _ ho,r⟩
  wp_walk using znx h1,wpAny_pyIter_tuple h2'
  refine ⟨_,rfl,?_⟩
  unfold zdz at h
  simpa [Heap.size_push,Builtin.SmallTypes.ownedTupleFields] using h
theorem zea {kb:Bool}{l1 l2:Addr}{xs ys:Array Value}{Q:Value->Shared->Prop}(h1:SqH kb s.heap l1 xs)(h2:s.heap.IsTuple l2 ys)
  (h:∀ h',IsZip h' (s.heap.objs.size+4) (s.heap.objs.size+2) (s.heap.objs.size+3) .none->IsPair h' (s.heap.objs.size+2) (.ref s.heap.objs.size) (.ref (s.heap.objs.size+1))->IsPair h' (s.heap.objs.size+3) .none .none->
   ItH kb h' s.heap.objs.size l1 0->h'.IsTupleIter (s.heap.objs.size+1) l2 0->h'.objs.size=s.heap.objs.size+5->(∀ b o,s.heap.get? b=some o->h'.get? b=some o)->Q (.ref (s.heap.objs.size+4)) { s with heap:=h' }) :
  wpAny (model prog w) A (call (.type "zip") [.ref l1,.ref l2]) Q E s:=by
 refine callType_new F.called_zip (by decide) (F.typeCall_zip_2 _ _) (F.newCall_zip_2 _ _) (fun obj=>F.args_object_init_3 obj _ _) F.entry_zip_new (zaw kb l1 l2 xs ys) ⟨h1,h2,?_⟩
 generalize ho0:({ cls:=.type (nmI kb),data:=.fields #[.ref l1,.int 0 0] }:Obj)=o0
 have z1:∀ o,(s.heap.push o).objs.size=s.heap.objs.size+1:=fun o=>Heap.size_push ..
 have z2:∀ o o',((s.heap.push o).push o').objs.size=s.heap.objs.size+2:=fun o o'=>by rw [Heap.size_push,z1]
 have z3:∀ o o' o'',(((s.heap.push o).push o').push o'').objs.size=s.heap.objs.size+3:=fun o o' o''=>by rw [Heap.size_push,z2]
 have z4:∀ o o' o'' p,((((s.heap.push o).push o').push o'').push p).objs.size=s.heap.objs.size+4:=fun o o' o'' p=>by rw [Heap.size_push,z3]
 have gz:(zdz kb s.heap l1 l2).get? (s.heap.objs.size+4)=some { cls:=.type "zip",data:=.fields #[.none,.bool false,.bool false,.ref (s.heap.objs.size+2),.ref (s.heap.objs.size+3)] }:=by
  unfold zdz
  rw [<- z4]
  exact Heap.get?_push_size _ rfl
 have gTO:(zdz kb s.heap l1 l2).get? (s.heap.objs.size+3)=some { cls:=.type "tuple",data:=.seq #[.none,.none] }:=by
  unfold zdz
  refine Heap.get?_push_of_some _ ?_
  rw [<- z3]
  exact Heap.get?_push_size _ rfl
 have gTI:(zdz kb s.heap l1 l2).get? (s.heap.objs.size+2)=some { cls:=.type "tuple",data:=.seq #[.ref s.heap.objs.size,.ref (s.heap.objs.size+1)] }:=by
  unfold zdz
  refine Heap.get?_push_of_some _ (Heap.get?_push_of_some _ ?_)
  rw [<- z2]
  exact Heap.get?_push_size _ rfl
 have gi2:(zdz kb s.heap l1 l2).get? (s.heap.objs.size+1)=some { cls:=.type "tuple_iterator",data:=.fields #[.ref l2,.int 0 0] }:=by
  unfold zdz
  refine Heap.get?_push_of_some _ (Heap.get?_push_of_some _ (Heap.get?_push_of_some _ ?_))
  rw [<- z1]
  exact Heap.get?_push_size _ rfl
 have gi1:(zdz kb s.heap l1 l2).get? s.heap.objs.size=some { cls:=.type (nmI kb),data:=.fields #[.ref l1,.int 0 0] }:=by
  unfold zdz
  exact Heap.get?_push_of_some _ (Heap.get?_push_of_some _ (Heap.get?_push_of_some _ (Heap.get?_push_of_some _ (Heap.get?_push_size _ rfl))))
 refine ⟨⟨_,gz,rfl⟩,h _ gz gTI gTO ⟨_,gi1,rfl,rfl⟩ ⟨_,gi2,rfl,rfl⟩ ?_ fun b o x=>?_⟩
 ·unfold zdz
  rw [Heap.size_push,z4]
 ·unfold zdz
  exact Heap.get?_push_of_some _ (Heap.get?_push_of_some _ (Heap.get?_push_of_some _ (Heap.get?_push_of_some _ (Heap.get?_push_of_some _ x))))
end
def Izg (kb:Bool)(K:PySem.W.Frag)(a b:Addr):It:=
 ⟨fun i H=>∃ xs ys x y,SqV kb K H a xs/\SqT K H b ys/\xs[i]?=some x/\ys[i]?=some y,fun i H v H'=>∃ T x y,v = .ref T/\H T=none/\H'=upd H T (.tup [x,y])/\(∀ xs,SqV kb K H a xs->xs[i]?=some x)/\∀ ys,SqT K H b ys->ys[i]?=some y,fun i H=>∃ xs,SqV kb K H a xs/\xs.length<=i⟩
theorem zfE {kb:Bool}{P:Program}{w:World}{K:PySem.W.Frag}{elts:List Expr}{x1}{tpos:Pos}(z TI TO i1 i2 a b:Addr)(D:ZipApart z TI TO i1 i2 a b) :
  Turn P w K (.Tuple elts x1 tpos) (Izg kb K a b) [z,TI,TO,i1,i2] z (fun i h=>IsZip h z TI TO .none/\IsPair h TI (.ref i1) (.ref i2)/\(∃ c d,IsPair h TO c d)/\ItH kb h i1 a i/\h.IsTupleIter i2 b i) where
 mem:=by simp
 obj:=fun i h st c hc=>by
  obtain ⟨hz,hTI,⟨u,v,hTO⟩,⟨o1,e1,c1,d1⟩,⟨o2,e2,c2,d2⟩⟩:=st
  grind
 keep:=fun i h h' st k=>by
  obtain ⟨hz,hTI,⟨u,v,hTO⟩,⟨o1,e1,r1⟩,⟨o2,e2,r2⟩⟩:=st
  exact ⟨k z (by simp) _ hz,k TI (by simp) _ hTI,⟨u,v,k TO (by simp) _ hTO⟩,⟨o1,k i1 (by simp) _ e1,r1⟩,⟨o2,k i2 (by simp) _ e2,r2⟩⟩
 item:=by
  intro X hP hw hK hc i pins s σ H E I hf st hg
  subst hP hw hK
  obtain ⟨xs,ys,x,y,hq1,hq2,hx,hy⟩:=hg
  obtain ⟨its1,rv1,p1⟩:=zcP I hq1
  obtain ⟨its2,rv2,p2,hz2⟩:=I.tuple hq2
  obtain ⟨u1,hu1,ru1⟩:=rv1.get hx
  obtain ⟨u2,hu2,ru2⟩:=rv2.get hy
  have fz:=hf z (by simp)
  have fTO:=hf TO (by simp)
  have f1:=hf i1 (by simp)
  have f2:=hf i2 (by simp)
  obtain ⟨hz,hTI,⟨c0,d0,hTO⟩,hi1,hi2⟩:=st
  have hT:s.TypeIs (.ref z) "zip" := ⟨_,hz,rfl⟩
  unfold pyNext
  refine wpAny_bind (wpAny_attempt (wpAny_callSpecial?_slot (name:=Str.ofString "__next__") hT F.slot_zip_next
   (wpAny_call_entry F.slot_zip_next hT F.entry_zip_next (zaB (A:=X.A.in1) D hz hTI hTO hi1 hi2 p1 p2 (x:=u1) (y:=u2) (by simpa using hu1) (by simpa using hu2) fun h' gz gTO gi1 gi2 gT sz' hk=>?_) (F.args_zip_next_1 _))))
  refine wpAny_pure ⟨_,rfl,?_⟩
  refine wpAny_letOwnedTupleGo_zip (s:={ s with heap:=h' }) gz fun h'' gz'' hs''=>?_
  have nz:∀ b' o',s.heap.get? b'=some o'->s.heap.objs.size≠b':=fun b' o' e=>Nat.ne_of_gt (Heap.lt_size e)
  have hTz:s.heap.objs.size≠z:=nz z _ hz
  have hTTO:s.heap.objs.size≠TO:=nz TO _ hTO
  have hT1:s.heap.objs.size≠i1:=by obtain ⟨o,ho,_⟩:=hi1;exact nz i1 _ ho
  have hT2:s.heap.objs.size≠i2:=by obtain ⟨o,ho,_⟩:=hi2;exact nz i2 _ ho
  have hTTI:s.heap.objs.size≠TI:=nz TI _ hTI
  have hnone:=I.hok.fresh (Nat.le_refl s.heap.objs.size)
  have kp:∀ c o,c≠z->c≠TO->c≠i1->c≠i2->s.heap.get? c=some o->h''.get? c=some o:=fun c o h1 h2 h3 h4 hb=>(hs''.2 c h1).trans (hk c o h1 h2 h3 h4 hb)
  have hT'':h''.get? s.heap.objs.size=some { cls:=.type "tuple",data:=.seq #[u1,u2] }:=(hs''.2 _ hTz).trans gT
  have objK:∀ b' u',H b'=some u'->b'≠z/\b'≠TO/\b'≠i1/\b'≠i2:=fun b' u' hb=>⟨zb hb fz.1,zb hb fTO.1,zb hb f1.1,zb hb f2.1⟩
  have hok':HOk X.prog X.w (upd H s.heap.objs.size (.tup [x,y])) h'':=by
   intro b' u' hb
   by_cases hbT:b'=s.heap.objs.size
   ·subst hbT
    rw [zh] at hb
    cases hb
    exact ⟨by show 2<=sizeLine;decide,[u1,u2],.cons ru1 (.cons ru2 .nil),_,hT'',rfl,⟨0,rfl⟩,rfl⟩
   ·rw [zd hbT] at hb
    refine (I.hok b' u' hb).stay (fun c v hcv q=>?_) (fun c q=>?_) (fun c ys q=>?_)
    ·have:c≠z/\c≠TO/\c≠i1/\c≠i2:=by
      rcases hcv with rfl | hcv
      all_goals simp_all
     simp_all
    ·rw [zd (zb q hnone)];exact q
    ·rw [zd (zb q hnone)];exact q
  have kp':∀ c o,c∉[z,TO,i1,i2]->s.heap.get? c=some o->h''.get? c=some o:=fun c o hc e=>kp c o (fun q=>hc (by simp [q])) (fun q=>hc (by simp [q])) (fun q=>hc (by simp [q])) (fun q=>hc (by simp [q])) e
  have I1:Inv X pins σ (upd H s.heap.objs.size (.tup [x,y])) { s with heap:=h'',toks:=s.toks }:=by
   refine Inv.step (ch:=[z,TO,i1,i2]) (g':=s.gens) (d':=s.drawn) (t':=s.toks) I (fun c hc=>?_) (fun c o h1 h2 h3 h4 h5=>?_) (fun c o h1 h2 h3 h4 h5=>?_) (fun c o h3 h4 h5=>?_) (fun c o h3 h4=>?_) (fun c ys q=>?_) (fun c o u' q=>?_) (fun c ps q=>?_) (fun m hm=>?_) hok' I.bare
   ·simp only [List.mem_cons,List.not_mem_nil,or_false] at hc
    rcases hc with rfl | rfl | rfl | rfl
    ·exact ⟨fz.2.2.2.1,fz.2.1,fz.2.2.2.2.1,fz.2.2.2.2.2⟩
    ·exact ⟨fTO.2.2.2.1,fTO.2.1,fTO.2.2.2.2.1,fTO.2.2.2.2.2⟩
    ·exact ⟨f1.2.2.2.1,f1.2.1,f1.2.2.2.2.1,f1.2.2.2.2.2⟩
    ·exact ⟨f2.2.2.2.1,f2.2.1,f2.2.2.2.2.1,f2.2.2.2.2.2⟩
   ·exact kp' c o h3 h4
   ·exact ⟨o.slots,kp' c o h3 h4⟩
   ·rw [zd (Nat.ne_of_lt (Heap.lt_size h4))];exact h5
   ·exact ⟨o,kp' c o h3 h4⟩
   ·rw [zd (zb q hnone)];exact q
   ·rw [zd (zb q hnone)];exact q
   ·exact ⟨#[],by rw [zd (zb q hnone),Array.append_empty];exact q⟩
   ·obtain ⟨o,es,ep,ho1,r1⟩:=hm
    exact ⟨o,es,ep,kp _ o (Ne.symm fz.2.1) (Ne.symm fTO.2.1) (Ne.symm f1.2.1) (Ne.symm f2.2.1) ho1,r1⟩
  refine ⟨.ref s.heap.objs.size,_,I1,rfl,⟨s.heap.objs.size,x,y,rfl,hnone,rfl,fun zs hz'=>by rw [znw I hz' hq1];exact hx,fun zs hz'=>by rw [I.tuple_inj hz' hq2];exact hy⟩,⟨gz'',?_,⟨_,_,(hs''.2 TO D.TOz).trans gTO⟩,?_,?_⟩,fun c hc=>?_⟩
  ·exact kp TI _ D.TIz D.TITO D.TIi1 D.TIi2 hTI
  ·obtain ⟨o,ho,r⟩:=gi1
   exact ⟨o,(hs''.2 i1 D.i1z).trans ho,r⟩
  ·obtain ⟨o,ho,r⟩:=gi2
   exact ⟨o,(hs''.2 i2 D.i2z).trans ho,r⟩
  ·simp only [List.mem_cons,List.not_mem_nil,or_false] at hc
   rcases hc with rfl | rfl | rfl | rfl | rfl
   ·rw [zd (Ne.symm hTz)];exact fz.1
   ·rw [zd (Ne.symm hTTI)];exact (hf _ (by simp)).1
   ·rw [zd (Ne.symm hTTO)];exact fTO.1
   ·rw [zd (Ne.symm hT1)];exact f1.1
   ·rw [zd (Ne.symm hT2)];exact f2.1
 done:=by
  intro X hP hw hK hc i pins s σ H E I hf st hg
  subst hP hw hK
  obtain ⟨xs,hq,hx⟩:=hg
  obtain ⟨its,rv,p⟩:=zcP I hq
  have fz:=hf z (by simp)
  have f1:=hf i1 (by simp)
  obtain ⟨hz,hTI,⟨c0,d0,hTO⟩,hi1,hi2⟩:=st
  have hl:=rv.length
  have hT:s.TypeIs (.ref z) "zip" := ⟨_,hz,rfl⟩
  unfold pyNext
  refine wpAny_bind (wpAny_attempt (wpAny_callSpecial?_slot (name:=Str.ofString "__next__") hT F.slot_zip_next
   (wpAny_call_entry F.slot_zip_next hT F.entry_zip_next (zbr (A:=X.A.in1) D (I.ok.hd hc) hz hTI hi1 p (by simp;lia) fun h' e ko he=>?_) (F.args_zip_next_1 _))))
  obtain ⟨o,ho,hc'⟩:=he
  refine wpAny_bind (wpAny_isInstance (T := "StopIteration") (b:=true) ⟨o,ho,hc'⟩ isSubtype_stop ?_)
  refine wpAny_pure ⟨rfl,?_⟩
  have kp':∀ c o,c∉[z,i1]->s.heap.get? c=some o->h'.get? c=some o:=fun c o hc e=>ko c o (fun q=>hc (by simp [q])) (fun q=>hc (by simp [q])) e
  refine Inv.step (ch:=[z,i1]) (g':=s.gens) (d':=s.drawn) (t':=s.toks) I (fun c hc=>?_) (fun c o h1 h2 h3 h4 h5=>kp' c o h3 h4) (fun c o h1 h2 h3 h4 h5=>⟨o.slots,kp' c o h3 h4⟩) (fun c o h3 h4 h5=>h5) (fun c o h3 h4=>⟨o,kp' c o h3 h4⟩) (fun c ys q=>q) (fun c o u' q=>q) (fun c ps q=>⟨#[],by simp_all⟩) (fun m hm=>?_) (fun b' u' hb=>?_) I.bare
  ·simp only [List.mem_cons,List.not_mem_nil,or_false] at hc
   rcases hc with rfl | rfl
   ·exact ⟨fz.2.2.2.1,fz.2.1,fz.2.2.2.2.1,fz.2.2.2.2.2⟩
   ·exact ⟨f1.2.2.2.1,f1.2.1,f1.2.2.2.2.1,f1.2.2.2.2.2⟩
  ·obtain ⟨o,es,ep,ho1,r1⟩:=hm
   exact ⟨o,es,ep,ko _ o (Ne.symm fz.2.1) (Ne.symm f1.2.1) ho1,r1⟩
  ·refine (I.hok b' u' hb).stay (fun c v hcv q=>?_) (fun c q=>q) (fun c ys q=>q)
   have:c≠z/\c≠i1:=by
    rcases hcv with rfl | hcv
    ·exact ⟨zb hb fz.1,zb hb f1.1⟩
    ·exact ⟨zb hcv fz.1,zb hcv f1.1⟩
   exact ko c v this.1 this.2 q
 self:=fun A i s Q E st h=>by
  obtain ⟨hz,_⟩:=st
  exact wpAny_pyIter_zip hz h
def zkA (kb:Bool)(K:PySem.W.Frag)(ta:TA):TI:=fun σ H R=>ta σ H fun vs H1=>∃ a b,vs=[.ref a,.ref b]/\(∃ xs,SqV kb K H1 a xs)/\(∃ ys,SqT K H1 b ys)/\R (Izg kb K a b) H1
theorem zje (kb:Bool){X:Cx}{elts:List Expr}{x1}{tpos:Pos}{a b:Expr}{ta:TA}{p pos:Pos}(hg:Gl X "zip")(hm:X.mg "zip" = none)(ha:PA X [a,b] ta)(hs:starEach [a,b] X.env=[(false,eval a X.env),(false,eval b X.env)]:=by rfl)(hs2:starEach [b] X.env=[(false,eval b X.env)]:=by rfl) :
  PI X (.Tuple elts x1 tpos) (.Call (.Name "zip" p) [a,b] [] pos) (zkA kb X.K ta):=by
 intro pins s σ H R I h
 refine Call_ (uX I hg hm boot_zip (PyProof.Rows.callWith_type1 (thn (ha pos pins s σ H _ I h) fun us s1 ⟨vs,H1,I1,r1,q1⟩=>?_) (by rw [hs,hs2]) (by rw [hs2];rfl)))
 obtain ⟨c,d,e,⟨xs,hq1⟩,⟨ys,hq2⟩,q⟩:=q1
 subst e
 cases r1 with
 | cons r rr=>
  cases rr with
  | cons r' rr=>
   cases rr
   cases r
   cases r'
   obtain ⟨its1,rv1,p1⟩:=zcP I1 hq1
   obtain ⟨its2,rv2,p2,hz2⟩:=I1.tuple hq2
   have lt1:c<s1.heap.objs.size:=by obtain ⟨o,ho,_⟩:=id p1;exact Heap.lt_size ho
   have lt2:d<s1.heap.objs.size:=by obtain ⟨o,ho,_⟩:=id p2;exact Heap.lt_size ho
   refine zea p1 (show s1.heap.IsTuple d its2.toArray from p2) fun h' gz gTI gTO gi1 gi2 hsz hk=>?_
   have I2:Inv X pins σ H1 { s1 with heap:=h',toks:=s1.toks }:=I1.kept (t':=s1.toks) hk
   refine wpAny_pyIter_zip gz ?_
   refine ⟨s1.heap.objs.size+4,[s1.heap.objs.size+4,s1.heap.objs.size+2,s1.heap.objs.size+3,s1.heap.objs.size,s1.heap.objs.size+1],_,_,H1,rfl,I2,zfE _ _ _ _ _ c d (zipApart_new lt1 lt2),⟨gz,gTI,⟨_,_,gTO⟩,gi1,gi2⟩,fun e he=>?_,q⟩
   simp only [List.mem_cons,List.not_mem_nil,or_false] at he
   rcases he with rfl | rfl | rfl | rfl | rfl
   ·exact I1.fpOk (by lia) (I1.hok.fresh (by lia))
   ·exact I1.fpOk (by lia) (I1.hok.fresh (by lia))
   ·exact I1.fpOk (by lia) (I1.hok.fresh (by lia))
   ·exact I1.fpOk (Nat.le_refl _) (I1.hok.fresh (Nat.le_refl _))
   ·exact I1.fpOk (by lia) (I1.hok.fresh (by lia))
theorem zjA (kb:Bool){X:Cx}{elts:List Expr}{x1}{tpos:Pos}{a b:Expr}{ta:TA}{p pos:Pos}(hg:Gl X "zip")(hm:X.mg "zip" = none)(ha:QA X [a,b] ta)(hs:starEach [a,b] X.env=[(false,eval a X.env),(false,eval b X.env)]:=by rfl)(hs2:starEach [b] X.env=[(false,eval b X.env)]:=by rfl) :
  QI X (.Tuple elts x1 tpos) (.Call (.Name "zip" p) [a,b] [] pos) (zkA kb X.K ta):=⟨zje kb hg hm ha.run hs hs2⟩
section
variable {X:Cx}
def zjG:V->List V->Hp->VK->Prop:=fun x vs H Q=>∃ l xs k y,x = .ref l/\vs=[.int k,y]/\H l=some (.lst xs)/\0<=k/\k<=xs.length/\xs.length<sizeLine/\Q .non (upd H l (.lst (xs.take k.toNat++y::xs.drop k.toNat)))
theorem zeZ:MtM X "list.insert" zjG:=by
 intro pins s σ H x vs v us Q I rx rv h
 obtain ⟨l,xs,k,y,rfl,rfl,hH,h0,h1,hz,q⟩:=h
 cases rx
 cases rv with
 | cons r1 rr=>
  cases rr with
  | cons r2 rn=>
   cases rn
   obtain ⟨t,rfl⟩:=r1
   obtain ⟨z,its,n,r,hl,e⟩:=I.lstM hH
   have hk:k<2 ^ 63:=by
    have:(xs.length:Int)<=2 ^ 40:=by
     have h2:xs.length<=2 ^ 40:=Nat.le_trans (Nat.le_of_lt hz) (by decide)
     lia
    lia
   refine call_meets PySem.F.slot_list_insert ⟨_,e,rfl⟩ PySem.F.entry_list_insert (PySem.F.args_list_insert_3 _ _ _)
    (AutoSeq1.list_insert_list_int_val_1 l its.toArray n k t _ (by rw [fitsIndex_both (by lia) hk];decide) (by grind)) ⟨e,?_⟩
   refine ⟨.non,_,I.lset (its':=its.take k.toNat++_::its.drop k.toNat) hH e ?_ ((r.take _).append (.cons r2 (r.drop _))) ?_,rfl,q⟩
   ·show (its.toArray.extract 0 (if k<0 then (k+(its.toArray.size:Int)).toNat else min k.toNat its.toArray.size)).push _++its.toArray.extract (if k<0 then (k+(its.toArray.size:Int)).toNat else min k.toNat its.toArray.size)=_
    rw [if_neg (by lia),List.size_toArray,Nat.min_eq_left (by lia)]
    apply Array.toList_inj.mp
    simp
    rw [List.take_of_length_le (by simp)]
   ·grind
theorem zhu {T:String}{name:Str}{id:String}{r:V->List V->Hp->VK->Prop}{o e:Expr}{es:List Expr}{to:TE}{t:TA}{apos cpos:Pos}(pa:PlainAttrs T)(slot:Slot T name id)(hty:typeOf (.builtin id)=pure (.type "method_descriptor"))(hm:MtR X id r)(ho:QE X o to)(ha:QA X (e::es) t)
  (hbase:attributeBase o name X.env (eval o X.env)=eval o X.env:=by rfl)
  (hfew:((backTo cpos (starEach (e::es) X.env)).all (fun x=>!x.1)&&(backToKw cpos (keywordEach [] X.env)).all (fun x=>x.1.isSome)
   && decide ((e::es).length+([]:List Keyword).length+(if ([]:List Keyword).isEmpty then 0 else 1)<30))=true:=by rfl)
  (hline:(apos.endLine==cpos.line)=true:=by rfl) (hs:starEach (e::es) X.env=(false,eval e X.env)::starEach es X.env:=by rfl) (hplain:(backTo cpos (starEach es X.env)).any (·.1)=false:=by rfl) :
  QE X (.Call (.Attribute o name apos) (e::es) [] cpos) (tBM X.K T r to t):=⟨zlj pa slot hty hm ho.run ha.run hbase hfew hline hs hplain⟩
end
end L2
namespace L3
open PySem L2
abbrev zmY:=Addr×Addr×List Int
@[reducible] def imm:HO->Bool
 | .lst _=>false
 | .dK _=>false
 | .dT _=>false
 | .ext _=>false
 | _=>true
def Mt (o:HO):Prop:=imm o=false
theorem Mt.tup {o:HO}(h:Mt o):∀ xs,o≠.tup xs:=fun _ e=>by subst e;cases h
def NP (o:HO):Prop:=∀ kvs,pnK o=some kvs->uH kvs (Sum.inr "at" : Key)=none
theorem NP.lst {xs:List V}:NP (.lst xs):=fun _ e=>by cases e
structure Jv where
 K:(Addr->Prop)->Hp->Prop
 same:∀ {A:Addr->Prop} {H H':Hp},K A H->yk H H'->K A H'
 grow:∀ {A A':Addr->Prop} {H:Hp},K A' H->(∀ a,A a->A' a\/∃ o,H a=some o/\NP o/\Mt o)->K A H
 upd:∀ {A:Addr->Prop} {H:Hp} {p:Addr} {o:HO},K A H->A p->K A (L2.upd H p o)
 frz:∀ {A:Addr->Prop} {H:Hp} {p:Addr} {o o':HO},K A H->H p=some o->NP o->Mt o->K A (L2.upd H p o')
structure PN where
 pn:Option zmY
 J:Jv
def J0:Jv:=⟨fun _ _=>True,fun _ _=>trivial,fun _ _=>trivial,fun _ _=>trivial,fun _ _ _ _=>trivial⟩
inductive W where
 | d (x:Dt) | pen (p:Addr) | dk (kvs:List (Key×Dt)) | dt (kvs:List (List Int×Dt)) | ss (P:Program) (w:World) (ks:List (List Int)) | df (kvs:List (List Int×Dt)) | kf (kvs:List (Key×Dt)) | fl (l:List Dt) | ad (a:Addr) (x:Dt) | tz (kvs:List (List Int×Dt)) (x:Dt)
abbrev Mo (α:Type):=Nat->(α->Nat->Prop)->Prop
abbrev Ev:=List (Option W)
open Classical in
noncomputable def zM (A:Addr->Prop)(H:Hp):Hp:=fun b=>if A b then none else H b
section
variable {A A0:Addr->Prop}{H H' G G' T T':Hp}{a b:Addr}{o:HO}
theorem zO:zM A H b=some o↔¬ A b/\H b=some o:=by
 unfold zM
 grind
theorem zm (h:¬ A b)(e:H b=some o):zM A H b=some o:=zO.mpr ⟨h,e⟩
theorem zj:yk (zM A H) H:=fun b o e=>(zO.mp e).2
theorem zP (s:zn H H'):zn (zM A H) (zM A H'):=fun b o e n=>zm (zO.mp e).1 (s b o (zO.mp e).2 n)
theorem y9 (s:yk H H'):yk (zM A H) (zM A H'):=fun b o e=>zm (zO.mp e).1 (s b o (zO.mp e).2)
theorem yh (h:∀ b,A0 b->A b):yk (zM A H) (zM A0 H):=fun b o e=>zm (fun z=>(zO.mp e).1 (h b z)) (zO.mp e).2
theorem yC (h:A a):zM A (upd H a o)=zM A H:=by
 funext b
 unfold zM
 by_cases hb:A b
 ·simp [hb]
 ·have:b≠a:=fun e=>hb (e ▸ h)
  simp [hb,zd this]
end
def DAt (T G:Hp):Dt->V->Prop
 | .lst l,v=>∃ a xs,v = .ref a/\T a=some (.lst xs)/\IsL G l xs
 | .dct,v=>∃ a kvs,v = .ref a/\T a=some (.dK kvs)/\kvs=[]
 | .non,v=>Is G .non v
 | .bl b,v=>Is G (.bl b) v
 | .int i,v=>Is G (.int i) v
 | .str x,v=>Is G (.str x) v
 | .tup l,v=>Is G (.tup l) v
theorem DAt.is {G:Hp}{x:Dt}{v:V}(h:DAt G G x v):Is G x v:=by cases x <;> exact h
theorem DAt.of {G:Hp}{x:Dt}{v:V}(h:Is G x v):DAt G G x v:=by cases x <;> exact h
theorem DAt.up {T T' G G':Hp}{x:Dt}{v:V}(t:zn T T')(g:zn G G')(h:DAt T G x v):DAt T' G' x v:=by
 cases x with
 | lst l=>obtain ⟨a,xs,e,h1,h2⟩:=h;exact ⟨a,xs,e,t.lst h1,h2.stay g⟩
 | dct=>obtain ⟨a,kvs,e,h1,h2⟩:=h;exact ⟨a,kvs,e,t _ _ h1 fun k q=>by cases q;subst h2;rfl,h2⟩
 | _=>exact Is.stay g h
theorem DAt.full {T G H:Hp}{x:Dt}{v:V}(t:yk T H)(g:yk G H)(h:DAt T G x v):Is H x v:=(DAt.up (zn.same t) (zn.same g) h).is
def zcc {κ:Type}(G:Hp):List (κ×Dt)->List (κ×V)->Prop
 | [],ks=>ks=[]
 | q::r,ks=>∃ v s,ks=(q.1,v)::s/\Is G q.2 v/\zcc G r s
theorem zcc.stay {κ:Type}{G G':Hp}(s:zn G G'):∀ {kvs:List (κ×Dt)} {ks:List (κ×V)},zcc G kvs ks->zcc G' kvs ks
 | [],_,h=>h
 | q::r,ks,⟨v,t,e,h1,h2⟩=>⟨v,t,e,h1.stay s,zcc.stay s h2⟩
def SIs (G:Hp)(ks:List (List Int))(xs:List (List Int×Addr)):Prop:=ks=xs.map (·.1)/\(∀ q∈xs,G q.2=some (.tup (q.1.map V.int)))/\ks.Nodup
theorem SIs.stay {G G':Hp}{ks:List (List Int)}{xs:List (List Int×Addr)}(h:SIs G ks xs)(s:zn G G'):SIs G' ks xs:=⟨h.1,fun q hq=>s _ _ (h.2.1 q hq) (fun _ e=>by cases e),h.2.2⟩
noncomputable def ziT (a:Addr)(H:Hp):Hp:=zM (fun b=>b≠a/\∃ xs,H b=some (.lst xs)) H
theorem zaK {a:Addr}{H H':Hp}(s:zn H H'):zn (ziT a H) (ziT a H'):=fun b o e n=>by
 obtain ⟨h1,h2⟩:=zO.mp e
 have h3:=s b o h2 n
 refine zm (fun z=>h1 ⟨z.1,?_⟩) h3
 obtain ⟨xs,hx⟩:=z.2
 rw [h3] at hx
 cases hx
 exact ⟨_,h2⟩
def WAt (T G:Hp):W->V->Prop
 | .d x,v=>DAt T G x v
 | .pen p,v=>v = .ref p
 | .dk kvs,v=>∃ a ks,v = .ref a/\T a=some (.dK ks)/\zcc G kvs ks/\uH ks (Sum.inr "at" : Key)=none
 | .dt kvs,v=>∃ a ks,v = .ref a/\T a=some (dtO ks)/\zcc G kvs ks
 | .ss P w ks,v=>∃ a xs,v = .ref a/\T a=some (zoo P w a (znG xs))/\SIs G ks xs
 | .df kvs,v=>∃ a ob ks,v = .ref a/\T a=some (.frz ob (dtO ks))/\zcc G kvs ks
 | .kf kvs,v=>∃ a ob ks,v = .ref a/\T a=some (.frz ob (.dK ks))/\zcc G kvs ks
 | .fl l,v=>∃ a ob xs,v = .ref a/\T a=some (.frz ob (.lst xs))/\IsL G l xs
 | .ad a x,v=>(∃ b,v = .ref b)/\Is (ziT a G) x v
 | .tz kvs x,v=>∃ a b ob ks y,v = .ref a/\G a=some (.tup [.ref b,y])/\G b=some (.frz ob (dtO ks))/\zcc G kvs ks/\Is G x y
theorem WAt.up {T T' G G':Hp}{w:W}{v:V}(t:zn T T')(g:zn G G')(h:WAt T G w v):WAt T' G' w v:=by
 cases w with
 | d x=>exact DAt.up t g h
 | pen p=>exact h
 | dk kvs=>
  obtain ⟨a,ks,e,h1,h2,h3⟩:=h
  exact ⟨a,ks,e,t _ _ h1 fun k q=>by cases q;exact h3,h2.stay g,h3⟩
 | dt kvs=>
  obtain ⟨a,ks,e,h1,h2⟩:=h
  exact ⟨a,ks,e,t _ _ h1 (fun k q=>by cases q),h2.stay g⟩
 | ss P w kvs=>
  obtain ⟨a,ks,e,h1,h2⟩:=h
  exact ⟨a,ks,e,t _ _ h1 zhm,h2.stay g⟩
 | df kvs=>
  obtain ⟨a,ob,ks,e,h1,h2⟩:=h
  exact ⟨a,ob,ks,e,t _ _ h1 (fun k q=>by cases q),h2.stay g⟩
 | kf kvs=>
  obtain ⟨a,ob,ks,e,h1,h2⟩:=h
  exact ⟨a,ob,ks,e,t _ _ h1 (fun k q=>by cases q),h2.stay g⟩
 | fl kvs=>
  obtain ⟨a,ob,ks,e,h1,h2⟩:=h
  exact ⟨a,ob,ks,e,t _ _ h1 (fun k q=>by cases q),h2.stay g⟩
 | ad a x=>exact ⟨h.1,Is.stay (zaK g) h.2⟩
 | tz kvs x=>
  obtain ⟨a,b,ob,ks,y,e,h1,h2,h3,h4⟩:=h
  exact ⟨a,b,ob,ks,y,e,g.tup h1,g _ _ h2 (fun k q=>by cases q),h3.stay g,h4.stay g⟩
@[reducible] def W.mut:W->Bool
 | .d (.lst _)=>true
 | .d .dct=>true
 | .dk _=>true
 | .dt _=>true
 | .ss _ _ _=>true
 | _=>false
abbrev Val (A:Addr->Prop)(H:Hp)(w:W)(v:V):Prop:=WAt (zM A H) (zM A H) w v
abbrev Bor (A:Addr->Prop)(H:Hp)(w:W)(v:V):Prop:=WAt H (zM A H) w v
theorem Val.bor {A:Addr->Prop}{H:Hp}{w:W}{v:V}(h:Val A H w v):Bor A H w v:=WAt.up (zn.same zj) (zn.refl _) h
theorem Val.stay {A:Addr->Prop}{H H':Hp}{w:W}{v:V}(h:Val A H w v)(s:zn H H'):Val A H' w v:=WAt.up (zP s) (zP s) h
theorem Bor.stay {A:Addr->Prop}{H H':Hp}{w:W}{v:V}(h:Bor A H w v)(s:zn H H'):Bor A H' w v:=WAt.up s (zP s) h
theorem Bor.is {A:Addr->Prop}{H:Hp}{x:Dt}{v:V}(h:Bor A H (.d x) v):Is H x v:=DAt.full (zfx _) zj h
theorem Val.is {A:Addr->Prop}{H:Hp}{x:Dt}{v:V}(h:Val A H (.d x) v):Is (zM A H) x v:=DAt.is h
theorem Val.of {A:Addr->Prop}{H:Hp}{x:Dt}{v:V}(h:Is (zM A H) x v):Val A H (.d x) v:=DAt.of h
mutual
theorem zhh {A:Addr->Prop}{H:Hp}(hA:∀ a xs,A a->H a≠some (.tup xs)):∀ {x:Dt} {v:V},x.noL=true->Is H x v->Is (zM A H) x v
 | .non,_,_,h=>h
 | .bl _,_,_,h=>h
 | .int _,_,_,h=>h
 | .str _,_,_,h=>h
 | .tup l,_,n,h=>by
  obtain ⟨p,xs,e,hp,hl⟩:=h
  exact ⟨p,xs,e,zm (fun z=>hA p xs z hp) hp,xY hA (by simpa [Dt.noL] using n) hl⟩
 | .lst l,_,n,_=>by simp [Dt.noL] at n
 | .dct,_,n,_=>by simp [Dt.noL] at n
theorem xY {A:Addr->Prop}{H:Hp}(hA:∀ a xs,A a->H a≠some (.tup xs)):∀ {ds:List Dt} {xs:List V},Dt.noLs ds=true->IsL H ds xs->IsL (zM A H) ds xs
 | [],_,_,h=>h
 | d::ds,xs,n,h=>by
  obtain ⟨x,r,e,h1,h2⟩:=h
  have n':(d.noL&&Dt.noLs ds)=true:=by simpa [Dt.noLs] using n
  rw [Bool.and_eq_true] at n'
  exact ⟨x,r,e,zhh hA n'.1 h1,xY hA n'.2 h2⟩
end
def yX (Pn:PN)(A:Addr->Prop)(n:Nat)(H:Hp):Prop:=
 (match Pn.pn with
 | none=>True
 | some (p,c,ns)=>Pen H p c ns n/\¬ A c/\¬ A p)/\Pn.J.K A H
def Own (A:Addr->Prop)(H:Hp)(w:W)(v:V):Prop:=∃ a,v = .ref a/\A a/\Bor A H w v/\w.mut=true
def Al (A:Addr->Prop)(H:Hp):Prop:=∀ a,A a->∃ o,H a=some o/\NP o/\Mt o
structure EnvR (A:Addr->Prop)(M:List Nat)(σ:St)(H:Hp)(ρ:Ev):Prop where
 len:σ.length=ρ.length
 val:∀ i w,ρ[i]?=some (some w)->∃ v,σ[i]?=some (some v)/\(i∉M->Val A H w v)/\(i∈M->Own A H w v)
 dis:∀ i j w u a,i∈M->j∈M->i≠j->ρ[i]?=some (some w)->ρ[j]?=some (some u)->σ[i]?=some (some (.ref a))->σ[j]?≠some (some (.ref a))
 al:Al A H
theorem EnvR.stay {A:Addr->Prop}{M:List Nat}{σ:St}{H H':Hp}{ρ:Ev}(E:EnvR A M σ H ρ)(s:zn H H'):EnvR A M σ H' ρ where
 len:=E.len
 val:=fun i w e=>by
  obtain ⟨v,h1,h2,h3⟩:=E.val i w e
  refine ⟨v,h1,fun z=>(h2 z).stay s,fun z=>?_⟩
  obtain ⟨a,e,h4,h5,h6⟩:=h3 z
  exact ⟨a,e,h4,h5.stay s,h6⟩
 dis:=E.dis
 al:=fun a h=>by
  obtain ⟨o,h1,h2,h3⟩:=E.al a h
  exact ⟨o,s _ _ h1 h2,h2,h3⟩
theorem EnvR.new {A:Addr->Prop}{M:List Nat}{σ:St}{H:Hp}{ρ:Ev}(E:EnvR A M σ H ρ){p:Addr}(h:H p=none):¬ A p:=fun z=>by
 obtain ⟨o,h1,_⟩:=E.al p z
 grind
def Fr (H:Hp)(a:Addr):Prop:=∀ o,H a=some o->¬ NP o
theorem Fr.of {H:Hp}{a:Addr}(h:H a=none):Fr H a:=fun o e=>by rw [h] at e;cases e
theorem Fr.back {H H1:Hp}{a:Addr}(h:Fr H1 a)(s:zn H H1):Fr H a:=fun o e n=>h o (s _ _ e n) n
def FrV (A:Addr->Prop)(H H':Hp)(w:W)(v:V):Prop:=∃ a,v = .ref a/\Fr H a/\WAt H' (zM (fun b=>A b\/b=a) H') w v
theorem FrV.back {A:Addr->Prop}{H H1 H':Hp}{w:W}{v:V}(h:FrV A H1 H' w v)(s:zn H H1):FrV A H H' w v:=let ⟨a,e,f,g⟩:=h;⟨a,e,f.back s,g⟩
theorem FrV.less {A A0:Addr->Prop}{H H':Hp}{w:W}{v:V}(h:FrV A H H' w v)(s:∀ a,A0 a->A a):FrV A0 H H' w v:=let ⟨a,e,f,g⟩:=h;⟨a,e,f,WAt.up (zn.refl _) (zn.same (yh fun b z=>z.elim (fun z=>.inl (s b z)) .inr)) g⟩
theorem EnvR.newF {A:Addr->Prop}{M:List Nat}{σ:St}{H:Hp}{ρ:Ev}(E:EnvR A M σ H ρ){p:Addr}(h:Fr H p):¬ A p:=fun z=>by
 obtain ⟨o,h1,h2,_⟩:=E.al p z
 exact h o h1 h2
theorem yv {A:Addr->Prop}{H H':Hp}{p:Addr}(s:zn H H')(n:Fr H p):zn (zM A H) (zM (fun b=>A b\/b=p) H'):=fun b o e np=>by
 obtain ⟨h1,h2⟩:=zO.mp e
 exact zm (fun z=>z.elim h1 fun z=>by subst z;exact n o h2 np) (s b o h2 np)
structure Go (Pn:PN)(A:Addr->Prop)(H:Hp)(n:Nat)(H':Hp):Prop where
 st:zn H H'
 pn:yX Pn A n H'
theorem Go.trans {Pn:PN}{A:Addr->Prop}{H H1 H2:Hp}{n m:Nat}(a:Go Pn A H n H1)(b:Go Pn A H1 m H2):Go Pn A H m H2:=⟨a.st.trans b.st,b.pn⟩
structure RE (Pn:PN)(M:List Nat)(fr:Bool)(te:TE)(f:Ev->Mo W):Prop where
 run:∀ A σ H ρ n Q R,EnvR A M σ H ρ->yX Pn A n H->f ρ n R->(∀ w m v H',R w m->Val A H' w v->Go Pn A H m H'->(fr=true->FrV A H H' w v)->Q v H')->te σ H Q
structure RB (Pn:PN)(M:List Nat)(te:TE)(f:Ev->Mo W):Prop where
 run:∀ A σ H ρ n Q R,EnvR A M σ H ρ->yX Pn A n H->f ρ n R->(∀ w m v H',R w m->Bor A H' w v->Go Pn A H m H'->Q v H')->te σ H Q
structure RT (Pn:PN)(M:List Nat)(te:TT)(f:Ev->Mo Bool):Prop where
 run:∀ A σ H ρ n Q R,EnvR A M σ H ρ->yX Pn A n H->f ρ n R->(∀ b m H',R b m->Go Pn A H m H'->Q b H')->te σ H Q
def zjY (A:Addr->Prop)(H:Hp):List W->List V->Prop
 | [],vs=>vs=[]
 | w::ws,vs=>∃ v r,vs=v::r/\Bor A H w v/\zjY A H ws r
def zaD (A:Addr->Prop)(H:Hp):List W->List V->Prop
 | [],vs=>vs=[]
 | w::ws,vs=>∃ v r,vs=v::r/\Val A H w v/\zaD A H ws r
theorem zaD.bor {A:Addr->Prop}{H:Hp}:∀ {ws:List W} {vs:List V},zaD A H ws vs->zjY A H ws vs
 | [],_,h=>h
 | _::_,_,⟨v,r,e,h1,h2⟩=>⟨v,r,e,h1.bor,zaD.bor h2⟩
structure RA (Pn:PN)(M:List Nat)(ta:TA)(f:Ev->Mo (List W)):Prop where
 run:∀ A σ H ρ n Q R,EnvR A M σ H ρ->yX Pn A n H->f ρ n R->(∀ ws m vs H',R ws m->zaD A H' ws vs->Go Pn A H m H'->Q vs H')->ta σ H Q
structure RAB (Pn:PN)(M:List Nat)(ta:TA)(f:Ev->Mo (List W)):Prop where
 run:∀ A σ H ρ n Q R,EnvR A M σ H ρ->yX Pn A n H->f ρ n R->(∀ ws m vs H',R ws m->zjY A H' ws vs->Go Pn A H m H'->Q vs H')->ta σ H Q
structure Kt where
 nx:Ev->Nat->Prop
 rt:W->Nat->Prop
 bk:Ev->Nat->Prop:=fun _ _=>False
 ct:Ev->Nat->Prop:=fun _ _=>False
abbrev Ms:=Ev->Nat->Kt->Prop
def StX (ca:Addr->Prop)(H0 H:Hp):Prop:=∀ b o,H0 b=some o->NP o->¬ ca b->H b=some o
theorem StX.of {ca:Addr->Prop}{H0 H:Hp}(s:zn H0 H):StX ca H0 H:=fun b o e n _=>s b o e n
theorem StX.stay {H0 H:Hp}(s:StX (fun _=>False) H0 H):zn H0 H:=fun b o e n=>s b o e n fun z=>z
structure Frm (A0:Addr->Prop)(H0:Hp)(ca:Addr->Prop)(A:Addr->Prop)(H:Hp):Prop where
 sub:∀ a,A0 a->A a
 new:∀ a,A a->A0 a\/Fr H0 a\/ca a
 st:StX ca H0 H
 al:Al A0 H0
 cn:∀ a,ca a->¬ A0 a
 cs:∀ a,ca a->∃ o,H a=some o/\NP o
theorem Frm.back {A0:Addr->Prop}{H0:Hp}{ca A:Addr->Prop}{H:Hp}(f:Frm A0 H0 ca A H){a:Addr}(h:Fr H a)(n:¬ A a):Fr H0 a:=fun o e np=>h o (f.st a o e np fun z=>let ⟨o2,e2,n2⟩:=f.cs a z;h o2 e2 n2) np
structure Bs where
 ca:Addr->Prop:=fun _=>False
 A0:Addr->Prop
 H0:Hp
 G0:Hp
 σ0:St
def NoL (G:Hp):Prop:=∀ a xs,G a≠some (.lst xs)
structure At3 (Pn:PN)(B:Bs)(S M:List Nat)(A:Addr->Prop)(σ:St)(H:Hp)(ρ:Ev)(n:Nat):Prop where
 env:EnvR A M σ H ρ
 frm:Frm B.A0 B.H0 B.ca A H
 pn:yX Pn A n H
 prot:zn B.G0 (zM A H)
 fix:(∀ i∈S,σ[i]?=B.σ0[i]?)/\(9999∈S->NoL B.G0/\NoL B.H0)
 mine:∀ i w a,i∈M->ρ[i]?=some (some w)->σ[i]?=some (some (.ref a))->Fr B.H0 a\/B.ca a
structure KOk (Pn:PN)(B:Bs)(S M:List Nat)(fr:Bool)(k:Kt)(D:Ends):Prop where
 nx:∀ A σ H ρ n,At3 Pn B S M A σ H ρ n->k.nx ρ n->D.nx σ H
 bk:∀ A σ H ρ n,At3 Pn B S M A σ H ρ n->k.bk ρ n->D.bk σ H
 ct:∀ A σ H ρ n,At3 Pn B S M A σ H ρ n->k.ct ρ n->D.ct σ H
 fc:∀ a,¬ B.ca a
 rt:∀ w n v H,Val B.A0 H w v->StX B.ca B.H0 H->yX Pn B.A0 n H->(fr=true->FrV B.A0 B.H0 H w v)->k.rt w n->D.rt v H
structure RS (Pn:PN)(S M:List Nat)(fr:Bool)(ts:TS)(fs:Ms):Prop where
 run:∀ B A σ H ρ n k D,At3 Pn B S M A σ H ρ n->KOk Pn B S M fr k D->fs ρ n k->ts D σ H
structure RG (S M:List Nat)(g:TG)(mg:W->Ev->(Ev->Prop)->Prop):Prop where
 run:∀ A σ H ρ v w Q R,EnvR A M σ H ρ->Val A H w v->mg w ρ R->(∀ σ' ρ',R ρ'->EnvR A M σ' H ρ'->(∀ i∈S,σ'[i]?=σ[i]?/\ρ'[i]?=ρ[i]?)->Q σ' H)->g v σ H Q
structure RGs (S M:List Nat)(g:TGs)(mg:List Dt->Ev->(Ev->Prop)->Prop):Prop where
 run:∀ A σ H ρ vs ds Q R,EnvR A M σ H ρ->IsL (zM A H) ds vs->mg ds ρ R->(∀ σ' ρ',R ρ'->EnvR A M σ' H ρ'->(∀ i∈S,σ'[i]?=σ[i]?/\ρ'[i]?=ρ[i]?)->Q σ' H)->g vs σ H Q
structure ItV (ow:Bool)(A:Addr->Prop)(H:Hp)(J:It)(l:List W):Prop where
 one:∀ i w A2 H2,l[i]?=some w->zn (zM A H) (zM A2 H2)->(ow=true->zn H H2)->(∀ p,H2 p=none->¬ A2 p)->J.go i H2/\∀ x H3,J.yld i H2 x H3->yk H2 H3/\Val A2 H3 w x
 stop:∀ A2 H2,zn (zM A H) (zM A2 H2)->(ow=true->zn H H2)->J.stop l.length H2
structure RI (Pn:PN)(M:List Nat)(ow:Bool)(wi:TI)(f:Ev->Mo (List W)):Prop where
 run:∀ A σ H ρ n Q R,EnvR A M σ H ρ->yX Pn A n H->f ρ n R->(∀ l m J H',R l m->ItV ow A H' J l->Go Pn A H m H'->Q J H')->wi σ H Q
theorem RE.rb {Pn:PN}{M:List Nat}{fr:Bool}{te:TE}{f:Ev->Mo W}(h:RE Pn M fr te f):RB Pn M te f:=
 ⟨fun A σ H ρ n Q R E P hf k=>h.run A σ H ρ n Q R E P hf fun w m v H' r a g _=>k w m v H' r a.bor g⟩
theorem RA.rab {Pn:PN}{M:List Nat}{te:TA}{f:Ev->Mo (List W)}(h:RA Pn M te f):RAB Pn M te f:=
 ⟨fun A σ H ρ n Q R E P hf k=>h.run A σ H ρ n Q R E P hf fun w m v H' r a g=>k w m v H' r a.bor g⟩
theorem yX.same {Pn:PN}{A:Addr->Prop}{n:Nat}{H H':Hp}(h:yX Pn A n H)(s:yk H H'):yX Pn A n H':=by
 refine ⟨?_,Pn.J.same h.2 s⟩
 have h:=h.1
 split at h
 ·trivial
 ·exact ⟨h.1.same s,h.2⟩
theorem Go.same {Pn:PN}{A:Addr->Prop}{n:Nat}{H H':Hp}(h:yX Pn A n H)(s:yk H H'):Go Pn A H n H':=⟨zn.same s,h.same s⟩
theorem Go.refl {Pn:PN}{A:Addr->Prop}{n:Nat}{H:Hp}(h:yX Pn A n H):Go Pn A H n H:=⟨zn.refl _,h⟩
open PySem L2
structure JE (X:Cx)(Pn:PN)(M:List Nat)(fr:Bool)(e:Expr)(f:Ev->Mo W):Prop where
 ex:∃ te,QE X e te/\RE Pn M fr te f
structure JB (X:Cx)(Pn:PN)(M:List Nat)(e:Expr)(f:Ev->Mo W):Prop where
 ex:∃ te,QE X e te/\RB Pn M te f
structure JT (X:Cx)(Pn:PN)(M:List Nat)(e:Expr)(f:Ev->Mo Bool):Prop where
 ex:∃ te,QT X e te/\RT Pn M te f
structure JW (X:Cx)(Pn:PN)(M:List Nat)(e:Expr)(f:Ev->Mo Bool):Prop where
 ex:∃ te,QW X e te/\RT Pn M te f
structure JA (X:Cx)(Pn:PN)(M:List Nat)(es:List Expr)(f:Ev->Mo (List W)):Prop where
 ex:∃ te,QA X es te/\RA Pn M te f
structure JAB (X:Cx)(Pn:PN)(M:List Nat)(es:List Expr)(f:Ev->Mo (List W)):Prop where
 ex:∃ te,QA X es te/\RAB Pn M te f
structure JO (X:Cx)(Pn:PN)(M:List Nat)(e:Option Expr)(f:Ev->Mo (Option Int)):Prop where
 ex:∃ t,QO X e t/\∀ A σ H ρ n Q R,EnvR A M σ H ρ->yX Pn A n H->f ρ n R->(∀ o m H',R o m->Go Pn A H m H'->Q o H')->t σ H Q
section
variable {X:Cx}{Pn:PN}{M:List Nat}{fr:Bool}{e a b c:Expr}{es:List Expr}{f fa fb fc:Ev->Mo W}{pos p:Pos}
def zkV (i:Nat):Ev->Mo W:=fun ρ n Q=>∃ w,ρ[i]?=some (some w)/\Q w n
@[reducible] def mC (w:W):Ev->Mo W:=fun _ n Q=>Q w n
@[reducible] def zkQ (F:W->W->Mo W) (fa fb:Ev->Mo W):Ev->Mo W:=fun ρ n Q=>fa ρ n fun x n1=>fb ρ n1 fun y n2=>F x y n2 Q
@[reducible] def mUn (F:W->Mo W) (fa:Ev->Mo W):Ev->Mo W:=fun ρ n Q=>fa ρ n fun x n1=>F x n1 Q
def zhl (fa:Ev->Mo W):Ev->Mo Bool:=fun ρ n Q=>fa ρ n fun x n1=>∃ c,x = .d (.bl c)/\Q c n1
def zmH (t u:Ev->Mo Bool):Ev->Mo Bool:=fun ρ n Q=>t ρ n fun c n1=>if c=true then u ρ n1 Q else Q false n1
def mOr (t u:Ev->Mo Bool):Ev->Mo Bool:=fun ρ n Q=>t ρ n fun c n1=>if c=true then Q true n1 else u ρ n1 Q
def znU (t:Ev->Mo Bool):Ev->Mo Bool:=fun ρ n Q=>t ρ n fun c n1=>Q (!c) n1
def ziC (fa fb:Ev->Mo W):Ev->Mo W:=fun ρ n Q=>fa ρ n fun x n1=>∃ c,x = .d (.bl c)/\if c=true then fb ρ n1 Q else Q (.d (.bl false)) n1
def mIf (t:Ev->Mo Bool)(fa fb:Ev->Mo W):Ev->Mo W:=fun ρ n Q=>t ρ n fun c n1=>if c=true then fa ρ n1 Q else fb ρ n1 Q
@[reducible] def mNil:Ev->Mo (List W):=fun _ n Q=>Q [] n
@[reducible] def zkR (fa:Ev->Mo W) (fr:Ev->Mo (List W)):Ev->Mo (List W):=fun ρ n Q=>fa ρ n fun x n1=>fr ρ n1 fun xs n2=>Q (x::xs) n2
@[reducible] def znI (F:List W->Mo W) (fa:Ev->Mo (List W)):Ev->Mo W:=fun ρ n Q=>fa ρ n fun xs n1=>F xs n1 Q
theorem JE.bo (h:JE X Pn M fr e f):JB X Pn M e f:=let ⟨te,h1,h2⟩:=h.ex;⟨te,h1,h2.rb⟩
theorem JA.bo {f:Ev->Mo (List W)}(h:JA X Pn M es f):JAB X Pn M es f:=let ⟨te,h1,h2⟩:=h.ex;⟨te,h1,h2.rab⟩
theorem zlX {i:Nat}(hi:i∉M):RE Pn M false (zgW i) (zkV i):=⟨fun A σ H ρ n Q R E P hf k=>by
 obtain ⟨w,e,r⟩:=hf
 obtain ⟨v,h1,h2,_⟩:=E.val i w e
 exact ⟨v,h1,k w n v H r (h2 hi) (Go.refl P) fun z=>by cases z⟩⟩
theorem zlS {i:Nat}:RB Pn M (zgW i) (zkV i):=⟨fun A σ H ρ n Q R E P hf k=>by
 obtain ⟨w,e,r⟩:=hf
 obtain ⟨v,h1,h2,h3⟩:=E.val i w e
 refine ⟨v,h1,k w n v H r ?_ (Go.refl P)⟩
 by_cases hi:i∈M
 ·obtain ⟨a,_,_,h,_⟩:=h3 hi
  exact h
 ·exact (h2 hi).bor⟩
theorem zio (i:Nat){x:Str}(hi:i∉M:=by decide)(hN:X.N[i]?=some x:=by rfl)(hv:Vis X.env.scope x:=by first | exact Or.inl rfl | exact Or.inr (Or.inl rfl) | exact Or.inr (Or.inr rfl))(hd:(x==("__debug__" : Str))=false:=by decide)
  (hcd:(x==("__classdict__" : Str))=false:=by decide):JE X Pn M false (.Name x pos) (zkV i):=⟨_,qv i hN hv hd hcd,zlX hi⟩
theorem zny (i:Nat){x:Str}(hN:X.N[i]?=some x:=by rfl)(hv:Vis X.env.scope x:=by first | exact Or.inl rfl | exact Or.inr (Or.inl rfl) | exact Or.inr (Or.inr rfl))(hd:(x==("__debug__" : Str))=false:=by decide)
  (hcd:(x==("__classdict__" : Str))=false:=by decide):JB X Pn M (.Name x pos) (zkV i):=⟨_,qv i hN hv hd hcd,zlS⟩
theorem zmT {x:Dt}{v:V}(h:∀ G,Is G x v):RE Pn M false (tC v) (mC (.d x)):=⟨fun A σ H ρ n Q R E P hf k=>k _ n v H hf (Val.of (h _)) (Go.refl P) fun z=>by cases z⟩
theorem zg {i:Int}{j:Nat}:JE X Pn M false (.Constant (.int i) j pos) (mC (.d (.int i))):=⟨_,zW,zmT fun _=>rfl⟩
theorem zfP {k:Bool}{j:Nat}:JE X Pn M false (.Constant (.bool k) j pos) (mC (.d (.bl k))):=⟨_,zlK,zmT fun _=>rfl⟩
theorem znA {j:Nat}:JE X Pn M false (.Constant .none j pos) (mC (.d .non)):=⟨_,zhv,zmT fun _=>rfl⟩
theorem zil {x:Str}{i:Int}(hg:Gl X x)(h:∃ w,zX (.int i) w/\X.mg x=some w)(hd:(x==("__debug__" : Str))=false:=by decide):JE X Pn M false (.Name x pos) (mC (.d (.int i))):=⟨_,zbg hg h hd,zmT fun _=>rfl⟩
theorem Al.new {A:Addr->Prop}{H:Hp}(h:Al A H){p:Addr}(e:H p=none):¬ A p:=fun z=>by
 obtain ⟨o,h1,_⟩:=h p z
 grind
theorem Al.stay {A:Addr->Prop}{H H':Hp}(h:Al A H)(s:zn H H'):Al A H':=fun a z=>by
 obtain ⟨o,h1,h2,h3⟩:=h a z
 exact ⟨o,s _ _ h1 h2,h2,h3⟩
theorem Al.noT {A:Addr->Prop}{H:Hp}(h:Al A H):∀ a xs,A a->H a≠some (.tup xs):=fun a xs z e=>by
 obtain ⟨o,h1,_,h3⟩:=h a z
 have:=h3.tup
 grind
theorem Al.noT' {A:Addr->Prop}{H H':Hp}(h:Al A H)(s:zn H H'){p:Addr}{xs:List V}(e:H' p=some (.tup xs)):¬ A p:=fun z=>(h.stay s).noT p xs z e
structure F2 (Pn:PN)(fr:Bool)(r:R2)(F:W->W->Mo W):Prop where
 run:∀ A H x y wx wy n Q R,Al A H->Bor A H wx x->Bor A H wy y->yX Pn A n H->F wx wy n R->(∀ w m v H',R w m->Val A H' w v->Go Pn A H m H'->(fr=true->FrV A H H' w v)->Q v H')->r x y H Q
structure FL (Pn:PN)(fr:Bool)(r:List V->Hp->VK->Prop)(F:List W->Mo W):Prop where
 run:∀ A H xs ws n Q R,Al A H->zjY A H ws xs->yX Pn A n H->F ws n R->(∀ w m v H',R w m->Val A H' w v->Go Pn A H m H'->(fr=true->FrV A H H' w v)->Q v H')->r xs H Q
theorem zgP {r:R2}{F:W->W->Mo W}{ta tb:TE}(hr:F2 Pn fr r F)(ha:RB Pn M ta fa)(hb:RB Pn M tb fb):RE Pn M fr (tOp r ta tb) (zkQ F fa fb):=⟨fun A σ H ρ n Q R E P hf k=>by
 refine ha.run A σ H ρ n _ _ E P hf fun x n1 v1 H1 r1 b1 g1=>?_
 refine hb.run A σ H1 ρ n1 _ _ (E.stay g1.st) g1.pn r1 fun y n2 v2 H2 r2 b2 g2=>?_
 have g:=g1.trans g2
 exact hr.run A H2 v1 v2 x y n2 _ _ (E.stay g.st).al (b1.stay g2.st) b2 g2.pn r2 fun w m v H' h1 h2 h3 h4=>k w m v H' h1 h2 (g.trans h3) fun z=>(h4 z).back g.st⟩
theorem zlU {r:List V->Hp->VK->Prop}{F:List W->Mo W}{ta:TA}{fa:Ev->Mo (List W)}(hr:FL Pn fr r F)(ha:RAB Pn M ta fa):RE Pn M fr (tCB r ta) (znI F fa):=⟨fun A σ H ρ n Q R E P hf k=>by
 refine ha.run A σ H ρ n _ _ E P hf fun x n1 v1 H1 r1 b1 g1=>?_
 exact hr.run A H1 v1 x n1 _ _ (E.stay g1.st).al b1 g1.pn r1 fun w m v H' h1 h2 h3 h4=>k w m v H' h1 h2 (g1.trans h3) fun z=>(h4 z).back g1.st⟩
theorem zas {op:Operator}{r:R2}{F:W->W->Mo W}(ho:OpQ X (binaryOp op) r)(hr:F2 Pn fr r F)(ha:JB X Pn M a fa)(hb:JB X Pn M b fb):JE X Pn M fr (.BinOp a op b pos) (zkQ F fa fb):=by
 obtain ⟨ta,qa,ra⟩:=ha.ex
 obtain ⟨tb,qb,rb⟩:=hb.ex
 exact ⟨_,yi ho qa qb,zgP hr ra rb⟩
theorem zdM {op:CmpOp}{r:R2}{F:W->W->Mo W}(ho:OpQ X (compareOp op) r)(hr:F2 Pn fr r F)(ha:JB X Pn M a fa)(hb:JB X Pn M b fb)(hm:behindInMarks op b=false):JE X Pn M fr (.Compare a [op] [b] pos) (zkQ F fa fb):=by
 obtain ⟨ta,qa,ra⟩:=ha.ex
 obtain ⟨tb,qb,rb⟩:=hb.ex
 exact ⟨_,zjq ho qa qb hm,zgP hr ra rb⟩
theorem zhA {ta:TE}(h:RB Pn M ta fa):RT Pn M (zjR ta) (zhl fa):=⟨fun A σ H ρ n Q R E P hf k=>by
 refine h.run A σ H ρ n _ _ E P hf  ?_
 rintro x n1 v1 H1 ⟨c,e,r⟩ b1 g1
 subst e
 have b1':v1 = .bl c:=b1
 exact ⟨c,b1',k c n1 H1 r g1⟩⟩
theorem yw {op:CmpOp}{r:R2}{F:W->W->Mo W}(ho:OpQ X (compareOp op) r)(hr:F2 Pn fr r F)(ha:JB X Pn M a fa)(hb:JB X Pn M b fb)(hm:behindInMarks op b=false):JT X Pn M (.Compare a [op] [b] pos) (zhl (zkQ F fa fb)):=by
 obtain ⟨ta,qa,ra⟩:=ha.ex
 obtain ⟨tb,qb,rb⟩:=hb.ex
 exact ⟨_,zag ho qa qb hm,zhA (zgP hr ra rb).rb⟩
theorem xg (h:JB X Pn M e f)(he:∀ whole,isTrue e X.env whole=(do let v <- whole;standAt e.pos;holding [v] (truthy v)):=by intro _;rfl):JT X Pn M e (zhl f):=by
 obtain ⟨ta,qa,ra⟩:=h.ex
 exact ⟨_,zfl qa he,zhA ra⟩
theorem uV {t:Ev->Mo Bool}(h:JT X Pn M a t):JT X Pn M (.UnaryOp .Not a pos) (znU t):=by
 obtain ⟨ta,qa,ra⟩:=h.ex
 exact ⟨_,zfk qa,⟨fun A σ H ρ n Q R E P hf k=>ra.run A σ H ρ n _ _ E P hf fun b m H' r g=>k _ m H' r g⟩⟩
theorem zbK {op:BoolOp}{t:Ev->Mo Bool}(hop:op = .And\/op = .Or)(h:JT X Pn M a t):JW X Pn M (.BoolOp op [a] pos) t:=by
 obtain ⟨ta,qa,ra⟩:=h.ex
 rcases hop with rfl | rfl
 ·exact ⟨_,zfm qa,ra⟩
 ·exact ⟨_,zhz qa,ra⟩
theorem zl5 {t u:TT}{ft fu:Ev->Mo Bool}(h:RT Pn M t ft)(h':RT Pn M u fu):RT Pn M (zoq t u) (zmH ft fu):=⟨fun A σ H ρ n Q R E P hf k=>by
 refine h.run A σ H ρ n _ _ E P hf fun c m H1 r g=>?_
 cases c with
 | true=>exact h'.run A σ H1 ρ m _ _ (E.stay g.st) g.pn (by simpa using r) fun b m' H' r' g'=>k b m' H' r' (g.trans g')
 | false=>exact k false m H1 (by simpa using r) g⟩
theorem zol {t u:TT}{ft fu:Ev->Mo Bool}(h:RT Pn M t ft)(h':RT Pn M u fu):RT Pn M (tOr t u) (mOr ft fu):=⟨fun A σ H ρ n Q R E P hf k=>by
 refine h.run A σ H ρ n _ _ E P hf fun c m H1 r g=>?_
 cases c with
 | false=>exact h'.run A σ H1 ρ m _ _ (E.stay g.st) g.pn (by simpa using r) fun b m' H' r' g'=>k b m' H' r' (g.trans g')
 | true=>exact k true m H1 (by simpa using r) g⟩
theorem zeN {yy:List Expr}{t u:Ev->Mo Bool}(h:JT X Pn M a t)(h':JW X Pn M (.BoolOp .And (b::yy) pos) u):JW X Pn M (.BoolOp .And (a::b::yy) pos) (zmH t u):=by
 obtain ⟨ta,qa,ra⟩:=h.ex
 obtain ⟨tb,qb,rb⟩:=h'.ex
 exact ⟨_,zhy qa qb,zl5 ra rb⟩
theorem zkK {yy:List Expr}{t u:Ev->Mo Bool}(h:JT X Pn M a t)(h':JW X Pn M (.BoolOp .Or (b::yy) pos) u):JW X Pn M (.BoolOp .Or (a::b::yy) pos) (mOr t u):=by
 obtain ⟨ta,qa,ra⟩:=h.ex
 obtain ⟨tb,qb,rb⟩:=h'.ex
 exact ⟨_,zlR qa qb,zol ra rb⟩
theorem JW.t {t:Ev->Mo Bool}(h:JW X Pn M e t):JT X Pn M e t:=let ⟨te,h1,h2⟩:=h.ex;⟨te,h1.pt,h2⟩
theorem zin {op:BoolOp}(h:JE X Pn M false a fa):JE X Pn M false (.BoolOp op [a] pos) fa:=let ⟨te,h1,h2⟩:=h.ex;⟨te,zlN h1,h2⟩
theorem zgj {yy:List Expr}(h:JB X Pn M a fa)(h':JE X Pn M false (.BoolOp .And (b::yy) pos) fb):JE X Pn M false (.BoolOp .And (a::b::yy) pos) (ziC fa fb):=by
 obtain ⟨ta,qa,ra⟩:=h.ex
 obtain ⟨tb,qb,rb⟩:=h'.ex
 refine ⟨_,zlI qa qb,⟨fun A σ H ρ n Q R E P hf k=>?_⟩⟩
 refine ra.run A σ H ρ n _ _ E P hf  ?_
 rintro x m v H1 ⟨c,ec,r⟩ b1 g
 subst ec
 have b1':v = .bl c:=b1
 refine ⟨c,b1',?_⟩
 cases c with
 | true=>
  rw [if_pos rfl] at r ⊢
  exact rb.run A σ H1 ρ m _ _ (E.stay g.st) g.pn r fun w m' v' H' r' a' g' _=>k w m' v' H' r' a' (g.trans g') fun z=>by cases z
 | false=>
  rw [if_neg (by decide)] at r ⊢
  exact k _ m _ H1 r (Val.of rfl) g fun z=>by cases z
theorem j_if {t:Ev->Mo Bool}(hc:JT X Pn M c t)(ha:JE X Pn M fr a fa)(hb:JE X Pn M fr b fb):JE X Pn M fr (.IfExp c a b pos) (mIf t fa fb):=by
 obtain ⟨tc,qc,rc⟩:=hc.ex
 obtain ⟨ta,qa,ra⟩:=ha.ex
 obtain ⟨tb,qb,rb⟩:=hb.ex
 refine ⟨_,zgL qc qa qb,⟨fun A σ H ρ n Q R E P hf k=>?_⟩⟩
 refine rc.run A σ H ρ n _ _ E P hf fun c m H1 r g=>?_
 cases c with
 | true=>
  rw [if_pos rfl] at r ⊢
  exact ra.run A σ H1 ρ m _ _ (E.stay g.st) g.pn r fun w m' v' H' r' a' g' f'=>k w m' v' H' r' a' (g.trans g') fun z=>(f' z).back g.st
 | false=>
  rw [if_neg (by decide)] at r ⊢
  exact rb.run A σ H1 ρ m _ _ (E.stay g.st) g.pn r fun w m' v' H' r' a' g' f'=>k w m' v' H' r' a' (g.trans g') fun z=>(f' z).back g.st
@[reducible] def zkC:W->Bool
 | .d .non=>true
 | _=>false
@[reducible] def mIsN (fa:Ev->Mo W):Ev->Mo W:=fun ρ n Q=>fa ρ n fun x n1=>Q (.d (.bl (zkC x))) n1
@[reducible] def mNotN (fa:Ev->Mo W):Ev->Mo W:=fun ρ n Q=>fa ρ n fun x n1=>Q (.d (.bl (!zkC x))) n1
theorem zom {ta:TE}(h:RB Pn M ta fa):RT Pn M (tB ta) (zhl fa):=⟨fun A σ H ρ n Q R E P hf k=>by
 refine h.run A σ H ρ n _ _ E P hf  ?_
 rintro x n1 v1 H1 ⟨c,e,r⟩ b1 g1
 subst e
 have b1':v1 = .bl c:=b1
 exact ⟨c,b1',k c n1 H1 r g1⟩⟩
theorem ze:JA X Pn M [] mNil:=⟨_,zZ,⟨fun A σ H ρ n Q R E P hf k=>k [] n [] H hf rfl (Go.refl P)⟩⟩
theorem za {fs:Ev->Mo (List W)}(ha:JE X Pn M fr e f)(hr:JA X Pn M es fs)(hs:starEach (e::es) X.env=(false,eval e X.env)::starEach es X.env:=by rfl):JA X Pn M (e::es) (zkR f fs):=by
 obtain ⟨ta,qa,ra⟩:=ha.ex
 obtain ⟨tb,qb,rb⟩:=hr.ex
 refine ⟨_,zp qa qb hs,⟨fun A σ H ρ n Q R E P hf k=>?_⟩⟩
 refine ra.run A σ H ρ n _ _ E P hf fun x n1 v1 H1 r1 b1 g1 _=>?_
 exact rb.run A σ H1 ρ n1 _ _ (E.stay g1.st) g1.pn r1 fun xs n2 vs H2 r2 b2 g2=>k _ n2 _ H2 r2 ⟨v1,vs,rfl,b1.stay g2.st,b2⟩ (g1.trans g2)
theorem zD:JAB X Pn M [] mNil:=ze.bo
theorem zq {fs:Ev->Mo (List W)}(ha:JB X Pn M e f)(hr:JAB X Pn M es fs)(hs:starEach (e::es) X.env=(false,eval e X.env)::starEach es X.env:=by rfl):JAB X Pn M (e::es) (zkR f fs):=by
 obtain ⟨ta,qa,ra⟩:=ha.ex
 obtain ⟨tb,qb,rb⟩:=hr.ex
 refine ⟨_,zp qa qb hs,⟨fun A σ H ρ n Q R E P hf k=>?_⟩⟩
 refine ra.run A σ H ρ n _ _ E P hf fun x n1 v1 H1 r1 b1 g1=>?_
 exact rb.run A σ H1 ρ n1 _ _ (E.stay g1.st) g1.pn r1 fun xs n2 vs H2 r2 b2 g2=>k _ n2 _ H2 r2 ⟨v1,vs,rfl,b1.stay g2.st,b2⟩ (g1.trans g2)
def lim:Nat:=500000
theorem zdm {n:Nat}(h:n<=lim):n<=sizeLine:=Nat.le_trans h (by decide)
theorem zeU {n:Nat}(h:n<=lim):n<sizeLine:=Nat.lt_of_le_of_lt h (by decide)
def dts:List W->Option (List Dt)
 | []=>some []
 | .d x::r=>(dts r).map (x::·)
 | _::_=>none
theorem zaD.dts {A:Addr->Prop}{H:Hp}:∀ {ws:List W} {vs:List V} {l:List Dt},zaD A H ws vs->dts ws=some l->IsL (zM A H) l vs
 | [],vs,l,h,e=>by cases e;exact h
 | .d x::ws,vs,l,⟨v,r,e1,h1,h2⟩,e=>by
  obtain ⟨l',e2,rfl⟩:=Option.map_eq_some_iff.mp e
  exact ⟨v,r,e1,h1.is,zaD.dts h2 e2⟩
 | .pen _::_,_,_,_,e=>by cases e
 | .dk _::_,_,_,_,e=>by cases e
 | .dt _::_,_,_,_,e=>by cases e
 | .ss _ _ _::_,_,_,_,e=>by cases e
 | .df _::_,_,_,_,e=>by cases e
 | .kf _::_,_,_,_,e=>by cases e
 | .fl _::_,_,_,_,e=>by cases e
 | .ad _ _::_,_,_,_,e=>by cases e
 | .tz _ _::_,_,_,_,e=>by cases e
theorem zaD.len {A:Addr->Prop}{H:Hp}:∀ {ws:List W} {vs:List V},zaD A H ws vs->vs.length=ws.length
 | [],_,h=>by cases h;rfl
 | _::ws,vs,⟨v,r,e,_,h2⟩=>by rw [e,List.length_cons,List.length_cons,zaD.len h2]
theorem zap {A:Addr->Prop}{H H':Hp}{p:Addr}{xs:List V}{l:List Dt}(hl:IsL (zM A H) l xs)(s:zn H H')(n:¬ A p)(g:H' p=some (.tup xs)):Val A H' (.d (.tup l)) (.ref p):=
 Val.of ⟨p,xs,rfl,zm n g,hl.stay (zP s)⟩
theorem zfI {A:Addr->Prop}{H H':Hp}{p:Addr}{xs:List V}{l:List Dt}(hl:IsL (zM A H) l xs)(s:zn H H')(n:¬ A p)(g:H' p=some (.lst xs)):Val A H' (.d (.lst l)) (.ref p):=
 Val.of ⟨p,xs,rfl,zm n g,hl.stay (zP s)⟩
theorem zeC {A:Addr->Prop}{H H':Hp}{p:Addr}{xs:List V}{l:List Dt}(hl:IsL (zM A H) l xs)(s:yk H H')(n:H p=none)(g:H' p=some (.lst xs)):FrV A H H' (.d (.lst l)) (.ref p):=
 ⟨p,rfl,.of n,p,xs,rfl,g,hl.stay (yv (zn.same s) (.of n))⟩
@[reducible] def zmM:Nat->List W->(List Dt->Prop)->Prop
 | _,[],P=>P []
 | k+1,.d x::r,P=>zmM k r fun l=>P (x::l)
 | _,_,_=>False
theorem zbe:∀ {k:Nat} {l:List W} {P:List Dt->Prop},zmM k l P->∃ ds,dts l=some ds/\P ds/\l.length<=k
 | 0,[],P,h=>⟨[],rfl,h,Nat.zero_le _⟩
 | k+1,[],P,h=>⟨[],rfl,h,Nat.zero_le _⟩
 | 0,.d x::r,P,h=>h.elim
 | k+1,.d x::r,P,h=>by
  obtain ⟨ds,e,h2,hz⟩:=zbe (k:=k) (l:=r) (P:=fun l=>P (x::l)) h
  exact ⟨x::ds,by simp [dts,e],h2,Nat.succ_le_succ hz⟩
 | 0,.pen _::r,P,h=>h.elim
 | k+1,.pen _::r,P,h=>h.elim
 | 0,.dk _::r,P,h=>h.elim
 | k+1,.dk _::r,P,h=>h.elim
 | 0,.dt _::r,P,h=>h.elim
 | 0,.ss _ _ _::r,P,h=>h.elim
 | 0,.df _::r,P,h=>h.elim
 | 0,.kf _::r,P,h=>h.elim
 | 0,.fl _::r,P,h=>h.elim
 | 0,.ad _ _::r,P,h=>h.elim
 | 0,.tz _ _::r,P,h=>h.elim
 | k+1,.dt _::r,P,h=>h.elim
 | k+1,.ss _ _ _::r,P,h=>h.elim
 | k+1,.df _::r,P,h=>h.elim
 | k+1,.kf _::r,P,h=>h.elim
 | k+1,.fl _::r,P,h=>h.elim
 | k+1,.ad _ _::r,P,h=>h.elim
 | k+1,.tz _ _::r,P,h=>h.elim
@[reducible] def znX (fa:Ev->Mo (List W)):Ev->Mo W:=fun ρ n Q=>fa ρ n fun ws m=>zmM 200 ws fun l=>Q (.d (.tup l)) m
theorem z7 {x1}{fs:Ev->Mo (List W)}(h:JA X Pn M es fs):JE X Pn M false (.Tuple es x1 pos) (znX fs):=by
 obtain ⟨ta,qa,ra⟩:=h.ex
 refine ⟨_,zcQ qa,⟨fun A σ H ρ n Q R E P hf k=>?_⟩⟩
 refine ra.run A σ H ρ n _ _ E P hf fun ws m vs H1 hq b g=>?_
 obtain ⟨l,e,r,hz⟩:=zbe hq
 refine ⟨zdm (by rw [b.len];exact Nat.le_trans hz (by decide)),fun p H2 np gp S=>?_⟩
 exact k _ m _ H2 r (zap (b.dts e) (zn.same S) ((E.stay g.st).new np) gp) (g.trans (Go.same g.pn S)) fun z=>by cases z
@[reducible] def znT (fa:Ev->Mo (List W)):Ev->Mo W:=fun ρ n Q=>fa ρ n fun ws m=>zmM 200 ws fun l=>Q (.d (.lst l)) m
theorem uU {fs:Ev->Mo (List W)}(h:JA X Pn M es fs):JE X Pn M true (.List es pos) (znT fs):=by
 obtain ⟨ta,qa,ra⟩:=h.ex
 refine ⟨_,zff qa,⟨fun A σ H ρ n Q R E P hf k=>?_⟩⟩
 refine ra.run A σ H ρ n _ _ E P hf fun ws m vs H1 hq b g=>?_
 obtain ⟨l,e,r,hz⟩:=zbe hq
 refine ⟨zdm (by rw [b.len];exact Nat.le_trans hz (by decide)),fun p H2 np gp S=>?_⟩
 exact k _ m _ H2 r (zfI (b.dts e) (zn.same S) ((E.stay g.st).new np) gp) (g.trans (Go.same g.pn S)) fun _=>(zeC (b.dts e) S np gp).back g.st
theorem yG {id:String}{r:List V->Hp->VK->Prop}{F:List W->Mo W}{x:Str}{fs:Ev->Mo (List W)}(hc:CallQ X (.builtin id) r)(hr:FL Pn fr r F)(hg:Gl X x)(hm:X.mg x=none)(hv:bootBuiltins x=some (.builtin id))(ha:JAB X Pn M (e::es) fs)(hn:x ≠ "__name__" := by decide)(hdb:(x==("__debug__" : Str))=false:=by decide)
  (he:starEach (e::es) X.env=(false,eval e X.env)::starEach es X.env:=by rfl) (hpl:(backTo pos (starEach es X.env)).any (·.1)=false:=by rfl):JE X Pn M fr (.Call (.Name x p) (e::es) [] pos) (znI F fs):=by
 obtain ⟨ta,qa,ra⟩:=ha.ex
 exact ⟨_,z0 hc hg hm hv qa hn hdb he hpl,zlU hr ra⟩
theorem zaX {T:String}{r:List V->Hp->VK->Prop}{F:List W->Mo W}{x:Str}{fs:Ev->Mo (List W)}(hc:CallQ X (.type T) r)(hr:FL Pn fr r F)(hg:Gl X x)(hm:X.mg x=none)(hv:bootBuiltins x=some (.type T))(ha:JAB X Pn M (e::es) fs)(hn:x ≠ "__name__" := by decide)(hdb:(x==("__debug__" : Str))=false:=by decide)
  (he:starEach (e::es) X.env=(false,eval e X.env)::starEach es X.env:=by rfl) (hpl:(backTo pos (starEach es X.env)).any (·.1)=false:=by rfl):JE X Pn M fr (.Call (.Name x p) (e::es) [] pos) (znI F fs):=by
 obtain ⟨ta,qa,ra⟩:=ha.ex
 exact ⟨_,zac hc hg hm hv qa hn hdb he hpl,zlU hr ra⟩
end
open PySem L2
section
variable {Pn:PN}{K:PySem.W.Frag}{A:Addr->Prop}{H:Hp}
theorem yP {i:Int}{v:V}(h:Bor A H (.d (.int i)) v):v = .int i:=h
theorem xx {l:List Dt}{v:V}(h:Bor A H (.d (.tup l)) v):∃ a xs,v = .ref a/\H a=some (.tup xs)/\IsL (zM A H) l xs:=by
 obtain ⟨a,xs,e,h1,h2⟩:=h
 exact ⟨a,xs,e,zj _ _ h1,h2⟩
theorem xU {l:List Dt}{v:V}(h:Bor A H (.d (.lst l)) v):∃ a xs,v = .ref a/\H a=some (.lst xs)/\IsL (zM A H) l xs:=h
def fI (C:Int->Int->Prop)(g:Int->Int->Dt):W->W->Mo W:=fun x y n Q=>∃ i j,x = .d (.int i)/\y = .d (.int j)/\C i j/\Q (.d (g i j)) n
def fI0 (g:Int->Int->Dt):W->W->Mo W:=fun x y n Q=>∃ i j,x = .d (.int i)/\y = .d (.int j)/\Q (.d (g i j)) n
theorem f2_I {C:Int->Int->Prop}{g:Int->Int->V}{g':Int->Int->Dt}(hg:∀ i j G,Is G (g' i j) (g i j)):F2 Pn false (rI C g) (fI C g'):=⟨by
 rintro A H x y wx wy n Q R al bx byy P ⟨i,j,e1,e2,c,r⟩ k
 subst e1 e2
 exact ⟨i,j,yP bx,yP byy,c,k _ n _ H r (Val.of (hg _ _ _)) (Go.refl P) fun z=>by cases z⟩⟩
theorem zf6 {g:Int->Int->V}{g':Int->Int->Dt}(hg:∀ i j G,Is G (g' i j) (g i j)):F2 Pn false (rI0 g) (fI0 g'):=⟨by
 rintro A H x y wx wy n Q R al bx byy P ⟨i,j,e1,e2,r⟩ k
 subst e1 e2
 exact ⟨i,j,yP bx,yP byy,k _ n _ H r (Val.of (hg _ _ _)) (Go.refl P) fun z=>by cases z⟩⟩
abbrev fAdd:=fI0 fun i j=>.int (i+j)
abbrev fSub:=fI0 fun i j=>.int (i - j)
abbrev fMul:=fI zgZ fun i j=>.int (i * j)
abbrev fMod:=fI (fun _ j=>0<j) fun i j=>.int (i % j)
abbrev fLe:=fI0 fun i j=>.bl (decide (i<=j))
abbrev fGt:=fI0 fun i j=>.bl (decide (j<i))
theorem zoC:F2 Pn false (rI0 fun i j=>.int (i+j)) fAdd:=zf6 fun _ _ _=>rfl
theorem zoM:F2 Pn false (rI0 fun i j=>.int (i - j)) fSub:=zf6 fun _ _ _=>rfl
theorem zoK:F2 Pn false (rI zgZ fun i j=>.int (i * j)) fMul:=f2_I fun _ _ _=>rfl
theorem zoJ:F2 Pn false (rI (fun _ j=>0<j) fun i j=>.int (i % j)) fMod:=f2_I fun _ _ _=>rfl
theorem v_le:F2 Pn false (rI0 fun i j=>.bl (decide (i<=j))) fLe:=zf6 fun _ _ _=>rfl
theorem v_gt:F2 Pn false (rI0 fun i j=>.bl (decide (j<i))) fGt:=zf6 fun _ _ _=>rfl
@[reducible] def sEq:Dt->Dt->Option Bool
 | .int i,.int j=>some (decide (i=j))
 | .bl i,.bl j=>some (decide (i=j))
 | .str i,.str j=>some (decide (i=j))
 | .non,.non=>some true
 | .non,.int _=>some false
 | .int _,.non=>some false
 | .non,.bl _=>some false
 | .bl _,.non=>some false
 | .non,.str _=>some false
 | .str _,.non=>some false
 | .int _,.str _=>some false
 | .str _,.int _=>some false
 | _,_=>none
def plain:Dt->Option V
 | .int i=>some (.int i)
 | .bl i=>some (.bl i)
 | .str i=>some (.str i)
 | .non=>some .non
 | _=>none
theorem zhB {a b:Dt}{r:Bool}(h:sEq a b=some r):∃ x y,plain a=some x/\plain b=some y/\zon x y=true/\decide (x=y)=r:=by
 cases a <;> cases b <;> cases h <;> refine ⟨_,_,rfl,rfl,rfl,?_⟩ <;> first | rfl | exact decide_eq_false (by lia) | exact decide_eq_decide.mpr (by simp)
theorem xK {a:Dt}{x v:V}(h:Bor A H (.d a) v)(e:plain a=some x):v=x:=by
 cases a <;> cases e <;> exact h
def fEq:W->W->Mo W:=fun x y n Q=>∃ a b r,x = .d a/\y = .d b/\sEq a b=some r/\Q (.d (.bl r)) n
def fNe:W->W->Mo W:=fun x y n Q=>∃ a b r,x = .d a/\y = .d b/\sEq a b=some r/\Q (.d (.bl (!r))) n
theorem v_eq:F2 Pn false rEq fEq:=⟨by
 rintro A H x y wx wy n Q R al bx byy P ⟨a,b,r,e1,e2,e,h⟩ k
 subst e1 e2
 obtain ⟨x',y',p1,p2,s,d⟩:=zhB e
 obtain rfl:=xK bx p1
 obtain rfl:=xK byy p2
 exact ⟨s,k _ n _ H h (Val.of (by rw [d];rfl)) (Go.refl P) fun z=>by cases z⟩⟩
theorem v_ne:F2 Pn false rNe fNe:=⟨by
 rintro A H x y wx wy n Q R al bx byy P ⟨a,b,r,e1,e2,e,h⟩ k
 subst e1 e2
 obtain ⟨x',y',p1,p2,s,d⟩:=zhB e
 obtain rfl:=xK bx p1
 obtain rfl:=xK byy p2
 exact ⟨s,k _ n _ H h (Val.of (by rw [d];rfl)) (Go.refl P) fun z=>by cases z⟩⟩
def znm:W->W->Mo W:=fun x y n Q=>∃ a b,x = .d a/\y = .d b/\a.eqOk/\b.eqOk/\∀ r:Bool,(r=true↔a=b)->Q (.d (.bl r)) n
def znq:W->W->Mo W:=fun x y n Q=>∃ a b,x = .d a/\y = .d b/\a.eqOk/\b.eqOk/\∀ r:Bool,(r=true↔a=b)->Q (.d (.bl (!r))) n
theorem zoF:F2 Pn false zmP znm:=⟨by
 rintro A H x y wx wy n Q R al bx byy P ⟨a,b,e1,e2,o1,o2,h⟩ k
 subst e1 e2
 exact ⟨a,b,bx.is,byy.is,o1,o2,fun r hr=>k _ n _ H (h r hr) (Val.of rfl) (Go.refl P) fun z=>by cases z⟩⟩
theorem zoL:F2 Pn false zmS znq:=⟨by
 rintro A H x y wx wy n Q R al bx byy P ⟨a,b,e1,e2,o1,o2,h⟩ k
 subst e1 e2
 exact ⟨a,b,bx.is,byy.is,o1,o2,fun r hr=>k _ n _ H (h r hr) (Val.of rfl) (Go.refl P) fun z=>by cases z⟩⟩
theorem zhf {G:Hp}{l:List Dt}{xs:List V}{i:Int}{d:Dt}(h:IsL G l xs)(e:atI l i=some d):∃ v,atI xs i=some v/\Is G d v:=by
 unfold atI at e ⊢
 rw [h.length]
 obtain ⟨j,h1,h2⟩:=Option.bind_eq_some_iff.mp e
 obtain ⟨v,h3,h4⟩:=h.getD h2
 simp_all
def zno:W->W->Mo W:=fun x y n Q=>∃ l i d,x = .d (.tup l)/\y = .d (.int i)/\atI l i=some d/\Q (.d d) n
def znn:W->W->Mo W:=fun x y n Q=>∃ l i d,x = .d (.lst l)/\y = .d (.int i)/\atI l i=some d/\Q (.d d) n
theorem zoH:F2 Pn false (zmR K) zno:=⟨by
 rintro A H x y wx wy n Q R al bx byy P ⟨l,i,d,e1,e2,e,h⟩ k
 subst e1 e2
 obtain ⟨a,xs,ea,ha,hl⟩:=xx bx
 obtain ⟨v,h1,h2⟩:=zhf hl e
 exact ⟨a,xs,i,v,ea,yP byy,.of ha,h1,k _ n _ H h (Val.of h2) (Go.refl P) fun z=>by cases z⟩⟩
theorem zoG:F2 Pn false (zmQ K) znn:=⟨by
 rintro A H x y wx wy n Q R al bx byy P ⟨l,i,d,e1,e2,e,h⟩ k
 subst e1 e2
 obtain ⟨a,xs,ea,ha,hl⟩:=xU bx
 obtain ⟨v,h1,h2⟩:=zhf hl e
 exact ⟨a,xs,i,v,ea,yP byy,.of ha,h1,k _ n _ H h (Val.of h2) (Go.refl P) fun z=>by cases z⟩⟩
def zhR:W->W->Mo W:=fun x y n Q=>∃ l m,x = .d (.tup l)/\y = .d (.tup m)/\l.length+m.length<=lim/\Q (.d (.tup (l++m))) n
theorem zmw:F2 Pn false (zfn K) zhR:=⟨by
 rintro A H x y wx wy n Q R al bx byy P ⟨l,m,e1,e2,z,h⟩ k
 subst e1 e2
 obtain ⟨a,xs,ea,ha,hl⟩:=xx bx
 obtain ⟨b,ys,eb,hb,hm⟩:=xx byy
 refine ⟨a,b,xs,ys,ea,eb,ha,hb,zdm (by rw [hl.length,hm.length];exact z),fun p H' g S=>?_⟩
 exact k _ n _ H' h (zap (hl.append hm) (zn.same S) (al.noT' (zn.same S) g) g) (Go.same P S) fun z=>by cases z⟩
@[reducible] def lenD:W->Option Nat
 | .d (.lst l)=>some l.length
 | .d (.tup l)=>some l.length
 | _=>none
def znp:List W->Mo W:=fun ws n Q=>∃ x k,ws=[x]/\lenD x=some k/\Q (.d (.int (k:Int))) n
theorem zbz {w:W}{vs:List V}(h:zjY A H [w] vs):∃ v,vs=[v]/\Bor A H w v:=by
 obtain ⟨v,r,e,h1,h2⟩:=h
 cases h2
 exact ⟨v,e,h1⟩
theorem zoI:FL Pn false (fun xs H Q=>∃ x n,xs=[x]/\zmB K x H n/\Q (.int n) H) znp:=⟨by
 rintro A H xs ws n Q R al b P ⟨x,j,e1,e2,h⟩ k
 subst e1
 obtain ⟨v,rfl,bb⟩:=zbz b
 refine ⟨v,j,rfl,?_,k _ n _ H h (Val.of rfl) (Go.refl P) fun z=>by cases z⟩
 cases x with
 | d x=>
  cases x with
  | lst l=>
   cases e2
   obtain ⟨a,ys,rfl,ha,hl⟩:=xU bb
   exact .inl ⟨ys,.of ha,hl.length.symm⟩
  | tup l=>
   cases e2
   obtain ⟨a,ys,rfl,ha,hl⟩:=xx bb
   exact .inr ⟨ys,.of ha,hl.length.symm⟩
  | _=>cases e2
 | _=>cases e2⟩
theorem zcu {G:Hp}:∀ {bs:List Bool} {xs:List V},IsL G (bs.map .bl) xs->xs=bs.map V.bl
 | [],_,h=>h
 | b::bs,xs,h=>by
  obtain ⟨y,r,rfl,h1,h2⟩:=h
  cases h1
  rw [zcu h2]
  rfl
def znk:List W->Mo W:=fun ws n Q=>∃ bs:List Bool,ws=[.d (.lst (bs.map .bl))]/\Q (.d (.bl (bs.all id))) n
theorem zoD:FL Pn false (fun xs H Q=>∃ (p:Addr) (bs:List Bool),xs=[.ref p]/\H p=some (.lst (bs.map V.bl))/\Q (.bl (bs.all id)) H) znk:=⟨by
 rintro A H xs ws n Q R al b P ⟨bs,e1,h⟩ k
 subst e1
 obtain ⟨v,rfl,bb⟩:=zbz b
 obtain ⟨a,ys,rfl,ha,hl⟩:=xU bb
 obtain rfl:=zcu hl
 exact ⟨a,bs,rfl,ha,k _ n _ H h (Val.of rfl) (Go.refl P) fun z=>by cases z⟩⟩
def zhc:List W->Mo W:=fun ws n Q=>∃ l,(ws=[.d (.lst l)]\/ws=[.d (.tup l)])/\Q (.d (.tup l)) n
theorem zjW:FL Pn false (zcV K) zhc:=⟨by
 rintro A H xs ws n Q R al b P ⟨l,e1,h⟩ k
 rcases e1 with rfl | rfl
 ·obtain ⟨v,rfl,bb⟩:=zbz b
  obtain ⟨a,ys,rfl,ha,hl⟩:=xU bb
  exact ⟨a,ys,rfl,.inl ⟨.of ha,fun p H' np g S=>k _ n _ H' h (zap hl (zn.same S) (al.new np) g) (Go.same P S) fun z=>by cases z⟩⟩
 ·obtain ⟨v,rfl,bb⟩:=zbz b
  obtain ⟨a,ys,e,ha,hl⟩:=id bb
  subst e
  exact ⟨a,ys,rfl,.inr ⟨.of (zj _ _ ha),k _ n _ H h (Val.of ⟨a,ys,rfl,ha,hl⟩) (Go.refl P) fun z=>by cases z⟩⟩⟩
def zb9 {α:Type}(xs:List α)(lo hi:Option Int):List α:=(xs.drop (HT.sIx xs.length 0 lo)).take (HT.sIx xs.length xs.length hi - HT.sIx xs.length 0 lo)
theorem zif {G:Hp}{l:List Dt}{xs:List V}{lo hi:Option Int}(h:IsL G l xs):IsL G (zb9 l lo hi) (zd1 xs lo hi):=by
 unfold zb9 zd1
 rw [h.length]
 exact (h.drop _).take _
def ym {κ:Type}[DecidableEq κ](kvs:List (κ×Dt))(k:κ):Option Dt:=(kvs.find? fun q=>decide (q.1=k)).map (·.2)
theorem zcc.look {κ:Type}[DecidableEq κ]{G:Hp}{k:κ}:∀ {kvs:List (κ×Dt)} {ks:List (κ×V)},zcc G kvs ks->(ym kvs k=none->uH ks k=none)/\∀ d,ym kvs k=some d->∃ v,uH ks k=some v/\Is G d v
 | [],_,h=>by cases h;exact ⟨fun _=>rfl,fun d e=>by cases e⟩
 | q::r,ks,⟨v,s,e,h1,h2⟩=>by
  subst e
  have ih:=zcc.look (k:=k) h2
  by_cases hk:q.1=k
  ·refine ⟨fun z=>?_,fun d z=>?_⟩
   ·simp [ym,List.find?_cons,hk] at z
   ·simp [ym,List.find?_cons,hk] at z
    subst z
    exact ⟨v,yW hk,h1⟩
  ·have e1:ym (q::r) k=ym r k:=by simp [ym,List.find?_cons,hk]
   rw [e1,yF hk]
   exact ih
end
open PySem L2
section
variable {X:Cx}{Pn:PN}{M S:List Nat}{fr:Bool}{e a b c:Expr}{es:List Expr}{f fa fb fc:Ev->Mo W}{pos p:Pos}
theorem zav {r:R2}{F:W->W->Mo W}(hx:IxQ X r)(hr:F2 Pn fr r F)(ha:JB X Pn M a fa)(hb:JB X Pn M b fb)(hs:zcd b):JE X Pn M fr (.Subscript a b pos) (zkQ F fa fb):=by
 obtain ⟨ta,qa,ra⟩:=ha.ex
 obtain ⟨tb,qb,rb⟩:=hb.ex
 exact ⟨_,zlL hx qa qb hs,zgP hr ra rb⟩
@[reducible] def ziL:Ev->Mo (Option Int):=fun _ n Q=>Q none n
def ziM (fa:Ev->Mo W):Ev->Mo (Option Int):=fun ρ n Q=>fa ρ n fun x m=>∃ i,x = .d (.int i)/\Q (some i) m
theorem xC:JO X Pn M none ziL:=⟨_,zfh,fun A σ H ρ n Q R E P hf k=>k none n H hf (Go.refl P)⟩
theorem xD (h:JB X Pn M e f):JO X Pn M (some e) (ziM f):=by
 obtain ⟨te,q,r⟩:=h.ex
 refine ⟨_,zfi q,fun A σ H ρ n Q R E P hf k=>?_⟩
 refine r.run A σ H ρ n _ _ E P hf  ?_
 rintro w m v H' ⟨i,e,r⟩ bb g
 subst e
 exact ⟨i,yP bb,k (some i) m H' r g⟩
def znV (fa:Ev->Mo W)(fl fh:Ev->Mo (Option Int)):Ev->Mo W:=fun ρ n Q=>fa ρ n fun x n1=>fl ρ n1 fun lo n2=>fh ρ n2 fun hi n3=>∃ l,x = .d (.tup l)/\Q (.d (.tup (zb9 l lo hi))) n3
theorem zcw {lo hi:Option Expr}{fl fh:Ev->Mo (Option Int)}{p2:Pos}(he:JB X Pn M e f)(hl:JO X Pn M lo fl)(hh:JO X Pn M hi fh):JE X Pn M false (.Subscript e (.Slice lo hi none p2) pos) (znV f fl fh):=by
 obtain ⟨te,qe,re⟩:=he.ex
 obtain ⟨tl,ql,rl⟩:=hl.ex
 obtain ⟨th,qh,rh⟩:=hh.ex
 refine ⟨_,zdq zjN qe ql qh,⟨fun A σ H ρ n Q R E P hf k=>?_⟩⟩
 refine re.run A σ H ρ n _ _ E P hf fun w m v H1 r1 bb g1=>?_
 refine rl A σ H1 ρ m _ _ (E.stay g1.st) g1.pn r1 fun o m2 H2 r2 g2=>?_
 refine rh A σ H2 ρ m2 _ _ ((E.stay g1.st).stay g2.st) g2.pn r2  ?_
 rintro o3 m3 H3 ⟨l,e,r3⟩ g3
 subst e
 have g:=(g1.trans g2).trans g3
 obtain ⟨ad,xs,rfl,ha,hl⟩:=xx (bb.stay (g2.trans g3).st)
 exact ⟨ad,xs,rfl,ha,fun p H' gp S=>k _ m3 _ H' r3 (zap (zif hl) (zn.same S) (Al.noT' (E.stay g.st).al (zn.same S) gp) gp) (g.trans (Go.same g3.pn S)) fun z=>by cases z⟩
theorem zcv {G:Hp}:∀ {ds:List Dt} {xs:List V},IsL G ds xs->IsL G ds.reverse xs.reverse
 | [],_,h=>by cases h;rfl
 | d::ds,xs,h=>by
  obtain ⟨x,r,rfl,h1,h2⟩:=h
  rw [List.reverse_cons,List.reverse_cons]
  exact (zcv h2).append (IsL.one h1)
def ziO (fa:Ev->Mo W):Ev->Mo W:=fun ρ n Q=>fa ρ n fun x m=>∃ l,x = .d (.tup l)/\Q (.d (.tup l.reverse)) m
theorem zkF {j:Nat}{p2 p3 p4:Pos}(he:JB X Pn M e f):JE X Pn M false (.Subscript e (.Slice none none (some (.UnaryOp .USub (.Constant (.int 1) j p4) p3)) p2) pos) (ziO f):=by
 obtain ⟨te,qe,re⟩:=he.ex
 refine ⟨_,zjv qe,⟨fun A σ H ρ n Q R E P hf k=>?_⟩⟩
 refine re.run A σ H ρ n _ _ E P hf  ?_
 rintro w m v H1 ⟨l,e,r⟩ bb g
 subst e
 obtain ⟨ad,xs,rfl,ha,hl⟩:=xx bb
 exact ⟨ad,xs,rfl,ha,fun p H' np gp S=>k _ m _ H' r (zap (zcv hl) (zn.same S) ((E.stay g.st).new np) gp) (g.trans (Go.same g.pn S)) fun z=>by cases z⟩
@[reducible] def ziy:W->Option Key
 | .d (.int i)=>some (Sum.inl i)
 | .d (.str x)=>some (Sum.inr x)
 | _=>none
theorem zhi {A:Addr->Prop}{H:Hp}{w:W}{v:V}{k:Key}(h:Bor A H w v)(e:ziy w=some k):v=kV k:=by
 cases w with
 | d x=>
  cases x with
  | int i=>cases e;exact h
  | str i=>cases e;exact h
  | _=>cases e
 | _=>cases e
def ziE (fd fk:Ev->Mo W):Ev->Mo W:=fun ρ n Q=>fd ρ n fun x n1=>fk ρ n1 fun y n2=>∃ kvs k d,x = .dk kvs/\ziy y=some k/\ym kvs k=some d/\Q (.d d) n2
def zkS (neg:Bool)(fk fd:Ev->Mo W):Ev->Mo W:=fun ρ n Q=>fk ρ n fun y n1=>fd ρ n1 fun x n2=>∃ kvs k,x = .dk kvs/\ziy y=some k/\Q (.d (.bl (if neg then !(ym kvs k).isSome else (ym kvs k).isSome))) n2
theorem zg5 {A:Addr->Prop}{H:Hp}{kvs:List (Key×Dt)}{v:V}(h:Bor A H (.dk kvs) v):∃ a ks,v = .ref a/\H a=some (.dK ks)/\zcc (zM A H) kvs ks/\uH ks (Sum.inr "at" : Key)=none:=h
theorem zkE (hu:X.A.units+1<cLine)(ha:JB X Pn M a fa)(hb:JB X Pn M b fb)(hs:zmD b):JE X Pn M false (.Subscript a b pos) (ziE fa fb):=by
 obtain ⟨ta,qa,ra⟩:=ha.ex
 obtain ⟨tb,qb,rb⟩:=hb.ex
 refine ⟨_,yT hu qa qb hs,⟨fun A σ H ρ n Q R E P hf k=>?_⟩⟩
 refine ra.run A σ H ρ n _ _ E P hf fun w1 m1 v1 H1 r1 b1 g1=>?_
 refine rb.run A σ H1 ρ m1 _ _ (E.stay g1.st) g1.pn r1  ?_
 rintro w2 m2 v2 H2 ⟨kvs,ky,d,e1,e2,e3,r⟩ b2 g2
 subst e1
 obtain ⟨ad,ks,rfl,had,hk,_⟩:=zg5 (b1.stay g2.st)
 obtain ⟨v,h1,h2⟩:=(hk.look (k:=ky)).2 d e3
 refine ⟨ad,v,rfl,?_,k _ m2 _ H2 r (Val.of h2) (g1.trans g2) fun z=>by cases z⟩
 rw [zhi b2 e2,<- h1]
 exact zcb.k had
theorem zlV {ta tb:TE}(ra:RB Pn M ta fa)(rb:RB Pn M tb fb):RE Pn M false (zos ta tb) (zkS false fa fb):=⟨fun A σ H ρ n Q R E P hf k=>by
 refine ra.run A σ H ρ n _ _ E P hf fun w1 m1 v1 H1 r1 b1 g1=>?_
 refine rb.run A σ H1 ρ m1 _ _ (E.stay g1.st) g1.pn r1  ?_
 rintro w2 m2 v2 H2 ⟨kvs,ky,e1,e2,r⟩ b2 g2
 subst e1
 obtain ⟨ad,ks,rfl,had,hk,_⟩:=zg5 b2
 refine ⟨ad,uH ks ky,rfl,by rw [zhi b1 e2];exact zcb.k had,k _ m2 _ H2 r (Val.of ?_) (g1.trans g2) fun z=>by cases z⟩
 have:(uH ks ky).isSome=(ym kvs ky).isSome:=by
  cases e:ym kvs ky with
  | none=>rw [(hk.look (k:=ky)).1 e];rfl
  | some d=>obtain ⟨v,h1,_⟩:=(hk.look (k:=ky)).2 d e;rw [h1];rfl
 rw [this]
 rfl⟩
theorem zkJ (hu:X.A.units+1<cLine)(ha:JB X Pn M a fa)(hb:JB X Pn M b fb)(h1:behindInMarks .In b=false:=by first | exact za7 _ (by decide) (by decide) | rfl):JT X Pn M (.Compare a [.In] [b] pos) (zhl (zkS false fa fb)):=by
 obtain ⟨ta,qa,ra⟩:=ha.ex
 obtain ⟨tb,qb,rb⟩:=hb.ex
 exact ⟨_,zlQ (zlH hu qa qb) h1,zom (zlV ra rb).rb⟩
@[reducible] def prD (q:Int×Dt):Dt:=.tup [.int q.1,q.2]
def kvD (q:Int×Dt):Key×Dt:=(Sum.inl q.1,q.2)
def zez:List W->Mo W:=fun ws n Q=>∃ ps:List (Int×Dt),ws=[.d (.tup (ps.map prD))]/\(ps.map (·.1)).Nodup/\ps.length<=1000/\Q (.dk (ps.map kvD)) n
theorem zht {G H:Hp}(s:yk G H):∀ {ps:List (Int×Dt)} {xs:List V},IsL G (ps.map prD) xs->∃ qs:List (Addr×Int×V),xs=qs.map (fun q=>V.ref q.1)/\(∀ q∈qs,H q.1=some (.tup [.int q.2.1,q.2.2]))/\qs.map (·.2.1)=ps.map (·.1)/\zcc G (ps.map kvD) (qs.map fun q=>((Sum.inl q.2.1:Key),q.2.2))
 | [],xs,h=>by cases h;exact ⟨[],rfl,fun _ h=>by simp at h,rfl,rfl⟩
 | p::ps,xs,h=>by
  obtain ⟨x,r,rfl,⟨ad,ys,rfl,had,y0,r0,rfl,h0,y1,r1,rfl,h1,h2⟩,hr⟩:=h
  cases h0
  cases h2
  obtain ⟨qs,rfl,a1,a2,a3⟩:=zht s hr
  refine ⟨(ad,p.1,y1)::qs,rfl,fun q hq=>?_,by simp_all,y1,_,rfl,h1,a3⟩
  rcases List.mem_cons.mp hq with rfl | hq
  ·exact s _ _ had
  ·exact a1 q hq
theorem zdw (ps:List (Addr×Int×V)):uH (ps.map fun q=>((Sum.inl q.2.1:Key),q.2.2)) (Sum.inr "at" : Key)=none:=by
 induction ps with
 | nil=>rfl
 | cons q ps ih=>
  rw [List.map_cons,yF (by simp)]
  exact ih
theorem zjV:FL Pn true zfo zez:=⟨by
 rintro A H xs ws n Q R al b P ⟨ps,e1,hnd,hz,h⟩ k
 subst e1
 obtain ⟨v,rfl,bb⟩:=zbz b
 obtain ⟨ad,ys,rfl,had,hl⟩:=xx bb
 obtain ⟨qs,rfl,a1,a2,a3⟩:=zht zj hl
 have hlen:qs.length=ps.length:=by have:=congrArg List.length a2;simpa using this
 refine ⟨ad,qs,rfl,⟨had,a1⟩,by rw [a2];exact hnd,by lia,fun p H' np g S=>?_⟩
 exact k _ n _ H' h ⟨p,_,rfl,zm (al.new np) g,a3.stay (zP (zn.same S)),zdw qs⟩ (Go.same P S) fun z=>⟨p,rfl,.of np,p,_,rfl,g,a3.stay (yv (zn.same S) (.of np)),zdw qs⟩⟩
def spV (k:Nat)(fr:Bool)(F:PN->List W->Mo W):Sp:=fun vs H Q _=>∃ Pn A ws n R,Al A H/\zaD A H ws vs/\ws.length=k/\yX Pn A n H/\F Pn ws n R/\∀ w m v H',R w m->Val A H' w v->Go Pn A H m H'->(fr=true->FrV A H H' w v)->Q v H'
def mFn (k:Nat)(F:List W->Mo W)(fa:Ev->Mo (List W)):Ev->Mo W:=fun ρ n Q=>fa ρ n fun ws m=>ws.length=k/\F ws m Q
theorem zok {k:Nat}{F:PN->List W->Mo W}{ta:TA}{fs:Ev->Mo (List W)}(ha:RA Pn M ta fs):RE Pn M fr (zc1 (spV k fr F) [] E0 ta) (mFn k (F Pn) fs):=⟨fun A σ H ρ n Q R E P hf kk=>by
 refine ha.run A σ H ρ n _ _ E P hf  ?_
 rintro ws m vs H1 ⟨hk,r⟩ b g
 rw [List.append_nil]
 exact ⟨Pn,A,ws,m,R,(E.stay g.st).al,b,hk,g.pn,r,fun w m' v H' h1 h2 h3 h4=>kk w m' v H' h1 h2 (g.trans h3) fun z=>(h4 z).back g.st⟩⟩
theorem yA {x:Str}{st:Stmt}{ps:List Str}{fA:Addr}{fd:FuncData}{k:Nat}{F:PN->List W->Mo W}{j kk:Nat}{fs:Ev->Mo (List W)}(D:Dfn X.K X.mg x st ps fA fd)(G:FnOk X.prog X.w X.K X.mg X.base CX0 j fA fd ps (spV k fr F))(hr:Room kk X.A)
  (ha:JA X Pn M (e::es) fs) (hjk:j<=kk:=by decide) (hg:Gl X x:=by rfl) (hdb:(x==("__debug__" : Str))=false:=by decide) (he:starEach (e::es) X.env=(false,eval e X.env)::starEach es X.env:=by rfl) (hpl:(backTo pos (starEach es X.env)).any (·.1)=false:=by rfl) :
  JE X Pn M fr (.Call (.Name x p) (e::es) [] pos) (mFn k (F Pn) fs):=by
 obtain ⟨ta,qa,ra⟩:=ha.ex
 exact ⟨_,zjt D G hr qa hjk hg hdb he hpl,zok ra⟩
@[reducible] def W.flat (fr:Bool):W->Bool
 | .d (.lst l)=>fr&&Dt.noLs l
 | .d x=>x.noL
 | .pen _=>true
 | .dk _=>false
 | .dt _=>false
 | .ss _ _ _=>false
 | .df _=>false
 | .kf _=>false
 | .fl _=>false
 | .ad _ _=>false
 | .tz _ _=>false
theorem zf9 {A A':Addr->Prop}{H H':Hp}{w:W}{v:V}(al:Al A H)(s:zn H H')(h:Val A' H' w v)(hf:fr=true->FrV A' H H' w v)(fl:w.flat fr=true):Val A H' w v:=by
 have al':=al.stay s
 cases w with
 | d x=>
  cases x with
  | lst l=>
   rw [show W.flat fr (.d (.lst l))=(fr&&Dt.noLs l) from rfl,Bool.and_eq_true] at fl
   obtain ⟨ad,xs,rfl,had,hl⟩:=h
   obtain ⟨a2,e2,f2,_⟩:=hf fl.1
   cases e2
   have hn:¬ A ad:=fun z=>by
    obtain ⟨o,o1,o2,_⟩:=al ad z
    exact f2 o o1 o2
   exact ⟨ad,xs,rfl,zm hn (zj _ _ had),xY al'.noT fl.2 (hl.stay (zn.same zj))⟩
  | dct=>cases fl
  | non=>exact h
  | bl c=>exact h
  | int c=>exact h
  | str c=>exact h
  | tup l=>exact Val.of (zhh al'.noT fl ((Val.is h).stay (zn.same zj)))
 | pen p=>exact h
 | dk kvs=>cases fl
 | dt kvs=>cases fl
 | ss P w kvs=>cases fl
 | df kvs=>cases fl
 | kf kvs=>cases fl
 | fl kvs=>cases fl
 | ad a x=>cases fl
 | tz kvs x=>cases fl
theorem zf8 {A A':Addr->Prop}{H H':Hp}{w:W}{v:V}(al:Al A H)(s:zn H H')(h:Val A' H' w v)(hf:FrV A' H H' w v)(fl:w.flat true=true):FrV A H H' w v:=by
 obtain ⟨a2,e2,f2,h2⟩:=hf
 refine ⟨a2,e2,f2,?_⟩
 have al':=al.stay s
 cases w with
 | d x=>
  cases x with
  | lst l=>
   obtain ⟨ad,xs,e,had,hl⟩:=h2
   rw [e2] at e
   cases e
   refine ⟨a2,xs,e2,had,xY (fun b ys z g=>?_) (by lia) (hl.stay (zn.same zj))⟩
   rcases z with z | z
   ·exact al'.noT b ys z g
   ·grind
  | tup l=>
   obtain ⟨ad,xs,e,had,_⟩:=h2
   rw [e2] at e
   cases e
   exact absurd rfl (fun z=>(zO.mp had).1 (.inr z))
  | dct=>cases fl
  | non=>exact h2
  | bl c=>exact h2
  | int c=>exact h2
  | str c=>exact h2
 | pen p=>exact h2
 | dk kvs=>cases fl
 | dt kvs=>cases fl
 | ss P w kvs=>cases fl
 | df kvs=>cases fl
 | kf kvs=>cases fl
 | fl kvs=>cases fl
 | ad a x=>cases fl
 | tz kvs x=>cases fl
def znH (A:Addr->Prop)(vs:List V):Addr->Prop:=fun b=>A b/\V.ref b∉vs
theorem zc9 {A:Addr->Prop}{H:Hp}{all:List V}:∀ {ws:List W} {vs:List V},(∀ v∈vs,v∈all)->zjY A H ws vs->zaD (znH A all) H ws vs
 | [],vs,_,h=>h
 | w::ws,vs,hs,⟨v,r,e,h1,h2⟩=>by
  subst e
  refine ⟨v,r,rfl,?_,zc9 (by grind) h2⟩
  have hv:=hs v List.mem_cons_self
  have less:yk (zM A H) (zM (znH A all) H):=yh fun b z=>z.1
  cases w with
  | d x=>
   cases x with
   | lst l=>obtain ⟨ad,xs,rfl,had,hl⟩:=h1;exact ⟨ad,xs,rfl,zm (fun z=>z.2 hv) had,hl.stay (zn.same less)⟩
   | dct=>obtain ⟨ad,xs,rfl,had,hl⟩:=h1;exact ⟨ad,xs,rfl,zm (fun z=>z.2 hv) had,hl⟩
   | non=>exact h1
   | bl c=>exact h1
   | int c=>exact h1
   | str c=>exact h1
   | tup l=>exact Is.stay (zn.same less) h1
  | pen p=>exact h1
  | dk kvs=>obtain ⟨ad,xs,rfl,had,hl,hn⟩:=h1;exact ⟨ad,xs,rfl,zm (fun z=>z.2 hv) had,hl.stay (zn.same less),hn⟩
  | dt kvs=>obtain ⟨ad,xs,rfl,had,hl⟩:=h1;exact ⟨ad,xs,rfl,zm (fun z=>z.2 hv) had,hl.stay (zn.same less)⟩
  | ss P w kvs=>obtain ⟨ad,xs,rfl,had,hl⟩:=h1;exact ⟨ad,xs,rfl,zm (fun z=>z.2 hv) had,hl.stay (zn.same less)⟩
  | df kvs=>obtain ⟨ad,ob,xs,rfl,had,hl⟩:=h1;exact ⟨ad,ob,xs,rfl,zm (fun z=>z.2 hv) had,hl.stay (zn.same less)⟩
  | kf kvs=>obtain ⟨ad,ob,xs,rfl,had,hl⟩:=h1;exact ⟨ad,ob,xs,rfl,zm (fun z=>z.2 hv) had,hl.stay (zn.same less)⟩
  | fl kvs=>obtain ⟨ad,ob,xs,rfl,had,hl⟩:=h1;exact ⟨ad,ob,xs,rfl,zm (fun z=>z.2 hv) had,hl.stay (zn.same less)⟩
  | ad a x=>exact ⟨h1.1,Is.stay (zaK (zn.same less)) h1.2⟩
  | tz kvs x=>obtain ⟨a,b,ob,ks,y,e,z1,z2,z3,z4⟩:=h1;exact ⟨a,b,ob,ks,y,e,less _ _ z1,less _ _ z2,z3.stay (zn.same less),z4.stay (zn.same less)⟩
theorem yX.more {A A':Addr->Prop}{n m:Nat}{H H':Hp}(h:yX Pn A n H)(h':yX Pn A' m H')(hA:∀ a,A a->A' a\/∃ o,H' a=some o/\NP o/\Mt o):yX Pn A m H':=by
 refine ⟨?_,Pn.J.grow h'.2 hA⟩
 have h:=h.1
 have h':=h'.1
 split at h
 all_goals simp_all
theorem yX.less {A A':Addr->Prop}{n:Nat}{H:Hp}(h:yX Pn A n H)(s:∀ a,A' a->A a):yX Pn A' n H:=by
 refine ⟨?_,Pn.J.grow h.2 fun a z=>.inl (s a z)⟩
 have h:=h.1
 split at h
 ·trivial
 ·exact ⟨h.1,fun z=>h.2.1 (s _ z),fun z=>h.2.2 (s _ z)⟩
def zmJ (k:Nat)(fr:Bool)(F:List W->Mo W)(fa:Ev->Mo (List W)):Ev->Mo W:=fun ρ n Q=>fa ρ n fun ws m=>ws.length=k/\F ws m fun w m'=>w.flat fr=true/\Q w m'
theorem zlW {k:Nat}{F:PN->List W->Mo W}{ta:TA}{fs:Ev->Mo (List W)}(ha:RAB Pn M ta fs):RE Pn M fr (zc1 (spV k fr F) [] E0 ta) (zmJ k fr (F Pn) fs):=⟨fun A σ H ρ n Q R E P hf kk=>by
 refine ha.run A σ H ρ n _ _ E P hf  ?_
 rintro ws m vs H1 ⟨hk,r⟩ b g
 rw [List.append_nil]
 have al:=(E.stay g.st).al
 refine ⟨Pn,znH A vs,ws,m,_,fun a z=>al a z.1,zc9 (fun _ z=>z) b,hk,g.pn.less fun a z=>z.1,r,?_⟩
 rintro w m' v H' ⟨fl,h1⟩ h2 h3 h4
 refine kk w m' v H' h1 (zf9 al h3.st h2 h4 fl) (g.trans ⟨h3.st,g.pn.more h3.pn fun a z=>let ⟨o,o1,o2,o3⟩:=al a z;.inr ⟨o,h3.st _ _ o1 o2,o2,o3⟩⟩) fun z=>?_
 subst z
 exact (zf8 al h3.st h2 (h4 rfl) fl).back g.st⟩
theorem znz {x:Str}{st:Stmt}{ps:List Str}{fA:Addr}{fd:FuncData}{k:Nat}{F:PN->List W->Mo W}{j kk:Nat}{fs:Ev->Mo (List W)}(D:Dfn X.K X.mg x st ps fA fd)(G:FnOk X.prog X.w X.K X.mg X.base CX0 j fA fd ps (spV k fr F))(hr:Room kk X.A)
  (ha:JAB X Pn M (e::es) fs) (hjk:j<=kk:=by decide) (hg:Gl X x:=by rfl) (hdb:(x==("__debug__" : Str))=false:=by decide) (he:starEach (e::es) X.env=(false,eval e X.env)::starEach es X.env:=by rfl) (hpl:(backTo pos (starEach es X.env)).any (·.1)=false:=by rfl) :
  JE X Pn M fr (.Call (.Name x p) (e::es) [] pos) (zmJ k fr (F Pn) fs):=by
 obtain ⟨ta,qa,ra⟩:=ha.ex
 exact ⟨_,zjt D G hr qa hjk hg hdb he hpl,zlW ra⟩
end
open PySem L2
structure JG (X:Cx)(S M:List Nat)(e:Expr)(mg:W->Ev->(Ev->Prop)->Prop):Prop where
 ex:∃ g,QG X e g/\RG S M g mg
structure JGs (X:Cx)(S M:List Nat)(es:List Expr)(mg:List Dt->Ev->(Ev->Prop)->Prop):Prop where
 ex:∃ g,QGs X es g/\RGs S M g mg
structure JI (X:Cx)(Pn:PN)(M:List Nat)(ow:Bool)(tg e:Expr)(f:Ev->Mo (List W)):Prop where
 ex:∃ wi,QI X tg e wi/\RI Pn M ow wi f
structure JTs (X:Cx)(Pn:PN)(M:List Nat)(es:List Expr)(f:Ev->Mo Bool):Prop where
 ex:∃ t,QTs X es t/\RT Pn M t f
section
variable {X:Cx}{Pn:PN}{M S:List Nat}{fr:Bool}{e a b c:Expr}{es:List Expr}{f fa fb fc:Ev->Mo W}{pos p:Pos}
def gN (i:Nat):W->Ev->(Ev->Prop)->Prop:=fun w ρ Q=>Q (ρ.set i (some w))
def gNl:List Dt->Ev->(Ev->Prop)->Prop:=fun ds ρ Q=>ds=[]/\Q ρ
def gCn (g:W->Ev->(Ev->Prop)->Prop)(u:List Dt->Ev->(Ev->Prop)->Prop):List Dt->Ev->(Ev->Prop)->Prop:=fun ds ρ Q=>∃ d r,ds=d::r/\g (.d d) ρ fun ρ'=>u r ρ' Q
def gTp (n:Nat)(u:List Dt->Ev->(Ev->Prop)->Prop):W->Ev->(Ev->Prop)->Prop:=fun w ρ Q=>∃ ds,w = .d (.tup ds)/\ds.length=n/\u ds ρ Q
theorem EnvR.set {A:Addr->Prop}{σ:St}{H:Hp}{ρ:Ev}(E:EnvR A M σ H ρ){i:Nat}{w:W}{v:V}(hi:i∉M)(h:Val A H w v):EnvR A M (σ.set i (some v)) H (ρ.set i (some w)) where
 len:=by rw [List.length_set,List.length_set];exact E.len
 val:=fun j u e=>by
  by_cases hj:j=i
  ·subst hj
   have hl:j<ρ.length:=by
    have:=(List.getElem?_eq_some_iff.mp e).1
    simp_all
   rw [List.getElem?_set_self hl] at e
   cases e
   exact ⟨v,List.getElem?_set_self (by rw [E.len];exact hl),fun _=>h,fun z=>absurd z hi⟩
  ·rw [List.getElem?_set_ne (Ne.symm hj)] at e ⊢
   exact E.val j u e
 dis:=fun j k u u' ad hj hk hne e1 e2 s1=>by
  have hj':i≠j:=fun z=>hi (z ▸ hj)
  have hk':i≠k:=fun z=>hi (z ▸ hk)
  rw [List.getElem?_set_ne hj'] at e1 s1
  rw [List.getElem?_set_ne hk'] at e2 ⊢
  exact E.dis j k u u' ad hj hk hne e1 e2 s1
 al:=E.al
theorem zcX {i:Nat}(hi:i∉M)(hs:i∉S):RG S M (uy i) (gN i):=⟨fun A σ H ρ v w Q R E h r k=>k _ _ r (E.set hi h) fun j hj=>⟨List.getElem?_set_ne fun (z:i=j)=>hs (by rw [z];exact hj),List.getElem?_set_ne fun (z:i=j)=>hs (by rw [z];exact hj)⟩⟩
theorem zk {i:Nat}{x:Str}(hN:X.N.Nodup)(hx:X.N[i]?=some x:=by rfl)(hl:Loc X.env.scope x:=by first | exact Or.inl rfl | exact Or.inr rfl)(hi:i∉M:=by decide)(hs:i∉S:=by decide)(hf:X.fn x=true\/X.env.scope.names.lookup x=some .local:=by first | exact .inl rfl | exact .inr rfl | assumption):JG X S M (.Name x pos) (gN i):=⟨_,zad hN hx hl hf,zcX hi hs⟩
theorem xa:JGs X S M [] gNl:=⟨_,zjx,⟨by
 rintro A σ H ρ vs ds Q R E h ⟨e,r⟩ k
 subst e
 exact ⟨h,k σ ρ r E fun _ _=>⟨rfl,rfl⟩⟩⟩⟩
theorem zA {g:W->Ev->(Ev->Prop)->Prop}{u:List Dt->Ev->(Ev->Prop)->Prop}(h1:JG X S M e g)(h2:JGs X S M es u)(hs:(assignEach (e::es) X.env).map (·.2)=assign e X.env::(assignEach es X.env).map (·.2):=by rfl):JGs X S M (e::es) (gCn g u):=by
 obtain ⟨t1,q1,r1⟩:=h1.ex
 obtain ⟨t2,q2,r2⟩:=h2.ex
 refine ⟨_,zgM q1 q2 hs,⟨ ?_⟩⟩
 rintro A σ H ρ vs ds Q R E h ⟨d,r,e,hg⟩ k
 subst e
 obtain ⟨v,s,rfl,hv,hr⟩:=h
 refine ⟨v,s,rfl,?_⟩
 refine r1.run A σ H ρ v _ _ _ E (Val.of hv) hg fun σ' ρ' hu E' f1=>?_
 exact r2.run A σ' H ρ' s _ _ _ E' hr hu fun σ2 ρ2 hR E2 f2=>k σ2 ρ2 hR E2 fun i hi=>⟨(f2 i hi).1.trans (f1 i hi).1,(f2 i hi).2.trans (f1 i hi).2⟩
theorem ug {k n:Nat}{u:List Dt->Ev->(Ev->Prop)->Prop}(K:PySem.W.Frag)(hK:X.K=K)(hc:X.calm=true)(h:JGs X S M es u)(hn:(assignEach es X.env).length=n:=by rfl)(hst:(assignEach es X.env).findIdx? (·.1)=none:=by rfl):JG X S M (.Tuple es k pos) (gTp n u):=by
 obtain ⟨t1,q1,r1⟩:=h.ex
 refine ⟨_,zjw K hK hc q1 hn hst,⟨ ?_⟩⟩
 rintro A σ H ρ v w Q R E h ⟨ds,e,hl,hu⟩ kk
 subst e
 obtain ⟨ad,xs,rfl,had,hx⟩:=h
 exact ⟨ad,xs,rfl,.of (zj _ _ had),by rw [hx.length];exact hl,r1.run A σ H ρ xs ds _ _ E hx hu kk⟩
def znQ (fa:Ev->Mo W):Ev->Mo (List W):=fun ρ n Q=>fa ρ n fun x m=>∃ l,x = .d (.lst l)/\Q (l.map W.d) m
def znS (fa:Ev->Mo W):Ev->Mo (List W):=fun ρ n Q=>fa ρ n fun x m=>∃ l,x = .d (.tup l)/\Q (l.map W.d) m
theorem zeK {G G':Hp}{l:List Dt}{xs:List V}{i:Nat}{w:W}(h:IsL G l xs)(e:(l.map W.d)[i]?=some w)(s:zn G G'):∃ d x,w = .d d/\xs[i]?=some x/\Is G' d x:=by
 rw [List.getElem?_map] at e
 obtain ⟨d,h1,rfl⟩:=Option.map_eq_some_iff.mp e
 obtain ⟨x,h2,h3⟩:=h.getD h1
 exact ⟨d,x,rfl,h2,h3.stay s⟩
theorem zgg {K:PySem.W.Frag}{A:Addr->Prop}{H:Hp}{ad:Addr}{xs:List V}{l:List Dt}(h:zM A H ad=some (.lst xs))(hl:IsL (zM A H) l xs):ItV false A H (Itl K ad) (l.map W.d) where
 one:=fun i w A2 H2 e s _ _=>by
  obtain ⟨d,x,rfl,hx,hd⟩:=zeK hl e s
  have g:=zj _ _ (s.lst h)
  refine ⟨⟨xs,x,.of g,hx⟩,?_⟩
  rintro y H3 ⟨e3,hy⟩
  subst e3
  have:=hy xs (.of g)
  rw [hx] at this
  cases this
  exact ⟨fun _ _ z=>z,Val.of hd⟩
 stop:=fun A2 H2 s _=>⟨xs,.of (zj _ _ (s.lst h)),by rw [List.length_map,hl.length];exact Nat.le_refl _⟩
theorem zih {K:PySem.W.Frag}{A:Addr->Prop}{H:Hp}{ad:Addr}{xs:List V}{l:List Dt}(h:zM A H ad=some (.tup xs))(hl:IsL (zM A H) l xs):ItV false A H (Itt K ad) (l.map W.d) where
 one:=fun i w A2 H2 e s _ _=>by
  obtain ⟨d,x,rfl,hx,hd⟩:=zeK hl e s
  have g:=zj _ _ (s.tup h)
  refine ⟨⟨xs,x,.of g,hx⟩,?_⟩
  rintro y H3 ⟨e3,hy⟩
  subst e3
  have:=hy xs (.of g)
  rw [hx] at this
  cases this
  exact ⟨fun _ _ z=>z,Val.of hd⟩
 stop:=fun A2 H2 s _=>⟨xs,.of (zj _ _ (s.tup h)),by rw [List.length_map,hl.length];exact Nat.le_refl _⟩
theorem xB {tg:Expr}(K:PySem.W.Frag)(hK:X.K=K)(h:JE X Pn M fr e f):JI X Pn M false tg e (znQ f):=by
 obtain ⟨te,q,r⟩:=h.ex
 refine ⟨_,zdr K hK q,⟨fun A σ H ρ n Q R E P hf k=>?_⟩⟩
 refine r.run A σ H ρ n _ _ E P hf  ?_
 rintro w m v H1 ⟨l,e,r⟩ hv g _
 subst e
 obtain ⟨ad,xs,rfl,had,hl⟩:=hv
 exact ⟨ad,rfl,⟨xs,.of (zj _ _ had)⟩,k _ m _ H1 r (zgg had hl) g⟩
theorem zbI {tg:Expr}(K:PySem.W.Frag)(hK:X.K=K)(h:JE X Pn M fr e f):JI X Pn M false tg e (znS f):=by
 obtain ⟨te,q,r⟩:=h.ex
 refine ⟨_,zjz K hK q,⟨fun A σ H ρ n Q R E P hf k=>?_⟩⟩
 refine r.run A σ H ρ n _ _ E P hf  ?_
 rintro w m v H1 ⟨l,e,r⟩ hv g _
 subst e
 obtain ⟨ad,xs,rfl,had,hl⟩:=hv
 exact ⟨ad,rfl,⟨xs,.of (zj _ _ had)⟩,k _ m _ H1 r (zih had hl) g⟩
def zdW (lo:Int)(n:Nat):List W:=(List.range n).map fun i:Nat=>W.d (.int (lo+i))
theorem zig {A:Addr->Prop}{H:Hp}{lo:Int}{n:Nat}:ItV false A H (Itr lo n) (zdW lo n) where
 one:=fun i w A2 H2 e s _ _=>by
  unfold zdW at e
  rw [List.getElem?_map] at e
  obtain ⟨j,h1,rfl⟩:=Option.map_eq_some_iff.mp e
  obtain ⟨hi,h2⟩:=List.getElem?_eq_some_iff.mp h1
  rw [List.getElem_range] at h2
  subst h2
  rw [List.length_range] at hi
  refine ⟨hi,?_⟩
  rintro y H3 ⟨e3,hy⟩
  subst e3 hy
  exact ⟨fun _ _ z=>z,Val.of rfl⟩
 stop:=fun A2 H2 s _=>by
  show n<=(zdW lo n).length
  unfold zdW
  simp_all
def znR (fa:Ev->Mo (List W)):Ev->Mo (List W):=fun ρ n Q=>fa ρ n fun ws m=>∃ j:Int,ws=[.d (.int j)]/\j<=1000000/\-1000000<=j/\Q (zdW 0 j.toNat) m
theorem yM {tg:Expr}{fs:Ev->Mo (List W)}(hg:Gl X "range")(hm:X.mg "range" = none)(ha:JAB X Pn M [a] fs)(hs:starEach [a] X.env=[(false,eval a X.env)]:=by rfl):JI X Pn M false tg (.Call (.Name "range" p) [a] [] pos) (znR fs):=by
 obtain ⟨te,q,r⟩:=ha.ex
 refine ⟨_,zfg hg hm q hs,⟨fun A σ H ρ n Q R E P hf k=>?_⟩⟩
 refine r.run A σ H ρ n _ _ E P hf  ?_
 rintro ws m vs H1 ⟨j,e,j1,j2,r⟩ hv g
 subst e
 obtain ⟨v,rfl,bb⟩:=zbz hv
 obtain rfl:=yP bb
 exact ⟨j,rfl,by lia,by lia,k _ m _ H1 r zig g⟩
def enW:Nat->List Dt->List W
 | _,[]=>[]
 | k,x::r=>.d (.tup [.int k,x])::enW (k+1) r
theorem zcp:∀ (l:List Dt) (k i:Nat),(enW k l)[i]?=(l[i]?).map fun x=>W.d (.tup [.int ((k+i:Nat):Int),x])
 | [],_,_=>by simp [enW]
 | x::r,k,0=>by simp [enW]
 | x::r,k,i+1=>by
  have:=zcp r (k+1) i
  simp only [enW,List.getElem?_cons_succ,this]
  rw [show k+1+i=k+(i+1) by lia]
theorem zet:∀ (l:List Dt) (k:Nat),(enW k l).length=l.length
 | [],_=>rfl
 | x::r,k=>by rw [enW,List.length_cons,List.length_cons,zet r]
def znP (fa:Ev->Mo (List W)):Ev->Mo (List W):=fun ρ n Q=>fa ρ n fun ws m=>∃ l,ws=[.d (.tup l)]/\Q (enW 0 l) m
theorem zgf {K:PySem.W.Frag}{A:Addr->Prop}{H:Hp}{ad:Addr}{xs:List V}{l:List Dt}(h:zM A H ad=some (.tup xs))(hl:IsL (zM A H) l xs):ItV false A H (Ite K ad) (enW 0 l) where
 one:=fun i w A2 H2 e s _ hA=>by
  rw [zcp] at e
  obtain ⟨d,h1,rfl⟩:=Option.map_eq_some_iff.mp e
  obtain ⟨x,hx,hd⟩:=hl.getD h1
  have g:=zj _ _ (s.tup h)
  refine ⟨⟨xs,x,.of g,hx⟩,?_⟩
  rintro y H3 ⟨T,z,e1,hT,e3,hy⟩
  subst e1 e3
  have:=hy xs (.of g)
  rw [hx] at this
  cases this
  have S:=yk.upd (o:=.tup [.int i,x]) hT
  refine ⟨S,Val.of ⟨T,_,rfl,zm (hA T hT) zh,_,_,rfl,?_,_,_,rfl,(hd.stay s).stay (zn.same (y9 S)),rfl⟩⟩
  show V.int (i:Int)=V.int ((0+i:Nat):Int)
  rw [Nat.zero_add]
 stop:=fun A2 H2 s _=>⟨xs,.of (zj _ _ (s.tup h)),by rw [zet,hl.length];exact Nat.le_refl _⟩
theorem ziq {elts:List Expr}{x1}{tpos:Pos}{fs:Ev->Mo (List W)}(hg:Gl X "enumerate")(hm:X.mg "enumerate" = none)(ha:JA X Pn M [a] fs)(hs:starEach [a] X.env=[(false,eval a X.env)]:=by rfl):JI X Pn M false (.Tuple elts x1 tpos) (.Call (.Name "enumerate" p) [a] [] pos) (znP fs):=by
 obtain ⟨te,q,r⟩:=ha.ex
 refine ⟨_,zjy hg hm q hs,⟨fun A σ H ρ n Q R E P hf k=>?_⟩⟩
 refine r.run A σ H ρ n _ _ E P hf  ?_
 rintro ws m vs H1 ⟨l,e,r⟩ hv g
 subst e
 obtain ⟨v,s,rfl,⟨ad,xs,rfl,had,hl⟩,hs⟩:=hv
 cases hs
 exact ⟨ad,rfl,⟨xs,.of (zj _ _ had)⟩,k _ m _ H1 r (zgf had hl) g⟩
def ziW:List Dt->List Dt->List W
 | x::r,y::s=>.d (.tup [x,y])::ziW r s
 | _,_=>[]
theorem zfL:∀ (l k:List Dt) (i:Nat),l.length=k.length->(ziW l k)[i]?=(l[i]?).bind fun x=>(k[i]?).map fun y=>W.d (.tup [x,y])
 | [],[],_,_=>by simp [ziW]
 | [],_::_,_,h=>by simp at h
 | _::_,[],_,h=>by simp at h
 | x::r,y::s,0,_=>by simp [ziW]
 | x::r,y::s,i+1,h=>by
  have:=zfL r s i (by simpa using h)
  simp only [ziW,List.getElem?_cons_succ,this]
theorem zfM:∀ (l k:List Dt),l.length=k.length->(ziW l k).length=l.length
 | [],[],_=>rfl
 | [],_::_,h=>by simp at h
 | _::_,[],h=>by simp at h
 | x::r,y::s,h=>by rw [ziW,List.length_cons,List.length_cons,zfM r s (by simpa using h)]
def mItZ (fa:Ev->Mo (List W)):Ev->Mo (List W):=fun ρ n Q=>fa ρ n fun ws m=>∃ l k,ws=[.d (.tup l),.d (.tup k)]/\l.length=k.length/\Q (ziW l k) m
theorem zgh {kb:Bool}{K:PySem.W.Frag}{A:Addr->Prop}{H:Hp}{ad bd:Addr}{xs ys:List V}{l k:List Dt}(hlen:l.length=k.length)(h:∀ {A2:Addr->Prop} {H2:Hp},zn (zM A H) (zM A2 H2)->SqV kb K H2 ad xs)(hl:IsL (zM A H) l xs)(h':zM A H bd=some (.tup ys))(hk:IsL (zM A H) k ys):ItV false A H (Izg kb K ad bd) (ziW l k) where
 one:=fun i w A2 H2 e s _ hA=>by
  rw [zfL _ _ _ hlen] at e
  obtain ⟨d,h1,e⟩:=Option.bind_eq_some_iff.mp e
  obtain ⟨d',h1',rfl⟩:=Option.map_eq_some_iff.mp e
  obtain ⟨x,hx,hd⟩:=hl.getD h1
  obtain ⟨y,hy,hd'⟩:=hk.getD h1'
  have g:=h s
  have g':=zj _ _ (s.tup h')
  refine ⟨⟨xs,ys,x,y,g,.of g',hx,hy⟩,?_⟩
  rintro v H3 ⟨T,z,z',e1,hT,e3,hz,hz'⟩
  subst e1 e3
  have q1:=hz xs g
  have q2:=hz' ys (.of g')
  rw [hx] at q1
  rw [hy] at q2
  cases q1
  cases q2
  have S:=yk.upd (o:=.tup [x,y]) hT
  exact ⟨S,Val.of ⟨T,_,rfl,zm (hA T hT) zh,_,_,rfl,(hd.stay s).stay (zn.same (y9 S)),_,_,rfl,(hd'.stay s).stay (zn.same (y9 S)),rfl⟩⟩
 stop:=fun A2 H2 s _=>⟨xs,h s,by rw [zfM _ _ hlen,hl.length];exact Nat.le_refl _⟩
theorem zkG {elts:List Expr}{x1}{tpos:Pos}{fs:Ev->Mo (List W)}(hg:Gl X "zip")(hm:X.mg "zip" = none)(ha:JA X Pn M [a,b] fs)(hs:starEach [a,b] X.env=[(false,eval a X.env),(false,eval b X.env)]:=by rfl)(hs2:starEach [b] X.env=[(false,eval b X.env)]:=by rfl):JI X Pn M false (.Tuple elts x1 tpos) (.Call (.Name "zip" p) [a,b] [] pos) (mItZ fs):=by
 obtain ⟨te,q,r⟩:=ha.ex
 refine ⟨_,zjA true hg hm q hs hs2,⟨fun A σ H ρ n Q R E P hf k=>?_⟩⟩
 refine r.run A σ H ρ n _ _ E P hf  ?_
 rintro ws m vs H1 ⟨l,kk,e,hlen,r⟩ hv g
 subst e
 obtain ⟨v,s,rfl,⟨ad,xs,rfl,had,hl⟩,v2,s2,rfl,⟨bd,ys,rfl,hbd,hk⟩,hs⟩:=hv
 cases hs
 exact ⟨ad,bd,rfl,⟨xs,.of (zj _ _ had)⟩,⟨ys,.of (zj _ _ hbd)⟩,k _ m _ H1 r (zgh hlen (fun s=>.of (zj _ _ (s.tup had))) hl hbd hk) g⟩
def zdD (ρ:Ev)(cix:List (Option Nat)):Ev:=cix.map fun o=>match o with
 | none=>none
 | some i=>(ρ[i]?).join
def xL (M:List Nat)(cix:List (Option Nat)):List Nat:=(List.range cix.length).filter fun k=>match cix[k]? with
 | some (some i)=>M.contains i
 | _=>false
theorem uE {cix:List (Option Nat)}{k:Nat}:k∈xL M cix↔∃ i,cix[k]?=some (some i)/\i∈M:=by
 unfold xL
 rw [List.mem_filter,List.mem_range]
 constructor
 ·rintro ⟨h1,h2⟩
  rw [List.getElem?_eq_getElem h1] at h2 ⊢
  cases e:cix[k] with
  | none=>rw [e] at h2;cases h2
  | some i=>rw [e] at h2;exact ⟨i,rfl,by simpa using h2⟩
 ·rintro ⟨i,h1,h2⟩
  exact ⟨(List.getElem?_eq_some_iff.mp h1).1,by simp_all⟩
theorem xV {α:Type}{l:List (Option α)}{cix:List (Option Nat)}{k:Nat}{x:α}:(cix.map fun o=>match o with | none=>none | some i=>(l[i]?).join)[k]?=some (some x)↔∃ i,cix[k]?=some (some i)/\l[i]?=some (some x):=by
 rw [List.getElem?_map]
 cases e:cix[k]? with
 | none=>simp
 | some o=>
  cases o with
  | none=>simp
  | some i=>
   simp only [Option.map_some,Option.some.injEq]
   constructor
   ·intro h
    refine ⟨i,rfl,?_⟩
    cases q:l[i]? with
    | none=>rw [q] at h;cases h
    | some z=>rw [q] at h;cases z with
     | none=>cases h
     | some y=>cases h;rfl
   ·simp_all
theorem EnvR.cap {A:Addr->Prop}{σ:St}{H:Hp}{ρ:Ev}(E:EnvR A M σ H ρ){cix:List (Option Nat)}(hn:(cix.filterMap id).Nodup):EnvR A (xL M cix) (uw σ cix) H (zdD ρ cix) where
 len:=by unfold uw zdD;rw [List.length_map,List.length_map]
 val:=fun k w e=>by
  obtain ⟨i,h1,h2⟩:=xV.mp e
  obtain ⟨v,s1,s2,s3⟩:=E.val i w h2
  refine ⟨v,xV.mpr ⟨i,h1,s1⟩,fun z=>s2 fun y=>z (uE.mpr ⟨i,h1,y⟩),fun z=>?_⟩
  obtain ⟨j,h3,h4⟩:=uE.mp z
  simp_all
 dis:=fun k k' w u ad hk hk' hne e1 e2 s1 s2=>by
  obtain ⟨i,h1,h2⟩:=xV.mp e1
  obtain ⟨i',h1',h2'⟩:=xV.mp e2
  obtain ⟨j,h3,h4⟩:=xV.mp s1
  obtain ⟨j',h3',h4'⟩:=xV.mp s2
  rw [h1] at h3
  cases h3
  rw [h1'] at h3'
  cases h3'
  obtain ⟨m,m1,m2⟩:=uE.mp hk
  rw [h1] at m1
  cases m1
  obtain ⟨m',m1',m2'⟩:=uE.mp hk'
  rw [h1'] at m1'
  cases m1'
  refine E.dis _ _ w u ad m2 m2' (fun z=>?_) h2 h2' h4 h4'
  subst z
  have key:∀ (l:List (Option Nat)) (a b:Nat) (x:Nat),(l.filterMap id).Nodup->l[a]?=some (some x)->l[b]?=some (some x)->a=b:=by
   intro l
   induction l with
   | nil=>intro a b x _ h;simp at h
   | cons o l ih=>
    intro a b x hn ha hb
    have mem:∀ (l:List (Option Nat)) (a:Nat),l[a]?=some (some x)->x∈l.filterMap id:=fun l a h=>List.mem_filterMap.mpr ⟨some x,List.mem_of_getElem? h,rfl⟩
    cases o with
    | none=>
     have hn':(l.filterMap id).Nodup:=by simpa using hn
     cases a with
     | zero=>simp at ha
     | succ a=>
      cases b with
      | zero=>simp at hb
      | succ b=>rw [ih a b x hn' (by simpa using ha) (by simpa using hb)]
    | some y=>
     have hn2:y∉l.filterMap id/\(l.filterMap id).Nodup:=by
      simp_all
     cases a with
     | zero=>
      have ha':y=x:=by simpa using ha
      subst ha'
      cases b with
      | zero=>rfl
      | succ b=>exact absurd (mem l b (by simpa using hb)) hn2.1
     | succ a=>
      cases b with
      | zero=>
       have hb':y=x:=by simpa using hb
       subst hb'
       exact absurd (mem l a (by simpa using ha)) hn2.1
      | succ b=>rw [ih a b x hn2.2 (by simpa using ha) (by simpa using hb)]
  exact hne (key cix k k' _ hn h1 h1')
 al:=E.al
theorem EnvR.more {A:Addr->Prop}{σ:St}{H H':Hp}{ρ:Ev}(E:EnvR A M σ H ρ){p:Addr}{o:HO}(s:zn H H')(n:Fr H p)(g:H' p=some o)(np:NP o)(nt:Mt o):EnvR (fun b=>A b\/b=p) M σ H' ρ where
 len:=E.len
 val:=fun i w e=>by
  obtain ⟨v,h1,h2,h3⟩:=E.val i w e
  refine ⟨v,h1,fun z=>WAt.up (yv s n) (yv s n) (h2 z),fun z=>?_⟩
  obtain ⟨a,e,h4,h5,h6⟩:=h3 z
  exact ⟨a,e,.inl h4,WAt.up s (yv s n) h5,h6⟩
 dis:=E.dis
 al:=fun a h=>by
  rcases h with h | h
  ·obtain ⟨o,h1,h2,h3⟩:=E.al a h
   exact ⟨o,s _ _ h1 h2,h2,h3⟩
  ·subst h;exact ⟨o,g,np,nt⟩
theorem EnvR.upd {A:Addr->Prop}{σ:St}{H:Hp}{ρ:Ev}(E:EnvR A M σ H ρ){p:Addr}{o:HO}(hp:A p)(hn:∀ i w,i∈M->ρ[i]?=some (some w)->σ[i]?≠some (some (.ref p)))(np:NP o)(nt:Mt o):EnvR A M σ (L2.upd H p o) ρ where
 len:=E.len
 val:=fun i w e=>by
  obtain ⟨v,h1,h2,h3⟩:=E.val i w e
  refine ⟨v,h1,fun z=>?_,fun z=>?_⟩
  ·show WAt _ _ _ _
   rw [yC hp]
   exact h2 z
  ·obtain ⟨a,e',h4,h5,h6⟩:=h3 z
   have hne:a≠p:=fun q=>hn i w z e (by rw [h1,e',q])
   refine ⟨a,e',h4,?_,h6⟩
   show WAt _ _ _ _
   rw [yC hp]
   cases w with
   | d x=>
    cases x with
    | lst l=>obtain ⟨a2,xs,e2,g1,g2⟩:=h5;rw [e'] at e2;cases e2;exact ⟨a,xs,e',by rw [zd hne];exact g1,g2⟩
    | dct=>obtain ⟨a2,xs,e2,g1,g2⟩:=h5;rw [e'] at e2;cases e2;exact ⟨a,xs,e',by rw [zd hne];exact g1,g2⟩
    | _=>cases h6
   | pen p=>cases h6
   | dk k=>obtain ⟨a2,xs,e2,g1,g2⟩:=h5;rw [e'] at e2;cases e2;exact ⟨a,xs,e',by rw [zd hne];exact g1,g2⟩
   | dt k=>obtain ⟨a2,xs,e2,g1,g2⟩:=h5;rw [e'] at e2;cases e2;exact ⟨a,xs,e',by rw [zd hne];exact g1,g2⟩
   | ss P w k=>obtain ⟨a2,xs,e2,g1,g2⟩:=h5;rw [e'] at e2;cases e2;exact ⟨a,xs,e',by rw [zd hne];exact g1,g2⟩
   | df k=>obtain ⟨a2,ob,xs,e2,g1,g2⟩:=h5;rw [e'] at e2;cases e2;exact ⟨a,ob,xs,e',by simp_all,g2⟩
   | kf k=>obtain ⟨a2,ob,xs,e2,g1,g2⟩:=h5;rw [e'] at e2;cases e2;exact ⟨a,ob,xs,e',by simp_all,g2⟩
   | ad a x=>cases h6
   | tz kvs x=>cases h6
   | fl k=>obtain ⟨a2,ob,xs,e2,g1,g2⟩:=h5;rw [e'] at e2;cases e2;exact ⟨a,ob,xs,e',by simp_all,g2⟩
 dis:=E.dis
 al:=fun a h=>by
  by_cases ha:a=p
  ·subst ha;exact ⟨o,zh,np,nt⟩
  ·rw [zd ha];exact E.al a h
theorem yX.upd {A:Addr->Prop}{n:Nat}{H:Hp}{p:Addr}{o:HO}(h:yX Pn A n H)(hp:A p):yX Pn A n (L2.upd H p o):=by
 refine ⟨?_,Pn.J.upd h.2 hp⟩
 have h:=h.1
 split at h
 ·trivial
 ·refine ⟨?_,h.2⟩
  rename_i q c ns _
  obtain ⟨h1,h2,h3⟩:=h
  have e1:c≠p:=fun z=>h2 (z ▸ hp)
  have e2:q≠p:=fun z=>h3 (z ▸ hp)
  obtain ⟨a,l,g1,g2,g3,g4⟩:=h1.ob
  exact ⟨⟨a,l,by rw [zd e2];exact g1,g2,g3,g4⟩,let ⟨ob,e⟩:=h1.ls;⟨ob,by rw [zd e1];exact e⟩,h1.len⟩
end
open PySem L2
structure JS (X:Cx)(Pn:PN)(S M:List Nat)(fr:Bool)(st:Stmt)(fs:Ms):Prop where
 ex:∃ ts,QS X st ts/\RS Pn S M fr ts fs
structure JSs (X:Cx)(Pn:PN)(S M:List Nat)(fr:Bool)(st:List Stmt)(fs:Ms):Prop where
 ex:∃ ts,QSs X st ts/\RS Pn S M fr ts fs
section
variable {X:Cx}{Pn:PN}{M S:List Nat}{fr fr':Bool}{e a b c:Expr}{es:List Expr}{f fa fb fc:Ev->Mo W}{pos p:Pos}
theorem yX.grow' {A:Addr->Prop}{n m:Nat}{H H':Hp}{q:Addr}{o:HO}(h:yX Pn A n H)(h':yX Pn A m H')(hq:Fr H q)(g:H' q=some o)(np:NP o)(mt:Mt o):yX Pn (fun b=>A b\/b=q) m H':=by
 refine ⟨?_,Pn.J.grow h'.2 fun a z=>z.imp_right fun e=>⟨o,by rw [e];exact g,np,mt⟩⟩
 have h:=h.1
 have h':=h'.1
 revert h h'
 cases Pn.pn with
 | none=>exact fun _ _=>trivial
 | some x=>
  obtain ⟨p,c,ns⟩:=x
  intro h h'
  refine ⟨h'.1,fun z=>z.elim h'.2.1 fun z=>?_,fun z=>z.elim h'.2.2 fun z=>?_⟩
  ·subst z
   obtain ⟨ob,e⟩:=h.1.ls
   exact hq _ e (fun _ z=>by cases z)
  ·subst z
   obtain ⟨a,l,e,_⟩:=h'.1.ob
   rw [e] at g
   cases g
   have:=np _ rfl
   rw [zi9] at this
   cases this
theorem zmq {scope:Scope}{N:List Str}{fr:Bool}(h:∀ C s H ex,JE (zu X scope N C s H ex) Pn M fr e f):∃ te,(∀ C s H ex,QE (zu X scope N C s H ex) e te)/\RE Pn M fr te f:=
 ⟨fun σ H Q=>∀ C s H0 ex,(h C s H0 ex).ex.choose σ H Q,fun C s H0 ex=>⟨fun pins s' σ H Q I z=>(h C s H0 ex).ex.choose_spec.1.run pins s' σ H Q I (z C s H0 ex)⟩,
  ⟨fun A σ H ρ n Q R E P hf k C s H0 ex=>(h C s H0 ex).ex.choose_spec.2.run A σ H ρ n Q R E P hf k⟩⟩
theorem zmu {scope:Scope}{N:List Str}{ft:Ev->Mo Bool}(h:∀ C s H ex,JTs (zu X scope N C s H ex) Pn M es ft):∃ te,(∀ C s H ex,QTs (zu X scope N C s H ex) es te)/\RT Pn M te ft:=
 ⟨fun σ H Q=>∀ C s H0 ex,(h C s H0 ex).ex.choose σ H Q,fun C s H0 ex=>⟨fun pins s' σ H Q I z=>(h C s H0 ex).ex.choose_spec.1.run pins s' σ H Q I (z C s H0 ex)⟩,
  ⟨fun A σ H ρ n Q R E P hf k C s H0 ex=>(h C s H0 ex).ex.choose_spec.2.run A σ H ρ n Q R E P hf k⟩⟩
theorem zms {scope:Scope}{N:List Str}{mg:W->Ev->(Ev->Prop)->Prop}(h:∀ C s H ex,JG (zu X scope N C s H ex) S M e mg):∃ g,(∀ C s H ex,QG (zu X scope N C s H ex) e g)/\RG S M g mg:=
 ⟨fun v σ H Q=>∀ C s H0 ex,(h C s H0 ex).ex.choose v σ H Q,fun C s H0 ex=>⟨fun pins s' σ H v u Q I rv z=>(h C s H0 ex).ex.choose_spec.1.run pins s' σ H v u Q I rv (z C s H0 ex)⟩,
  ⟨fun A σ H ρ v w Q R E hv hf k C s H0 ex=>(h C s H0 ex).ex.choose_spec.2.run A σ H ρ v w Q R E hv hf k⟩⟩
def zee (mg:W->Ev->(Ev->Prop)->Prop)(ft:Ev->Mo Bool)(fe:Ev->Mo W)(ρ0:Ev)(Q:W->Nat->Prop):List W->Nat->Prop:=fun l n1=>l.length<=lim/\∃ I:Nat->Ev->Nat->List Dt->Prop,I 0 ρ0 n1 []/\
 (∀ i w ρ' n' acc,l[i]?=some w->I i ρ' n' acc->mg w ρ' fun ρ1=>ft ρ1 n' fun b n2=>if b=true then fe ρ1 n2 fun x n3=>∃ d,x = .d d/\I (i+1) ρ1 n3 (acc++[d]) else I (i+1) ρ1 n2 acc)/\
 ∀ ρ' n' acc,I l.length ρ' n' acc->Q (.d (.lst acc)) n'
@[reducible] def zgp (fi:Ev->Mo (List W)) (mg:W->Ev->(Ev->Prop)->Prop) (ft:Ev->Mo Bool) (fe:Ev->Mo W) (cix:List (Option Nat)):Ev->Mo W:=fun ρ n Q=>fi ρ n (zee mg ft fe (zdD ρ cix) Q)
theorem zcW {wi:TI}{g:TG}{ti:TT}{te:TE}{cix:List (Option Nat)}{fi:Ev->Mo (List W)}{mg:W->Ev->(Ev->Prop)->Prop}{ft:Ev->Mo Bool}{fe:Ev->Mo W}{ow:Bool}(hn:(cix.filterMap id).Nodup)
  (hi:RI Pn M ow wi fi) (hg:RG (xL M cix) (xL M cix) g mg) (ht:RT Pn (xL M cix) ti ft) (he:RE Pn (xL M cix) fr' te fe):RE Pn M true (zdu wi g ti te cix) (zgp fi mg ft fe cix):=⟨fun A σ H ρ n Q R E P hf k=>by
 refine hi.run A σ H ρ n _ _ E P hf fun l m J H1 ⟨hz,I,i0,it,ie⟩ iv g1=>fun acc hacc=>?_
 have E1:=E.stay g1.st
 have E2:=(E1.cap hn).more (zn.upd (o:=.lst []) hacc) (Fr.of hacc) zh NP.lst rfl
 have P2:yX Pn (fun b=>A b\/b=acc) m (L2.upd H1 acc (.lst [])):=g1.pn.grow' (g1.pn.same (yk.upd hacc)) (Fr.of hacc) zh NP.lst rfl
 have nacc:∀ k w,k∈xL M cix->(zdD ρ cix)[k]?=some (some w)->(uw σ cix)[k]?≠some (some (.ref acc)):=fun k w hk hw z=>by
  obtain ⟨v,s1,_,s3⟩:=(E1.cap hn).val k w hw
  obtain ⟨a,e,hA,_⟩:=s3 hk
  rw [z] at s1
  cases s1
  cases e
  exact E1.new hacc hA
 have key:∀ σ' ρ' H',EnvR (fun b=>A b\/b=acc) (xL M cix) σ' H' ρ'->(∀ k∈xL M cix,σ'[k]?=(uw σ cix)[k]?/\ρ'[k]?=(zdD ρ cix)[k]?)->∀ k w,k∈xL M cix->ρ'[k]?=some (some w)->σ'[k]?≠some (some (.ref acc)):=fun σ' ρ' H' E' hfx k w hk hw z=>by
  simp_all
 refine ⟨fun i mm σ' H'=>mm=l.length - i/\i<=l.length/\∃ ρ' n' accD xs,EnvR (fun b=>A b\/b=acc) (xL M cix) σ' H' ρ'/\yX Pn (fun b=>A b\/b=acc) n' H'/\I i ρ' n' accD/\H' acc=some (.lst xs)/\IsL (zM (fun b=>A b\/b=acc) H') accD xs/\accD.length<=i/\zn (zM A H1) (zM (fun b=>A b\/b=acc) H')/\zn H1 H'/\(∀ k∈xL M cix,σ'[k]?=(uw σ cix)[k]?/\ρ'[k]?=(zdD ρ cix)[k]?),
  ⟨l.length,by simp,Nat.zero_le _,_,m,[],[],E2,P2,i0,zh,rfl,Nat.le_refl _,yv (zn.upd hacc) (Fr.of hacc),zn.upd hacc,fun k hk=>⟨rfl,rfl⟩⟩,?_⟩
 rintro i mm σ' H' ⟨rfl,hil,ρ',n',accD,xs,E',P',hI,hac,hxs,hal,st,s1,hfx⟩
 by_cases hlt:i<l.length
 ·right
  have hget:l[i]?=some l[i]:=List.getElem?_eq_getElem hlt
  obtain ⟨go,yl⟩:=iv.one i l[i] _ H' hget st (fun _=>s1) fun p hp=>E'.new hp
  refine ⟨go,fun σ2 H2=>∃ ρ' n' accD xs,EnvR (fun b=>A b\/b=acc) (xL M cix) σ2 H2 ρ'/\yX Pn (fun b=>A b\/b=acc) n' H2/\I (i+1) ρ' n' accD/\H2 acc=some (.lst xs)/\IsL (zM (fun b=>A b\/b=acc) H2) accD xs/\accD.length<=i+1/\zn (zM A H1) (zM (fun b=>A b\/b=acc) H2)/\zn H1 H2/\(∀ k∈xL M cix,σ2[k]?=(uw σ cix)[k]?/\ρ'[k]?=(zdD ρ cix)[k]?),
   fun σ2 H2 h=>⟨l.length - (i+1),by lia,rfl,hlt,h⟩,fun x H2 hy=>?_⟩
  obtain ⟨S2,V2⟩:=yl x H2 hy
  refine hg.run _ σ' H2 ρ' x l[i] _ _ (E'.stay (zn.same S2)) V2 (it i l[i] ρ' n' accD hget hI) fun σ3 ρ3 r3 E3 f3=>?_
  have hfx3:∀ k∈xL M cix,σ3[k]?=(uw σ cix)[k]?/\ρ3[k]?=(zdD ρ cix)[k]?:=fun k hk=>⟨(f3 k hk).1.trans (hfx k hk).1,(f3 k hk).2.trans (hfx k hk).2⟩
  refine ht.run _ σ3 H2 ρ3 n' _ _ E3 (P'.same S2) r3 fun b m3 H4 r4 g4=>?_
  have s24:=(zn.same S2).trans g4.st
  cases b with
  | false=>
   rw [if_neg (by decide)] at r4 ⊢
   exact ⟨ρ3,m3,accD,xs,E3.stay g4.st,g4.pn,r4,s24.lst hac,hxs.stay (zP s24),by lia,st.trans (zP s24),s1.trans s24,hfx3⟩
  | true=>
   rw [if_pos rfl] at r4 ⊢
   refine he.run _ σ3 H4 ρ3 m3 _ _ (E3.stay g4.st) g4.pn r4  ?_
   rintro w5 m5 v5 H5 ⟨d,e5,r5⟩ V5 g5 _
   subst e5
   have s25:=s24.trans g5.st
   have E5:=(E3.stay g4.st).stay g5.st
   have hac5:=s25.lst hac
   refine ⟨xs,hac5,zeU (by rw [hxs.length];lia),ρ3,m5,accD++[d],xs++[v5],E5.upd (.inr rfl) (key σ3 ρ3 H5 E5 hfx3) NP.lst rfl,g5.pn.upd (.inr rfl),r5,zh,?_,by simp_all,?_,?_,hfx3⟩
   ·rw [yC (.inr rfl)]
    exact (hxs.stay (zP s25)).append (IsL.one V5.is)
   ·rw [yC (.inr rfl)]
    exact st.trans (zP s25)
   ·exact fun b o e nn=>by
     rw [zd (zb e hacc)]
     exact s1.trans s25 b o e nn
 ·left
  have hie:i=l.length:=by lia
  subst hie
  refine ⟨iv.stop _ H' st (fun _=>s1),k _ n' _ H' (ie ρ' n' accD hI) (Val.of ⟨acc,xs,rfl,zm (E1.new hacc) hac,hxs.stay (zn.same (yh fun b z=>.inl z))⟩) (g1.trans ⟨s1,P'.less fun a z=>.inl z⟩) fun _=>⟨acc,rfl,(Fr.of hacc).back g1.st,acc,xs,rfl,hac,hxs⟩⟩⟩
@[reducible] def znY:Ev->Mo Bool:=fun _ n Q=>Q true n
theorem xZ:JTs X Pn M [] znY:=⟨_,zcT,⟨fun A σ H ρ n Q R E P hf k=>k true n H hf (Go.refl P)⟩⟩
theorem zcx {ft:Ev->Mo Bool}(h:JT X Pn M c ft):JTs X Pn M [c] ft:=let ⟨t,h1,h2⟩:=h.ex;⟨t,zjE h1,h2⟩
theorem uT {elt tg iter:Expr}{ifs:List Expr}{scope:Scope}{N:List Str}{cix:List (Option Nat)}{fi:Ev->Mo (List W)}{mg:W->Ev->(Ev->Prop)->Prop}{ft:Ev->Mo Bool}{fe:Ev->Mo W}{ow:Bool}(hc:X.calm=true)(cc:CompOk X scope N cix)
  (hi:JI X Pn M ow tg iter fi) (hg:∀ C s H ex,JG (zu X scope N C s H ex) (xL M cix) (xL M cix) tg mg) (ht:∀ C s H ex,JTs (zu X scope N C s H ex) Pn (xL M cix) ifs ft) (he:∀ C s H ex,JE (zu X scope N C s H ex) Pn (xL M cix) fr' elt fe)
  (hn:(cix.filterMap id).Nodup:=by decide) (hs:∀ x,foldedSetIterable iter X.env x=pure x:=by intro _;rfl):JE X Pn M true (.ListComp elt [⟨tg,iter,ifs,0⟩] scope pos) (zgp fi mg ft fe cix):=by
 obtain ⟨ti,qi,ri⟩:=hi.ex
 obtain ⟨g,qg,rg⟩:=zms hg
 obtain ⟨tt,qt,rt⟩:=zmu ht
 obtain ⟨te,qe,re⟩:=zmq he
 exact ⟨_,zgK hc cc qi qg qt qe hs,zcW hn ri rg rt re⟩
theorem zgk {elt tg iter:Expr}{ifs:List Expr}{scope:Scope}{N:List Str}{cix:List (Option Nat)}{fi:Ev->Mo (List W)}{mg:W->Ev->(Ev->Prop)->Prop}{ft:Ev->Mo Bool}{fe:Ev->Mo W}{ow:Bool}{ix:Nat}{nx:Str}{px spos:Pos}(hNd:X.N.Nodup)(hix:X.N[ix]?=some nx)(hlx:X.env.scope.names.lookup nx=some .local)(hc:X.calm=true)(cc:CompOk X scope N cix)
  (hi:JI X Pn M ow tg iter fi) (hg:∀ C s H ex,JG (zu X scope N C s H ex) (xL M cix) (xL M cix) tg mg) (ht:∀ C s H ex,JTs (zu X scope N C s H ex) Pn (xL M cix) ifs ft) (he:∀ C s H ex,JE (zu X scope N C s H ex) Pn (xL M cix) fr' elt fe)
  (hn:(cix.filterMap id).Nodup:=by decide) (hsw:swapsWithSole [.Name nx px] (.ListComp elt [⟨tg,iter,ifs,0⟩] scope pos) spos.line X.env=pure true:=by rfl)
  (hs:∀ x,foldedSetIterable iter X.env x=pure x:=by intro _;rfl)
  (h1a:(assignEach [.Name nx px] X.env).map (·.2)=[assign (.Name nx px) X.env]:=by rfl):∃ te,QS X (.Assign [.Name nx px] (.ListComp elt [⟨tg,iter,ifs,0⟩] scope pos) spos) (zd2 te (uy ix))/\RE Pn M true te (zgp fi mg ft fe cix):=by
 obtain ⟨ti,qi,ri⟩:=hi.ex
 obtain ⟨g,qg,rg⟩:=zms hg
 obtain ⟨tt,qt,rt⟩:=zmu ht
 obtain ⟨te,qe,re⟩:=zmq he
 exact ⟨_,zjD hNd hix hlx hc cc qi qg qt qe hsw hs h1a,zcW hn ri rg rt re⟩
theorem At3.step {B:Bs}{A:Addr->Prop}{σ:St}{H H':Hp}{ρ:Ev}{n m:Nat}(h:At3 Pn B S M A σ H ρ n)(g:Go Pn A H m H'):At3 Pn B S M A σ H' ρ m where
 env:=h.env.stay g.st
 frm:=⟨h.frm.sub,h.frm.new,fun b o e n c=>g.st b o (h.frm.st b o e n c) n,h.frm.al,h.frm.cn,fun a z=>let ⟨o,e,n⟩:=h.frm.cs a z;⟨o,g.st a o e n,n⟩⟩
 pn:=g.pn
 prot:=h.prot.trans (zP g.st)
 fix:=h.fix
 mine:=h.mine
@[reducible] def mRet (f:Ev->Mo W):Ms:=fun ρ n k=>f ρ n k.rt
theorem zl3 {te:TE}(h:RE Pn M fr te f):RS Pn S M fr (zmU te) (mRet f):=⟨fun B A σ H ρ n k D a kk hf=>by
 refine h.run A σ H ρ n _ _ a.env a.pn hf fun w m v H' r hv g hr=>?_
 have a':=a.step g
 exact kk.rt w m v H' (WAt.up (zn.same (yh a.frm.sub)) (zn.same (yh a.frm.sub)) hv) a'.frm.st (g.pn.less a.frm.sub) (fun z=>by
  obtain ⟨b,e,f1,f2⟩:=hr z
  exact FrV.less ⟨b,e,a.frm.back f1 (a.env.newF f1),f2⟩ a.frm.sub) r⟩
theorem zF (h:JE X Pn M fr e f):JS X Pn S M fr (.Return (some e) pos) (mRet f):=let ⟨te,q,r⟩:=h.ex;⟨_,xt q,zl3 r⟩
def ziN (i:Nat):Ms:=fun ρ n k=>∃ w,ρ[i]?=some (some w)/\k.rt w n
theorem zjI {i:Nat}(hi:i∈M):RS Pn S M fr (zmU (zgW i)) (ziN i):=⟨by
 rintro B A σ H ρ n k D a kk ⟨w,e,r⟩
 obtain ⟨v,s1,_,s3⟩:=a.env.val i w e
 obtain ⟨ad,rfl,hA,hb,hm⟩:=s3 hi
 have hF:=a.mine i w ad hi e s1
 have hn:¬ B.A0 ad:=fun z=>by
  rcases hF with hF | hF
  ·obtain ⟨o,o1,o2,_⟩:=a.frm.al ad z
   exact hF o o1 o2
  ·exact a.frm.cn ad hF z
 have less:yk (zM A H) (zM B.A0 H):=yh a.frm.sub
 have less2:yk (zM A H) (zM (fun b=>B.A0 b\/b=ad) H):=yh fun b z=>z.elim (a.frm.sub b) fun z=>z ▸ hA
 refine ⟨.ref ad,s1,kk.rt w n (.ref ad) H ?_ a.frm.st (a.pn.less a.frm.sub) (fun z=>⟨ad,rfl,hF.resolve_right (kk.fc ad),WAt.up (zn.refl _) (zn.same less2) hb⟩) r⟩
 cases w with
 | d x=>
  cases x with
  | lst l=>obtain ⟨a2,xs,e2,g1,g2⟩:=hb;cases e2;exact ⟨ad,xs,rfl,zm hn g1,g2.stay (zn.same less)⟩
  | dct=>obtain ⟨a2,xs,e2,g1,g2⟩:=hb;cases e2;exact ⟨ad,xs,rfl,zm hn g1,g2⟩
  | _=>cases hm
 | pen p=>cases hm
 | dk kvs=>obtain ⟨a2,xs,e2,g1,g2,g3⟩:=hb;cases e2;exact ⟨ad,xs,rfl,zm hn g1,g2.stay (zn.same less),g3⟩
 | dt kvs=>obtain ⟨a2,xs,e2,g1,g2⟩:=hb;cases e2;exact ⟨ad,xs,rfl,zm hn g1,g2.stay (zn.same less)⟩
 | ss P w kvs=>obtain ⟨a2,xs,e2,g1,g2⟩:=hb;cases e2;exact ⟨ad,xs,rfl,zm hn g1,g2.stay (zn.same less)⟩
 | kf kvs=>obtain ⟨a2,ob,xs,e2,g1,g2⟩:=hb;cases e2;exact ⟨ad,ob,xs,rfl,zm hn g1,g2.stay (zn.same less)⟩
 | ad a x=>cases hm
 | tz kvs x=>cases hm
 | fl kvs=>obtain ⟨a2,ob,xs,e2,g1,g2⟩:=hb;cases e2;exact ⟨ad,ob,xs,rfl,zm hn g1,g2.stay (zn.same less)⟩
 | df kvs=>obtain ⟨a2,ob,xs,e2,g1,g2⟩:=hb;cases e2;exact ⟨ad,ob,xs,rfl,zm hn g1,g2.stay (zn.same less)⟩⟩
theorem ziv (i:Nat){x:Str}(hi:i∈M:=by decide)(hN:X.N[i]?=some x:=by rfl)(hv:Vis X.env.scope x:=by first | exact Or.inl rfl | exact Or.inr (Or.inl rfl) | exact Or.inr (Or.inr rfl))(hd:(x==("__debug__" : Str))=false:=by decide)
  (hcd:(x==("__classdict__" : Str))=false:=by decide) {pos':Pos}:JS X Pn S M fr (.Return (some (.Name x pos)) pos') (ziN i):=⟨_,xt (qv i hN hv hd hcd),zjI hi⟩
@[reducible] def ziD (f:Ev->Mo W) (mg:W->Ev->(Ev->Prop)->Prop):Ms:=fun ρ n k=>f ρ n fun w m=>mg w ρ fun ρ'=>k.nx ρ' m
theorem EnvR.mineG {B:Bs}{A:Addr->Prop}{σ σ':St}{H:Hp}{ρ ρ':Ev}{n:Nat}(a:At3 Pn B S M A σ H ρ n)(E:EnvR A M σ' H ρ')(f:∀ i∈S++M,σ'[i]?=σ[i]?/\ρ'[i]?=ρ[i]?):At3 Pn B S M A σ' H ρ' n where
 env:=E
 frm:=a.frm
 pn:=a.pn
 prot:=a.prot
 fix:=⟨fun i hi=>(f i (List.mem_append.mpr (.inl hi))).1.trans (a.fix.1 i hi),a.fix.2⟩
 mine:=fun i w ad hi e s=>by
  obtain ⟨f1,f2⟩:=f i (List.mem_append.mpr (.inr hi))
  rw [f1] at s
  rw [f2] at e
  exact a.mine i w ad hi e s
theorem zfv {te:TE}{g:TG}{mg:W->Ev->(Ev->Prop)->Prop}(h:RE Pn M fr' te f)(hg:RG (S++M) M g mg):RS Pn S M fr (zd2 te g) (ziD f mg):=⟨fun B A σ H ρ n k D a kk hf=>by
 refine h.run A σ H ρ n _ _ a.env a.pn hf fun w m v H' r hv g' _=>?_
 have a':=a.step g'
 exact hg.run A σ H' ρ v w _ _ a'.env hv r fun σ2 ρ2 r2 E2 f2=>kk.nx A σ2 H' ρ2 m (EnvR.mineG a' E2 f2) r2⟩
theorem zQ {i:Nat}{x:Str}{pos':Pos}(hN:X.N.Nodup)(he:JE X Pn M fr' e f)(hi:X.N[i]?=some x:=by rfl)(hx:Loc X.env.scope x:=by first | exact Or.inl rfl | exact Or.inr rfl)(hiM:i∉M:=by decide)(hiS:i∉S++M:=by decide)(hs:swapsWith e (some (.Name x pos')) pos.line X.env=pure false:=by rfl)(hf:X.fn x=true\/X.env.scope.names.lookup x=some .local:=by first | exact .inl rfl | exact .inr rfl | assumption) :
  JS X Pn S M fr (.Assign [.Name x pos'] e pos) (ziD f (gN i)):=let ⟨te,q,r⟩:=he.ex;⟨_,yE hN hi hx q hs hf,zfv r (zcX hiM hiS)⟩
theorem ziw {i:Nat}{st:Stmt}(h:∃ te,QS X st (zd2 te (uy i))/\RE Pn M true te f)(hiM:i∉M:=by decide)(hiS:i∉S++M:=by decide):JS X Pn S M fr st (ziD f (gN i)):=let ⟨te,q,r⟩:=h;⟨_,q,zfv r (zcX hiM hiS)⟩
theorem zdk {tg:Expr}{mg:W->Ev->(Ev->Prop)->Prop}(he:JE X Pn M fr' e f)(hg:JG X (S++M) M tg mg)(hs:swapsWithSole [tg] e pos.line X.env=pure false:=by rfl)(hw:swappedStores [tg] e X.env=pure none:=by rfl)
  (h1:(assignEach [tg] X.env).map (·.2)=[assign tg X.env]:=by rfl):JS X Pn S M fr (.Assign [tg] e pos) (ziD f mg):=let ⟨te,q,r⟩:=he.ex;let ⟨g,q2,r2⟩:=hg.ex;⟨_,zlP q q2 hs hw h1,zfv r r2⟩
def zmL (i:Nat)(f:Ev->Mo W):Ms:=fun ρ n k=>f ρ n fun w m=>w.mut=true/\k.nx (ρ.set i (some w)) m
theorem ziP {T G:Hp}{w:W}{v:V}(h:WAt T G w v)(hm:w.mut=true):∃ a o,v = .ref a/\T a=some o/\NP o/\Mt o:=by
 cases w with
 | d x=>
  cases x with
  | lst l=>obtain ⟨a,xs,e,g1,_⟩:=h;exact ⟨a,_,e,g1,NP.lst,rfl⟩
  | dct=>obtain ⟨a,xs,e,g1,g2⟩:=h;exact ⟨a,_,e,g1,fun k z=>by cases z;subst g2;rfl,rfl⟩
  | _=>cases hm
 | pen p=>cases hm
 | dk kvs=>obtain ⟨a,xs,e,g1,_,g3⟩:=h;exact ⟨a,_,e,g1,fun k z=>by cases z;exact g3,rfl⟩
 | dt kvs=>obtain ⟨a,xs,e,g1,_⟩:=h;exact ⟨a,_,e,g1,(fun k z=>by cases z),rfl⟩
 | ss P w kvs=>obtain ⟨a,xs,e,g1,_⟩:=h;exact ⟨a,_,e,g1,zhm,rfl⟩
 | df kvs=>cases hm
 | kf kvs=>cases hm
 | ad a x=>cases hm
 | tz kvs x=>cases hm
 | fl kvs=>cases hm
theorem zl2 {te:TE}{i:Nat}(h:RE Pn M true te f)(hi:i∈M)(hs:i∉S):RS Pn S M fr (zd2 te (uy i)) (zmL i f):=⟨fun B A σ H ρ n k D a kk hf=>by
 refine h.run A σ H ρ n _ _ a.env a.pn hf  ?_
 rintro w m v H' ⟨hm,r⟩ hv g' hfr
 obtain ⟨ad,rfl,hF,hb⟩:=hfr rfl
 obtain ⟨a2,o,e2,ho,np,nt⟩:=ziP hb hm
 cases e2
 have E1:=a.env.more g'.st hF ho np nt
 have hnA:¬ A ad:=a.env.newF hF
 refine kk.nx (fun b=>A b\/b=ad) _ H' _ m ⟨⟨?_,?_,?_,E1.al⟩,⟨fun b z=>.inl (a.frm.sub b z),fun b z=>?_,fun b o e n c=>g'.st b o (a.frm.st b o e n c) n,a.frm.al,a.frm.cn,fun b z=>let ⟨o,e,n⟩:=a.frm.cs b z;⟨o,g'.st b o e n,n⟩⟩,a.pn.grow' g'.pn hF ho np nt,a.prot.trans (yv g'.st hF),⟨fun j hj=>?_,a.fix.2⟩,fun j u b hj e s=>?_⟩ r
 ·rw [List.length_set,List.length_set];exact a.env.len
 ·intro j u e
  by_cases hj:j=i
  ·subst hj
   have hl:j<ρ.length:=by
    have:=(List.getElem?_eq_some_iff.mp e).1
    simp_all
   rw [List.getElem?_set_self hl] at e
   cases e
   exact ⟨.ref ad,List.getElem?_set_self (by rw [a.env.len];exact hl),fun z=>absurd hi z,fun _=>⟨ad,rfl,.inr rfl,hb,hm⟩⟩
  ·rw [List.getElem?_set_ne (Ne.symm hj)] at e ⊢
   exact E1.val j u e
 ·intro j l u u' b hj hl hne e1 e2 s1 s2
  have own:∀ q u,q∈M->q≠i->ρ[q]?=some (some u)->σ[q]?≠some (some (.ref ad)):=fun q u hq hqi eq sq=>by
   obtain ⟨v,s,_,s3⟩:=a.env.val q u eq
   obtain ⟨c,ec,hc,_⟩:=s3 hq
   simp_all
  have len:∀ q (u:W),(ρ.set i (some w))[q]?=some (some u)->q<σ.length:=fun q u e=>by
   have:=(List.getElem?_eq_some_iff.mp e).1
   rw [List.length_set] at this
   rw [a.env.len];exact this
  by_cases hji:j=i
  ·subst hji
   rw [List.getElem?_set_self (len _ _ e1)] at s1
   cases s1
   rw [List.getElem?_set_ne hne] at e2 s2
   exact own l u' hl (Ne.symm hne) e2 s2
  ·rw [List.getElem?_set_ne (Ne.symm hji)] at e1 s1
   by_cases hli:l=i
   ·simp_all
   ·rw [List.getElem?_set_ne (Ne.symm hli)] at e2 s2
    exact a.env.dis j l u u' b hj hl hne e1 e2 s1 s2
 ·rcases z with z | z
  ·exact a.frm.new b z
  ·subst z;exact .inr (.inl (a.frm.back hF hnA))
 ·rw [List.getElem?_set_ne fun (z:i=j)=>hs (by rw [z];exact hj)]
  exact a.fix.1 j hj
 ·by_cases hji:j=i
  ·subst hji
   have hl:j<σ.length:=by
    have:=(List.getElem?_eq_some_iff.mp s).1
    simp_all
   rw [List.getElem?_set_self hl] at s
   cases s
   exact .inl (a.frm.back hF hnA)
  ·rw [List.getElem?_set_ne (Ne.symm hji)] at e s
   exact a.mine j u b hj e s⟩
theorem zbJ {i:Nat}{x:Str}{pos':Pos}(hN:X.N.Nodup)(he:JE X Pn M true e f)(hi:X.N[i]?=some x:=by rfl)(hx:Loc X.env.scope x:=by first | exact Or.inl rfl | exact Or.inr rfl)(hiM:i∈M:=by decide)(hiS:i∉S:=by decide)(hs:swapsWith e (some (.Name x pos')) pos.line X.env=pure false:=by rfl)(hf:X.fn x=true\/X.env.scope.names.lookup x=some .local:=by first | exact .inl rfl | exact .inr rfl | assumption) :
  JS X Pn S M fr (.Assign [.Name x pos'] e pos) (zmL i f):=let ⟨te,q,r⟩:=he.ex;⟨_,yE hN hi hx q hs hf,zl2 r hiM hiS⟩
end
open PySem PySem.Spec L2
section
variable {X:Cx}{Pn:PN}{M S:List Nat}{fr fr':Bool}{e a b c:Expr}{es:List Expr}{f fa fb fc:Ev->Mo W}{pos p:Pos}{st:Stmt}{sts:List Stmt}{fs gs:Ms}
@[reducible] def mNx:Ms:=fun ρ n k=>k.nx ρ n
structure blk (g:Ms)(ρ:Ev)(n:Nat)(k:Kt):Prop where
 go:g ρ n k
theorem zkb {g:Ms}{ρ:Ev}{n:Nat}{k:Kt}(h:g ρ n k):blk g ρ n k:=⟨h⟩
@[reducible] def mSeq (f g:Ms):Ms:=fun ρ n k=>f ρ n { k with nx:=fun ρ' n'=>blk g ρ' n' k }
def znN (t:Ev->Mo Bool)(f g:Ms):Ms:=fun ρ n k=>t ρ n fun c m=>if c=true then blk f ρ m k else blk g ρ m k
theorem zR:JSs X Pn S M fr [] mNx:=⟨_,zaf,⟨fun B A σ H ρ n k D a kk hf=>kk.nx A σ H ρ n a hf⟩⟩
theorem zl4 {t u:TS}(h1:RS Pn S M fr t fs)(h2:RS Pn S M fr u gs):RS Pn S M fr (zov t u) (mSeq fs gs):=⟨fun B A σ H ρ n k D a kk hf=>
 h1.run B A σ H ρ n { k with nx:=fun ρ' n'=>blk gs ρ' n' k } _ a ⟨fun A' σ' H' ρ' n' a' r=>h2.run B A' σ' H' ρ' n' k D a' kk r.go,kk.bk,kk.ct,kk.fc,kk.rt⟩ hf⟩
theorem zf (h1:JS X Pn S M fr st fs)(h2:JSs X Pn S M fr sts gs):JSs X Pn S M fr (st::sts) (mSeq fs gs):=let ⟨t,q,r⟩:=h1.ex;let ⟨u,q2,r2⟩:=h2.ex;⟨_,zr q q2,zl4 r r2⟩
theorem zi (h1:JS X Pn S M fr st fs):JSs X Pn S M fr [st] fs:=let ⟨t,q,r⟩:=h1.ex;⟨_,ye q,r⟩
theorem xf {body other:List Stmt}{t:Ev->Mo Bool}(hc:JT X Pn M c t)(ha:JSs X Pn S M fr body fs)(hb:JSs X Pn S M fr other gs):JS X Pn S M fr (.If c body other pos) (znN t fs gs):=by
 obtain ⟨tc,qc,rc⟩:=hc.ex
 obtain ⟨ta,qa,ra⟩:=ha.ex
 obtain ⟨tb,qb,rb⟩:=hb.ex
 refine ⟨_,zdV qc qa qb,⟨fun B A σ H ρ n k D a kk hf=>?_⟩⟩
 refine rc.run A σ H ρ n _ _ a.env a.pn hf fun c m H1 r g=>?_
 cases c with
 | true=>rw [if_pos rfl] at r ⊢;exact ra.run B A σ H1 ρ m k D (a.step g) kk r.go
 | false=>rw [if_neg (by decide)] at r ⊢;exact rb.run B A σ H1 ρ m k D (a.step g) kk r.go
@[reducible] def znL (f:Ev->Mo W):Ms:=fun ρ n k=>f ρ n fun _ m=>k.nx ρ m
theorem zit (he:JE X Pn M fr' e f)(hs:swapsWith e none pos.line X.env=pure false:=by rfl):JS X Pn S M fr (.Expr e pos) (znL f):=by
 obtain ⟨te,q,r⟩:=he.ex
 exact ⟨_,zae q hs,⟨fun B A σ H ρ n k D a kk hf=>r.run A σ H ρ n _ _ a.env a.pn hf fun w m v H' r' _ g _=>kk.nx A σ H' ρ m (a.step g) r'⟩⟩
theorem At3.wr {B:Bs}{A:Addr->Prop}{σ:St}{H:Hp}{ρ:Ev}{n:Nat}(h:At3 Pn B S M A σ H ρ n){i:Nat}{w:W}{ad:Addr}{xs:List V}{l:List Dt}(hi:i∈M)(e:ρ[i]?=some (some w))(s:σ[i]?=some (some (.ref ad)))(hl:IsL (zM A H) l xs):At3 Pn B S M A σ (L2.upd H ad (.lst xs)) (ρ.set i (some (.d (.lst l)))) n:=by
 obtain ⟨v,s1,_,s3⟩:=h.env.val i w e
 rw [s] at s1
 cases s1
 obtain ⟨a2,e2,hA,_,_⟩:=s3 hi
 cases e2
 have hlen:i<ρ.length:=(List.getElem?_eq_some_iff.mp e).1
 have hE:EnvR A M σ (L2.upd H ad (.lst xs)) (ρ.set i (some (.d (.lst l)))):=by
  refine ⟨by rw [List.length_set];exact h.env.len,fun j u ej=>?_,fun j q u u' b hj hq hne e1 e2=>?_,fun b hb=>?_⟩
  ·by_cases hj:j=i
   ·subst hj
    rw [List.getElem?_set_self hlen] at ej
    cases ej
    exact ⟨.ref ad,s,fun z=>absurd hi z,fun _=>⟨ad,rfl,hA,⟨ad,xs,rfl,zh,by rw [yC hA];exact hl⟩,rfl⟩⟩
   ·rw [List.getElem?_set_ne (Ne.symm hj)] at ej
    obtain ⟨v,t1,t2,t3⟩:=h.env.val j u ej
    refine ⟨v,t1,fun z=>?_,fun z=>?_⟩
    ·show WAt _ _ _ _
     rw [yC hA]
     exact t2 z
    ·obtain ⟨b,rfl,hb,hbb,hm⟩:=t3 z
     have hne:b≠ad:=fun q=>h.env.dis i j w u ad hi z (Ne.symm hj) e ej s (by rw [t1,q])
     refine ⟨b,rfl,hb,?_,hm⟩
     show WAt _ _ _ _
     rw [yC hA]
     cases u with
     | d x=>
      cases x with
      | lst l=>obtain ⟨a2,xs,e2,g1,g2⟩:=hbb;cases e2;exact ⟨b,xs,rfl,by rw [zd hne];exact g1,g2⟩
      | dct=>obtain ⟨a2,xs,e2,g1,g2⟩:=hbb;cases e2;exact ⟨b,xs,rfl,by rw [zd hne];exact g1,g2⟩
      | _=>cases hm
     | pen p=>cases hm
     | dk k=>obtain ⟨a2,xs,e2,g1,g2⟩:=hbb;cases e2;exact ⟨b,xs,rfl,by rw [zd hne];exact g1,g2⟩
     | dt k=>obtain ⟨a2,xs,e2,g1,g2⟩:=hbb;cases e2;exact ⟨b,xs,rfl,by rw [zd hne];exact g1,g2⟩
     | ss P w k=>obtain ⟨a2,xs,e2,g1,g2⟩:=hbb;cases e2;exact ⟨b,xs,rfl,by rw [zd hne];exact g1,g2⟩
     | df k=>obtain ⟨a2,ob,xs,e2,g1,g2⟩:=hbb;cases e2;exact ⟨b,ob,xs,rfl,by simp_all,g2⟩
     | kf k=>obtain ⟨a2,ob,xs,e2,g1,g2⟩:=hbb;cases e2;exact ⟨b,ob,xs,rfl,by simp_all,g2⟩
     | ad a x=>cases hm
     | tz kvs x=>cases hm
     | fl k=>obtain ⟨a2,ob,xs,e2,g1,g2⟩:=hbb;cases e2;exact ⟨b,ob,xs,rfl,by simp_all,g2⟩
  ·have get:∀ q (u:W),(ρ.set i (some (.d (.lst l))))[q]?=some (some u)->∃ u',ρ[q]?=some (some u'):=fun q u z=>by
    by_cases hq:q=i
    ·subst hq;exact ⟨w,e⟩
    ·rw [List.getElem?_set_ne (Ne.symm hq)] at z;exact ⟨u,z⟩
   obtain ⟨v1,f1⟩:=get j u e1
   obtain ⟨v2,f2⟩:=get q u' e2
   exact h.env.dis j q v1 v2 b hj hq hne f1 f2
  ·by_cases hb':b=ad
   ·subst hb';exact ⟨_,zh,NP.lst,rfl⟩
   ·rw [zd hb'];exact h.env.al b hb
 refine ⟨hE,⟨h.frm.sub,h.frm.new,fun b o eb nn nc=>?_,h.frm.al,h.frm.cn,fun b z=>(by
  by_cases hb':b=ad
  ·subst hb';exact ⟨_,zh,NP.lst⟩
  ·rw [zd hb'];exact h.frm.cs b z)⟩,h.pn.upd hA,by rw [yC hA];exact h.prot,h.fix,fun j u b hj ej sj=>?_⟩
 ·have hne:b≠ad:=fun q=>by
   subst q
   rcases h.mine i w b hi e s with z | z
   ·exact z o eb nn
   ·exact nc z
  rw [zd hne]
  exact h.frm.st b o eb nn nc
 ·by_cases hj':j=i
  ·subst hj';exact h.mine j w b hj e sj
  ·rw [List.getElem?_set_ne (Ne.symm hj')] at ej;exact h.mine j u b hj ej sj
def zmI (i:Nat)(f:Ev->Mo W):Ms:=fun ρ n k=>(∃ l,ρ[i]?=some (some (.d (.lst l))))/\f ρ n fun w m=>∃ l d,ρ[i]?=some (some (.d (.lst l)))/\w = .d d/\l.length<lim/\k.nx (ρ.set i (some (.d (.lst (l++[d]))))) m
theorem zl0 {K:PySem.W.Frag}{te:TE}{i:Nat}(h:RE Pn M fr' te f)(hi:i∈M):RS Pn S M fr (zjQ (tBM K "list" zcU (zgW i) (zc2 te zjZ))) (zmI i f):=⟨by
 rintro B A σ H ρ n k D a kk ⟨⟨l0,e0⟩,hf⟩
 obtain ⟨v,s1,_,s3⟩:=a.env.val i _ e0
 obtain ⟨ad,rfl,hA,hb,_⟩:=s3 hi
 obtain ⟨a2,xs0,e2,g0,_⟩:=hb
 cases e2
 refine ⟨.ref ad,s1,.inl ⟨rfl,_,SqL.of g0⟩,?_⟩
 refine h.run A σ H ρ n _ _ a.env a.pn hf  ?_
 rintro w m v H' ⟨l,d,e,ed,hz,r⟩ hv g _
 subst ed
 have a':=a.step g
 obtain ⟨v2,t1,_,t3⟩:=a'.env.val i _ e
 rw [s1] at t1
 cases t1
 obtain ⟨a3,e3,hA3,hb3,_⟩:=t3 hi
 cases e3
 obtain ⟨a4,xs,e4,g4,hl⟩:=hb3
 cases e4
 exact ⟨ad,xs,v,rfl,rfl,g4,zeU (by rw [hl.length];exact Nat.le_of_lt hz),kk.nx A σ _ _ m (a'.wr hi e s1 (hl.append (IsL.one hv.is))) r⟩⟩
theorem zdj (i:Nat){x:Str}{ap cp sp np:Pos}(he:JE X Pn M fr' e f)(hi:i∈M:=by decide)(hN:X.N[i]?=some x:=by rfl)(hv:Vis X.env.scope x:=by first | exact Or.inl rfl | exact Or.inr (Or.inl rfl) | exact Or.inr (Or.inr rfl))(hd:(x==("__debug__" : Str))=false:=by decide)
  (hcd:(x==("__classdict__" : Str))=false:=by decide) (hs1:starEach (e::[]) X.env=(false,eval e X.env)::starEach [] X.env:=by rfl) (hs:swapsWith (.Call (.Attribute (.Name x np) "append" ap) [e] [] cp) none sp.line X.env=pure false:=by rfl) (hbase:attributeBase (.Name x np) "append" X.env (eval (.Name x np) X.env)=eval (.Name x np) X.env:=by rfl) (hline:(ap.endLine==cp.line)=true:=by rfl)
  (hfew:((backTo cp (starEach [e] X.env)).all (fun x=>!x.1)&&(backToKw cp (keywordEach [] X.env)).all (fun x=>x.1.isSome)&&decide (([e]:List Expr).length+([]:List Keyword).length+(if ([]:List Keyword).isEmpty then 0 else 1)<30))=true:=by rfl) (hplain:(backTo cp (starEach [] X.env)).any (·.1)=false:=by rfl) :
  JS X Pn S M fr (.Expr (.Call (.Attribute (.Name x np) "append" ap) [e] [] cp) sp) (zmI i f):=by
 obtain ⟨te,q,r⟩:=he.ex
 exact ⟨_,zae (zlJ (qv i hN hv hd hcd) (zp q zZ hs1) hbase hfew hline hs1 hplain) hs,zl0 r hi⟩
def zhY (mg:W->Ev->(Ev->Prop)->Prop)(fb:Ms)(ρ:Ev)(k:Kt):List W->Nat->Prop:=fun l n1=>∃ I:Nat->Ev->Nat->Prop,I 0 ρ n1/\
 (∀ i w ρ' n',l[i]?=some w->I i ρ' n'->mg w ρ' fun ρ1=>fb ρ1 n' { k with nx:=I (i+1),ct:=I (i+1),bk:=k.nx })/\∀ ρ' n',I l.length ρ' n'->k.nx ρ' n'
@[reducible] def mFor (fi:Ev->Mo (List W)) (mg:W->Ev->(Ev->Prop)->Prop) (fb:Ms):Ms:=fun ρ n k=>fi ρ n (zhY mg fb ρ k)
theorem zga {B:Bs}{A:Addr->Prop}{σ:St}{H1:Hp}{ρ:Ev}{m:Nat}{k:Kt}{D:Ends}{J:It}{l:List W}{g:TG}{tb:TS}{mg:W->Ev->(Ev->Prop)->Prop}{fb:Ms}(hg:RG (S++M) M g mg)(hb:RS Pn S M fr tb fb)(hS:9999∉S)(a1:At3 Pn B S M A σ H1 ρ m)(kk:KOk Pn B S M fr k D)(iv:ItV false A H1 J l)(hf:zhY mg fb ρ k l m) :
  ∃ W:Nat->Nat->St->Hp->Prop,(∃ m,W 0 m σ H1)/\∀ i m σ H,W i m σ H->(J.stop i H/\D.nx σ H)\/(J.go i H/\∃ N:St->Hp->Prop,(∀ σ' H',N σ' H'->∃ m',m'<m/\W (i+1) m' σ' H')/\∀ x H',J.yld i H x H'->g x σ H' fun σ2 H2=>tb { D with nx:=N,ct:=N,bk:=D.nx } σ2 H2):=by
 obtain ⟨I,i0,it,ie⟩:=hf
 have out:∀ {A':Addr->Prop} {σ':St} {H':Hp} {ρ':Ev} {n':Nat},At3 Pn { B with G0:=zM A H1 } S M A' σ' H' ρ' n'->At3 Pn B S M A' σ' H' ρ' n':=fun {A' σ' H' ρ' n'} q=>⟨q.env,q.frm,q.pn,a1.prot.trans q.prot,⟨q.fix.1,a1.fix.2⟩,q.mine⟩
 refine ⟨fun i mm σ' H'=>mm=l.length - i/\i<=l.length/\∃ A' ρ' n',At3 Pn { B with G0:=zM A H1 } S M A' σ' H' ρ' n'/\I i ρ' n',⟨l.length,by simp,Nat.zero_le _,A,ρ,m,⟨a1.env,a1.frm,a1.pn,zn.refl _,⟨a1.fix.1,fun z=>absurd z hS⟩,a1.mine⟩,i0⟩,?_⟩
 rintro i mm σ' H' ⟨rfl,hil,A',ρ',n',a',hI⟩
 by_cases hlt:i<l.length
 ·right
  have hget:l[i]?=some l[i]:=List.getElem?_eq_getElem hlt
  obtain ⟨go,yl⟩:=iv.one i l[i] A' H' hget a'.prot (fun z=>by cases z) fun p hp=>a'.env.new hp
  refine ⟨go,fun σ2 H2=>∃ A' ρ' n',At3 Pn { B with G0:=zM A H1 } S M A' σ2 H2 ρ' n'/\I (i+1) ρ' n',fun σ2 H2 h=>⟨l.length - (i+1),by lia,rfl,hlt,h⟩,fun x H2 hy=>?_⟩
  obtain ⟨S2,V2⟩:=yl x H2 hy
  have a2:=a'.step (Go.same a'.pn S2)
  refine hg.run A' σ' H2 ρ' x l[i] _ _ a2.env V2 (it i l[i] ρ' n' hget hI) fun σ3 ρ3 r3 E3 f3=>?_
  refine hb.run { B with G0:=zM A H1 } A' σ3 H2 ρ3 n' _ _ (EnvR.mineG a2 E3 f3) ⟨?_,?_,?_,kk.fc,?_⟩ r3
  ·exact fun A4 σ4 H4 ρ4 n4 a4 r4=>⟨A4,ρ4,n4,a4,r4⟩
  ·exact fun A4 σ4 H4 ρ4 n4 a4 r4=>kk.nx A4 σ4 H4 ρ4 n4 (out a4) r4
  ·exact fun A4 σ4 H4 ρ4 n4 a4 r4=>⟨A4,ρ4,n4,a4,r4⟩
  ·exact kk.rt
 ·left
  have hie:i=l.length:=by lia
  subst hie
  exact ⟨iv.stop A' H' a'.prot (fun z=>by cases z),kk.nx A' σ' H' ρ' n' (out a') (ie ρ' n' hI)⟩
theorem zl1 {wi:TI}{g:TG}{tb:TS}{fi:Ev->Mo (List W)}{mg:W->Ev->(Ev->Prop)->Prop}{fb:Ms}(hi:RI Pn M false wi fi)(hg:RG (S++M) M g mg)(hb:RS Pn S M fr tb fb)(hS:9999∉S):RS Pn S M fr (zot wi g tb) (mFor fi mg fb):=⟨fun B A σ H ρ n k D a kk hf=>hi.run A σ H ρ n _ _ a.env a.pn hf fun l m J H1 hl iv g1=>zga hg hb hS (a.step g1) kk iv hl⟩
theorem xb {tg iter:Expr}{body:List Stmt}{fi:Ev->Mo (List W)}{mg:W->Ev->(Ev->Prop)->Prop}{fb:Ms}(hp:PassesOwn (model X.prog X.w) X.A X.env X.xe)(hc:X.calm=true)(hi:JI X Pn M false tg iter fi)(hg:JG X (S++M) M tg mg)(hb:JSs X Pn S M fr body fb)(hs:∀ x,foldedSetIterable iter X.env x=pure x:=by intro _;rfl)(hS:9999∉S:=by decide) :
  JS X Pn S M fr (.For tg iter body [] pos) (mFor fi mg fb):=by
 obtain ⟨ti,qi,ri⟩:=hi.ex
 obtain ⟨tg',qg,rg⟩:=hg.ex
 obtain ⟨tb,qb,rb⟩:=hb.ex
 exact ⟨_,zfj hp hc qi qg qb hs,zl1 ri rg rb hS⟩
def xj (N:List Str)(ws:List W):Ev:=ws.map some++List.replicate (N.length - ws.length) none
theorem zaD.get {A:Addr->Prop}{H:Hp}:∀ {ws:List W} {vs:List V} {i:Nat} {w:W},zaD A H ws vs->ws[i]?=some w->∃ v,vs[i]?=some v/\Val A H w v
 | [],_,_,_,_,e=>by simp at e
 | x::ws,vs,0,w,⟨v,r,e1,h1,_⟩,e=>by simp_all
 | x::ws,vs,i+1,w,⟨v,r,e1,_,h2⟩,e=>by
  subst e1
  obtain ⟨u,h3,h4⟩:=zaD.get (i:=i) h2 (by simpa using e)
  simp_all
theorem zbD {A:Addr->Prop}{H:Hp}{N:List Str}{ws:List W}{vs:List V}(al:Al A H)(h:zaD A H ws vs)(hM:∀ i∈M,ws.length<=i):EnvR A M (L2.yt N vs) H (xj N ws) where
 len:=by
  unfold L2.yt xj
  rw [List.length_append,List.length_append,List.length_map,List.length_map,List.length_replicate,List.length_replicate,h.len]
 val:=fun i w e=>by
  unfold xj at e
  have hi:i<ws.length:=by
   apply Classical.byContradiction
   intro z
   rw [List.getElem?_append_right (by simp_all)] at e
   obtain ⟨_,q⟩:=List.getElem?_eq_some_iff.mp e
   simp_all
  rw [List.getElem?_append_left (by simp_all),List.getElem?_map] at e
  obtain ⟨w',e1,e2⟩:=Option.map_eq_some_iff.mp e
  cases e2
  obtain ⟨v,h1,h2⟩:=h.get e1
  refine ⟨v,?_,fun _=>h2,fun z=>absurd (hM i z) (by lia)⟩
  unfold L2.yt
  have hi':i<vs.length:=by rw [h.len];exact hi
  rw [List.getElem?_append_left (by simp_all),List.getElem?_map,h1]
  rfl
 dis:=fun i j w u ad hi hj hne e1=>by
  unfold xj at e1
  have:=hM i hi
  rw [List.getElem?_append_right (by simp_all)] at e1
  obtain ⟨_,q⟩:=List.getElem?_eq_some_iff.mp e1
  simp_all
 al:=al
theorem zkZ {P:Program}{w:World}{K:PySem.W.Frag}{mg:Str->Option Value}{base:Heap}{qual:Str}{st:Stmt}{f:Addr}{fd:FuncData}{N ps:List Str}{k m:Nat}{F:PN->List W->Mo W}(M:List Nat)(okq:(∀ vs H Q E,spV m fr F vs H Q E->vs.length=ps.length)->(∀ (cdv:Value) (A:Around) (outer:List Env) (s:Shared) (H:Hp) (vs:List V) (Q:VK) (E:XK),Room k (A.deeper (PyProof.Rows.envOfC qual (zc st) s.heap.objs.size f cdv))->spV m fr F vs H Q E->
   ∃ t,QSs (uP CX0 P w K mg base N qual (zc st) f cdv A outer s H E).nox (zH st) t/\t { nx:=fun _ H'=>Q .non H',rt:=Q } (L2.yt N vs) H)->FnOk P w K mg base CX0 (k+1) f fd ps (spV m fr F)) (hm:m=ps.length) (hM:∀ i∈M,m<=i)
  (hbody:∀ (cdv:Value) (A:Around) (outer:List Env) (s:Shared) (H:Hp) (E:XK) (Pn:PN),Room k (A.deeper (PyProof.Rows.envOfC qual (zc st) s.heap.objs.size f cdv))->
   ∃ fs,JSs (uP CX0 P w K mg base N qual (zc st) f cdv A outer s H E).nox Pn [] M fr (zH st) fs/\∀ ws n R,ws.length=m->F Pn ws n R->fs (xj N ws) n { nx:=fun _ n'=>fr=false/\R (.d .non) n',rt:=R }):FnOk P w K mg base CX0 (k+1) f fd ps (spV m fr F):=by
 refine okq (fun vs H Q E h=>?_) (fun cdv A outer s H vs Q E hr h=>?_)
 ·obtain ⟨Pn,A,ws,n,R,_,hv,hl,_⟩:=h
  rw [hv.len,hl,hm]
 ·obtain ⟨Pn,A3,ws,n,R,al,hv,hl,hp,hF,q⟩:=h
  obtain ⟨fs,⟨t,qs,rs⟩,hfs⟩:=hbody cdv A outer s H E Pn hr
  refine ⟨t,qs,rs.run { A0:=A3,H0:=H,G0:=zM A3 H,σ0:=L2.yt N vs } A3 (L2.yt N vs) H (xj N ws) n _ _ ⟨zbD al hv (fun i hi=>by simp_all),⟨fun _ z=>z,fun _ z=>.inl z,.of (zn.refl _),al,fun _ z=>z.elim,fun _ z=>z.elim⟩,hp,zn.refl _,⟨fun i hi=>rfl,fun z=>by cases z⟩,fun i w a hi e=>?_⟩ ⟨?_,?_,?_,fun _ z=>z,?_⟩ (hfs ws n R hl hF)⟩
  ·exact absurd e (by
    unfold xj
    have:=hM i hi
    rw [List.getElem?_append_right (by simp_all)]
    intro z
    obtain ⟨_,q⟩:=List.getElem?_eq_some_iff.mp z
    rw [List.getElem_replicate] at q
    cases q)
  ·intro A' σ' H' ρ' n' a' ⟨hfr,r⟩
   exact q _ n' .non H' r (Val.of (show Is _ .non .non from rfl)) ⟨a'.frm.st.stay,a'.pn.less a'.frm.sub⟩ fun z=>by rw [hfr] at z;cases z
  ·simp_all
  ·simp_all
  ·intro w n' v H' hv' st pn hfr r
   exact q w n' v H' r hv' ⟨st.stay,pn⟩ hfr
end
open PySem PySem.Spec L2
section
variable {X:Cx}{Pn:PN}{M S:List Nat}{fr fr':Bool}{e a b c:Expr}{es:List Expr}{f fa fb fc:Ev->Mo W}{pos p p2:Pos}
def zhj (B:Dt->Bool)(f:Ev->Mo W):Ev->Mo W:=fun ρ n Q=>f ρ n fun w m=>∃ d,w = .d d/\Q (.d (.bl (B d))) m
theorem zfs {K:PySem.W.Frag}{T:String}{B:Dt->Bool}{te:TE}(hk:∀ d:Dt,PySem.W.kitOne K (.type d.ty) (.type T)=some (B d))(h:RB Pn M te f):RE Pn M false (tCB (fun xs H Q=>∃ x T t b,xs=[x,.ty T]/\TyOf K H x t/\PySem.W.kitOne K t (.type T)=some b/\Q (.bl b) H) (zc2 te (zc2 (tC (.ty T)) zjZ))) (zhj B f):=⟨fun A σ H ρ n Q R E P hf k=>by
 refine h.run A σ H ρ n _ _ E P hf  ?_
 rintro w m v H' ⟨d,e,r⟩ bb g
 subst e
 exact ⟨v,T,_,_,rfl,bb.is.ty,hk d,k _ m _ H' r (Val.of rfl) g fun z=>by cases z⟩⟩
@[reducible] def zge:Dt->Bool
 | .str _=>true
 | _=>false
@[reducible] def isDct:Dt->Bool
 | .dct=>true
 | _=>false
theorem ziz (K:PySem.W.Frag)(d:Dt):PySem.W.kitOne K (.type d.ty) (.type "str")=some (zge d):=by cases d <;> rfl
theorem zim {T:String}{x:Str}{B:Dt->Bool}(hk:∀ d:Dt,PySem.W.kitOne X.K (.type d.ty) (.type T)=some (B d))(hv:bootBuiltins x=some (.type T))(hg2:Gl X x)(hn:x ≠ "__name__")(hd:(x==("__debug__" : Str))=false)(hg:Gl X "isinstance")(hm:X.mg "isinstance" = none)(hm2:X.mg x=none)(h:JB X Pn M e f)
  (hs1:starEach (e::[.Name x p2]) X.env=(false,eval e X.env)::starEach [.Name x p2] X.env) (hs2:starEach (.Name x p2::[]) X.env=(false,eval (.Name x p2) X.env)::starEach [] X.env) (hpl:(backTo pos (starEach [.Name x p2] X.env)).any (·.1)=false):JE X Pn M false (.Call (.Name "isinstance" p) [e,.Name x p2] [] pos) (zhj B f):=by
 obtain ⟨te,q,r⟩:=h.ex
 exact ⟨_,z0 zej hg hm PyProof.Rows.boot_isinstance (zp q (zp (zbf (v:=.ty T) hg2 hm2 hv rfl hn hd) zZ hs2) hs1) (by decide) (by decide) hs1 hpl,zfs hk r⟩
theorem xp (hg:Gl X "isinstance")(hm:X.mg "isinstance" = none)(hm2:X.mg "tuple" = none)(h:JB X Pn M e f)(hg2:Gl X "tuple" := by rfl)(hs1:starEach (e::[.Name "tuple" p2]) X.env=(false,eval e X.env)::starEach [.Name "tuple" p2] X.env:=by rfl)(hs2:starEach (.Name "tuple" p2::[]) X.env=(false,eval (.Name "tuple" p2) X.env)::starEach [] X.env:=by rfl)(hpl:(backTo pos (starEach [.Name "tuple" p2] X.env)).any (·.1)=false:=by rfl) :
  JE X Pn M false (.Call (.Name "isinstance" p) [e,.Name "tuple" p2] [] pos) (zhj Dt.isTup f):=zim (ziA _) PyProof.Rows.boot_tuple hg2 (by decide) (by decide) hg hm hm2 h hs1 hs2 hpl
theorem yo (hg:Gl X "isinstance")(hm:X.mg "isinstance" = none)(hm2:X.mg "bool" = none)(h:JB X Pn M e f)(hg2:Gl X "bool" := by rfl)(hs1:starEach (e::[.Name "bool" p2]) X.env=(false,eval e X.env)::starEach [.Name "bool" p2] X.env:=by rfl)(hs2:starEach (.Name "bool" p2::[]) X.env=(false,eval (.Name "bool" p2) X.env)::starEach [] X.env:=by rfl)(hpl:(backTo pos (starEach [.Name "bool" p2] X.env)).any (·.1)=false:=by rfl) :
  JE X Pn M false (.Call (.Name "isinstance" p) [e,.Name "bool" p2] [] pos) (zhj Dt.isBl f):=zim (zkP _) PyProof.Rows.boot_bool hg2 (by decide) (by decide) hg hm hm2 h hs1 hs2 hpl
theorem uf (hg:Gl X "isinstance")(hm:X.mg "isinstance" = none)(hm2:X.mg "str" = none)(h:JB X Pn M e f)(hg2:Gl X "str" := by rfl)(hs1:starEach (e::[.Name "str" p2]) X.env=(false,eval e X.env)::starEach [.Name "str" p2] X.env:=by rfl)(hs2:starEach (.Name "str" p2::[]) X.env=(false,eval (.Name "str" p2) X.env)::starEach [] X.env:=by rfl)(hpl:(backTo pos (starEach [.Name "str" p2] X.env)).any (·.1)=false:=by rfl) :
  JE X Pn M false (.Call (.Name "isinstance" p) [e,.Name "str" p2] [] pos) (zhj zge f):=zim (ziz _) PyProof.Rows.boot_str hg2 (by decide) (by decide) hg hm hm2 h hs1 hs2 hpl
def zgR (n:Nat):List Dt:=(List.range n).map fun i:Nat=>Dt.int i
theorem zeH {G:Hp}(n:Nat):IsL G (zgR n) ((List.range n).map fun i:Nat=>V.int i):=by
 have e1:zgR n=(((List.range n).map fun i:Nat=>(i:Int))).map Dt.int:=by unfold zgR;rw [List.map_map];rfl
 have e2:((List.range n).map fun i:Nat=>V.int i)=(((List.range n).map fun i:Nat=>(i:Int))).map V.int:=by rw [List.map_map];rfl
 rw [e1,e2]
 exact IsL.ints
def za4 (fa:Ev->Mo (List W)):Ev->Mo W:=fun ρ n Q=>fa ρ n fun ws m=>∃ j:Nat,ws=[.d (.int (j:Int))]/\j<=1000/\Q (.d (.lst (zgR j))) m
theorem zeL {q:Pos}{pr:Pos}{fs:Ev->Mo (List W)}(hm:X.mg "list" = none)(hm2:X.mg "range" = none)(ha:JAB X Pn M [a] fs)(hc:X.calm=true:=by rfl)(hg:Gl X "list" := by rfl)(hg2:Gl X "range" := by rfl)(hs:starEach (a::[]) X.env=(false,eval a X.env)::starEach [] X.env:=by rfl)(hs2:starEach (.Call (.Name "range" pr) [a] [] q::[]) X.env=(false,eval (.Call (.Name "range" pr) [a] [] q) X.env)::starEach [] X.env:=by rfl)
  (hp1:(backTo q (starEach [] X.env)).any (·.1)=false:=by rfl) (hp2:(backTo pos (starEach [] X.env)).any (·.1)=false:=by rfl):JE X Pn M true (.Call (.Name "list" p) [.Call (.Name "range" pr) [a] [] q] [] pos) (za4 fs):=by
 obtain ⟨ta,qa,ra⟩:=ha.ex
 refine ⟨_,zac (zcj hc) hg hm PyProof.Rows.boot_list (zp (zac zfZ hg2 hm2 PyProof.Rows.boot_range qa (by decide) (by decide) hs hp1) zZ hs2) (by decide) (by decide) hs2 hp2,⟨fun A σ H ρ n Q R E P hf k=>?_⟩⟩
 refine ra.run A σ H ρ n _ _ E P hf  ?_
 rintro ws m vs H1 ⟨j,e,hj,r⟩ bb g
 subst e
 obtain ⟨v,rfl,b1⟩:=zbz bb
 obtain rfl:=yP b1
 refine ⟨_,rfl,fun p1 H2 np g2 S2=>⟨p1,j,rfl,g2,hj,fun p3 H3 np3 g3 S3=>?_⟩⟩
 have g12:=g.trans (Go.same g.pn S2)
 exact k _ m _ H3 r (zfI (H:=H2) (zeH j) (zn.same S3) ((E.stay g12.st).new np3) g3) (g12.trans (Go.same g12.pn S3)) fun _=>(zeC (H:=H2) (zeH j) S3 np3 g3).back g12.st
@[reducible] def truD:W->Option Bool
 | .d (.lst l)=>some (!l.isEmpty)
 | .d (.tup l)=>some (!l.isEmpty)
 | .d (.bl b)=>some b
 | .d (.int i)=>some (i != 0)
 | .d .non=>some false
 | _=>none
theorem At3.own {B:Bs}{A:Addr->Prop}{σ:St}{H:Hp}{ρ:Ev}{n:Nat}(h:At3 Pn B S M A σ H ρ n){i:Nat}{l:List Dt}(hi:i∈M)(e:ρ[i]?=some (some (.d (.lst l)))):∃ ad xs,σ[i]?=some (some (.ref ad))/\A ad/\H ad=some (.lst xs)/\IsL (zM A H) l xs:=by
 obtain ⟨v,s1,_,s3⟩:=h.env.val i _ e
 obtain ⟨ad,rfl,hA,hb,_⟩:=s3 hi
 obtain ⟨a2,xs,e2,g0,hl⟩:=hb
 simp_all
def za5 (i:Nat):Ms:=fun ρ n k=>∃ l,ρ[i]?=some (some (.d (.lst l)))/\k.nx (ρ.set i (some (.d (.lst l.reverse)))) n
theorem zdN (i:Nat){x:Str}{ap cp sp np:Pos}(hi:i∈M:=by decide)(hN:X.N[i]?=some x:=by rfl)(hv:Vis X.env.scope x:=by first | exact Or.inl rfl | exact Or.inr (Or.inl rfl) | exact Or.inr (Or.inr rfl))(hd:(x==("__debug__" : Str))=false:=by decide)
  (hcd:(x==("__classdict__" : Str))=false:=by decide) (hs:swapsWith (.Call (.Attribute (.Name x np) "reverse" ap) [] [] cp) none sp.line X.env=pure false:=by rfl) (hbase:attributeBase (.Name x np) "reverse" X.env (eval (.Name x np) X.env)=eval (.Name x np) X.env:=by rfl) (hline:(ap.endLine==cp.line)=true:=by rfl) :
  JS X Pn S M fr (.Expr (.Call (.Attribute (.Name x np) "reverse" ap) [] [] cp) sp) (za5 i):=by
 refine ⟨_,zae (zju (qv i hN hv hd hcd) hbase hline) hs,⟨ ?_⟩⟩
 rintro B A σ H ρ n k D a kk ⟨l,e,r⟩
 obtain ⟨ad,xs,s1,hA,g0,hl⟩:=a.own hi e
 exact ⟨.ref ad,s1,.inl ⟨rfl,_,SqL.of g0⟩,ad,xs,rfl,rfl,g0,kk.nx A σ _ _ n (a.wr hi e s1 (zcv hl)) r⟩
end
open PySem PySem.Spec L2
section
variable {A:Addr->Prop}{H:Hp}
theorem zjX {w:W}{vs:List V}(h:zaD A H [w] vs):∃ v,vs=[v]/\Val A H w v:=by
 obtain ⟨v,r,e,h1,h2⟩:=h
 cases h2
 exact ⟨v,e,h1⟩
theorem zoN {w u:W}{vs:List V}(h:zaD A H [w,u] vs):∃ v y,vs=[v,y]/\Val A H w v/\Val A H u y:=by
 obtain ⟨v,r,e,h1,h2⟩:=h
 obtain ⟨y,rfl,h3⟩:=zjX h2
 exact ⟨v,y,e,h1,h3⟩
theorem zmy {st:List Int}{v:V}(h:Val A H (.d (stD st)) v):∃ a,v = .ref a/\H a=some (.tup (st.map V.int)):=by
 obtain ⟨a,xs,e,h1,h2⟩:=h
 obtain rfl:=h2.of_ints
 exact ⟨a,e,zj _ _ h1⟩
end
structure RoomOk (rm:List Int):Prop where
 ne:rm≠[]
 few:rm.length<=8
 box:∀ r∈rm,2<=r/\r<=4
abbrev FV:=PN->List W->Mo W
def zmC (k:Nat)(fr:Bool)(F:FV)(sp:Sp):Prop:=∀ vs H Q E,spV k fr F vs H Q E->sp vs H Q E
theorem FnOk.lift {P:Program}{w:World}{K:PySem.W.Frag}{mg:Str->Option Value}{base:Heap}{CX:CXT}{j k:Nat}{f:Addr}{fd:FuncData}{ps:List Str}{sp:Sp}{fr:Bool}{F:FV}(h:FnOk P w K mg base CX j f fd ps sp)(l:zmC k fr F sp):FnOk P w K mg base CX j f fd ps (spV k fr F):=h.imp l
def zj1:FV:=fun Pn ws n R=>∃ p c ns zE,Pn=⟨some (p,c,ns),J0⟩/\ws=[.pen p,.d (.int zE)]/\n<=1000000/\1<=zE/\zE<1073741824/\∀ r,0<=r->r<zE->R (.d (.int r)) (n+1)
@[reducible] def zmA:FV:=fun Pn ws n R=>∃ p c ns most,Pn=⟨some (p,c,ns),J0⟩/\ws=[.pen p,.d (.int most)]/\n+20<=1000000/\4<=most/\most<=256/\∀ rm,RoomOk rm->yp rm<=most->R (.d (stD rm)) (n+10)
@[reducible] def zg1:FV:=fun Pn ws n R=>∃ p c ns rm,Pn=⟨some (p,c,ns),J0⟩/\ws=[.pen p,.d (stD rm)]/\n+20<=1000000/\RoomOk rm/\∀ st,st.length=rm.length->(∀ b:Int,0<=b->b<rm.length->0<=zE st b/\zE st b<zE rm b)->R (.d (stD st)) (n+10)
@[reducible] def zbs (g:List (Int×Int)):Dt:=.tup (g.map yI)
@[reducible] def zj2:FV:=fun Pn ws n R=>∃ p c ns rm apart,Pn=⟨some (p,c,ns),J0⟩/\ws=[.pen p,.d (stD rm),.d (.int apart)]/\n+40<=1000000/\RoomOk rm/\∀ g,Giv rm g->(∀ q∈g,q.1≠apart)->g.length<=8->R (.d (zbs g)) (n+30)
@[reducible] def zmX:FV:=fun _ ws n R=>∃ d,ws=[.d d]/\R (.d (.bl d.isWhole)) n
@[reducible] def zmW:FV:=fun _ ws n R=>∃ a b,ws=[.d (.bl a),.d (.bl b)]/\R (.d (.bl (a==b))) n
@[reducible] def zg2:FV:=fun _ ws n R=>∃ ns:List Int,ws=[.d (stD ns)]/\(∀ n∈ns,2<=n/\n<=4)/\R (.d (.int (yp ns))) n
theorem zeS:zmC 1 false zg2 zhC:=by
 rintro vs H Q E ⟨Pn,A,ws,n,R,al,hv,hl,hp,⟨ns,rfl,h1,h4⟩,q⟩
 obtain ⟨v,rfl,b1⟩:=zjX hv
 obtain ⟨a,rfl,ha⟩:=zmy b1
 exact ⟨a,ns,rfl,ha,h1,q _ n _ H h4 (Val.of rfl) (Go.refl hp) fun z=>by cases z⟩
@[reducible] def zmV:FV:=fun _ ws n R=>∃ st g,ws=[.d (stD st),.d (zbs g)]/\(∀ q∈g,0<=q.1/\q.1<st.length)/\R (.d (.bl (zx st g))) n
@[reducible] def uC (sts:List (List Int)):Dt:=.lst (sts.map stD)
theorem zjO {A:Addr->Prop}{H H':Hp}{a:Addr}{ys:List V}{sts:List (List Int)}(al:Al A H)(s:yk H H')(n:H a=none)(h:H' a=some (.lst ys))(hl:IsL H' (sts.map stD) ys):Val A H' (.d (uC sts)) (.ref a)/\FrV A H H' (.d (uC sts)) (.ref a):=by
 have al':=al.stay (zn.same s)
 have hl1:=xY al'.noT (uF sts) hl
 refine ⟨Val.of ⟨a,ys,rfl,zm (al.new n) h,hl1⟩,a,rfl,.of n,a,ys,rfl,h,xY (fun b xs z e=>?_) (uF sts) hl⟩
 rcases z with z | z
 ·exact al'.noT b xs z e
 ·grind
@[reducible] def F_all:FV:=fun _ ws n R=>∃ rm,ws=[.d (stD rm)]/\RoomOk rm/\yp rm<=256/\R (.d (uC (y4 (rm.map zt)))) n
@[reducible] def lsD (c:List Int):Dt:=.lst (c.map .int)
@[reducible] def zaC:FV:=fun _ ws n R=>∃ cs:List (List Int),ws=[.d (.lst (cs.map lsD))]/\cs.length<=8/\(∀ c∈cs,c.length<=4)/\R (.d (uC (y4 cs))) n
theorem zgo {G H:Hp}(s:yk G H):∀ {cs:List (List Int)} {xs:List V},IsL G (cs.map lsD) xs->zj6 H xs cs:=fun {cs xs} h=>by
 refine ⟨by rw [h.length,List.length_map],fun i c hc=>?_⟩
 obtain ⟨v,h1,h2⟩:=h.getD (i:=i) (d:=lsD c) (by simp_all)
 obtain ⟨a,ys,rfl,h3,h4⟩:=h2
 obtain rfl:=h4.of_ints
 exact ⟨a,h1,s _ _ h3⟩
theorem za1 {K:PySem.W.Frag}:zmC 1 true zaC (zaR K):=by
 rintro vs H Q E ⟨Pn,A,ws,n,R,al,hv,hl,hp,⟨cs,rfl,h1,h2,h4⟩,q⟩
 obtain ⟨v,rfl,b1⟩:=zjX hv
 obtain ⟨a,xs,rfl,ha,hx⟩:=b1
 refine ⟨a,xs,cs,rfl,zj _ _ ha,zgo zj hx,h1,h2,fun a ys H' na ha' hys S=>?_⟩
 obtain ⟨z1,z2⟩:=zjO al S na ha' hys
 exact q _ n _ H' h4 z1 (Go.same hp S) fun _=>z2
open PySem PySem.Spec L2
theorem zeg {α:Type}{l:List W}{ρ0:Ev}{n:Nat}{mg:W->Ev->(Ev->Prop)->Prop}{ft:Ev->Mo Bool}{fe:Ev->Mo W}{Q:W->Nat->Prop}(xs:List α)(toW:α->W)(hl:l=xs.map toW)(J:Ev->Prop)(P:α->Bool)(E:α->Dt)(hlim:xs.length<=lim)(j0:J ρ0)
  (h:∀ a∈xs,∀ ρ',J ρ'->∀ C:Ev->Nat->Option Dt->Prop,(∀ ρ1,J ρ1->C ρ1 n (if P a then some (E a) else none))->mg (toW a) ρ' fun ρ1=>ft ρ1 n fun b n2=>if b=true then fe ρ1 n2 fun x n3=>∃ d,x = .d d/\C ρ1 n3 (some d) else C ρ1 n2 none)
  (fin:Q (.d (.lst ((xs.filter P).map E))) n):zee mg ft fe ρ0 Q l n:=by
 subst hl
 refine ⟨by simp_all,fun i ρ' n' acc=>J ρ'/\n'=n/\acc=((xs.take i).filter P).map E,⟨j0,rfl,by simp⟩,?_,?_⟩
 ·rintro i w ρ' n' acc hw ⟨hj,rfl,rfl⟩
  rw [List.getElem?_map] at hw
  obtain ⟨a,ha,rfl⟩:=Option.map_eq_some_iff.mp hw
  have:=h a (List.mem_of_getElem? ha) ρ' hj (fun ρ1 n3 o=>match o with
   | some d=>J ρ1/\n3=n'/\((xs.take i).filter P).map E++[d]=((xs.take (i+1)).filter P).map E
   | none=>J ρ1/\n3=n'/\((xs.take i).filter P).map E=((xs.take (i+1)).filter P).map E) (fun ρ1 hj1=>by
    rw [zo ha,List.filter_append,List.map_append]
    by_cases hp:P a=true
    ·simp_all
    ·rw [if_neg hp]
     exact ⟨hj1,rfl,by simp [hp]⟩)
  exact this
 ·grind
theorem zfX {α:Type}{l:List W}{ρ0:Ev}{n:Nat}{mg:W->Ev->(Ev->Prop)->Prop}{fe:Ev->Mo W}{Q:W->Nat->Prop}(xs:List α)(toW:α->W)(hl:l=xs.map toW)(J:Ev->Prop)(E:α->Dt)(hlim:xs.length<=lim)(j0:J ρ0)
  (h:∀ a∈xs,∀ ρ',J ρ'->∀ C:Ev->Nat->Dt->Prop,(∀ ρ1,J ρ1->C ρ1 n (E a))->mg (toW a) ρ' fun ρ1=>fe ρ1 n fun x n3=>∃ d,x = .d d/\C ρ1 n3 d)
  (fin:Q (.d (.lst (xs.map E))) n):zee mg znY fe ρ0 Q l n:=by
 subst hl
 refine ⟨by simp_all,fun i ρ' n' acc=>J ρ'/\n'=n/\acc=(xs.take i).map E,⟨j0,rfl,by simp⟩,?_,?_⟩
 ·rintro i w ρ' n' acc hw ⟨hj,rfl,rfl⟩
  rw [List.getElem?_map] at hw
  obtain ⟨a,ha,rfl⟩:=Option.map_eq_some_iff.mp hw
  exact h a (List.mem_of_getElem? ha) ρ' hj (fun ρ1 n3 d=>J ρ1/\n3=n'/\(xs.take i).map E++[d]=(xs.take (i+1)).map E) fun ρ1 hj1=>⟨hj1,rfl,by rw [zo ha,List.map_append];rfl⟩
 ·grind
theorem zhZ {r:Nat}{ρ:Ev}{n:Nat}{mg:W->Ev->(Ev->Prop)->Prop}{fb:Ms}{k:Kt}(I:Nat->Ev->Nat->Prop)(h0:I 0 ρ n)
  (h:∀ i ρ' n',i<r->I i ρ' n'->mg (.d (.int (i:Int))) ρ' fun ρ1=>fb ρ1 n' { k with nx:=I (i+1),ct:=I (i+1),bk:=k.nx }) (hd:∀ ρ' n',I r ρ' n'->k.nx ρ' n'):zhY mg fb ρ k (zdW 0 r) n:=by
 refine ⟨I,h0,fun i w ρ' n' hw hI=>?_,fun ρ' n' hI=>hd ρ' n' ?_⟩
 ·unfold zdW at hw
  rw [List.getElem?_map] at hw
  obtain ⟨j,h1,rfl⟩:=Option.map_eq_some_iff.mp hw
  obtain ⟨hi,h2⟩:=List.getElem?_eq_some_iff.mp h1
  rw [List.getElem_range] at h2
  simp_all
 ·unfold zdW at hI
  simp_all
theorem zeB {α:Type}{l:List W}{ρ:Ev}{n:Nat}{mg:W->Ev->(Ev->Prop)->Prop}{fb:Ms}{k:Kt}(xs:List α)(toW:α->W)(hl:l=xs.map toW)(I:Nat->Ev->Nat->Prop)(h0:I 0 ρ n)
  (h:∀ i a ρ' n',xs[i]?=some a->I i ρ' n'->mg (toW a) ρ' fun ρ1=>fb ρ1 n' { k with nx:=I (i+1),ct:=I (i+1),bk:=k.nx }) (hd:∀ ρ' n',I xs.length ρ' n'->k.nx ρ' n'):zhY mg fb ρ k l n:=by
 subst hl
 refine ⟨I,h0,fun i w ρ' n' hw hI=>?_,fun ρ' n' hI=>hd ρ' n' (by simp_all)⟩
 rw [List.getElem?_map] at hw
 obtain ⟨a,ha,rfl⟩:=Option.map_eq_some_iff.mp hw
 exact h i a ρ' n' ha hI
theorem zbE {r:Nat}{ρ:Ev}{n:Nat}{mg:W->Ev->(Ev->Prop)->Prop}{fb:Ms}{k:Kt}(I:Nat->Ev->Nat->Prop)(h0:I 0 ρ n)
  (h:∀ i ρ' n',i<r->I i ρ' n'->∀ (C B:Ev->Nat->Prop) (E:W->Nat->Prop),(∀ {ρ m},I (i+1) ρ m->C ρ m)->(∀ {ρ m},k.nx ρ m->B ρ m)->(∀ {w m},k.rt w m->E w m)->mg (.d (.int (i:Int))) ρ' fun ρ1=>fb ρ1 n' { rt:=E,nx:=C,ct:=C,bk:=B }) (hd:∀ ρ' n',I r ρ' n'->k.nx ρ' n'):zhY mg fb ρ k (zdW 0 r) n:=
 zhZ I h0 (fun i ρ' n' hi hI=>h i ρ' n' hi hI (I (i+1)) k.nx k.rt (fun z=>z) (fun z=>z) fun z=>z) hd
theorem xl {α:Type}{l:List W}{ρ:Ev}{n:Nat}{mg:W->Ev->(Ev->Prop)->Prop}{fb:Ms}{k:Kt}(xs:List α)(toW:α->W)(hl:l=xs.map toW)(I:Nat->Ev->Nat->Prop)(h0:I 0 ρ n)
  (h:∀ i a ρ' n',xs[i]?=some a->I i ρ' n'->∀ (C B:Ev->Nat->Prop) (E:W->Nat->Prop),(∀ {ρ m},I (i+1) ρ m->C ρ m)->(∀ {ρ m},k.nx ρ m->B ρ m)->(∀ {w m},k.rt w m->E w m)->mg (toW a) ρ' fun ρ1=>fb ρ1 n' { rt:=E,nx:=C,ct:=C,bk:=B }) (hd:∀ ρ' n',I xs.length ρ' n'->k.nx ρ' n'):zhY mg fb ρ k l n:=
 zeB xs toW hl I h0 (fun i a ρ' n' ha hI=>h i a ρ' n' ha hI (I (i+1)) k.nx k.rt (fun z=>z) (fun z=>z) fun z=>z) hd
theorem zd9 {α:Type}{l:List α}{i:Nat}{x:α}(h:l[i]?=some x):atI l (i:Int)=some x:=by
 have:=(List.getElem?_eq_some_iff.mp h).1
 unfold atI ixN
 simp_all
theorem zj9 {α:Type}{l:List α}{i:Int}(h0:0<=i)(h1:i<l.length):∃ d,atI l i=some d/\d∈l:=by
 obtain ⟨j,rfl⟩:∃ j:Nat,i=j:=⟨i.toNat,by lia⟩
 have hj:j<l.length:=by lia
 exact ⟨l[j],zd9 (List.getElem?_eq_getElem hj),List.getElem_mem hj⟩
theorem zhK {st:List Int}{b:Int}(h0:0<=b)(h1:b<st.length):atI (st.map Dt.int) b=some (.int (zE st b)):=by
 obtain ⟨j,rfl⟩:∃ j:Nat,b=j:=⟨b.toNat,by lia⟩
 have hj:j<st.length:=by lia
 refine zd9 ?_
 rw [List.getElem?_map,List.getElem?_eq_getElem hj,xO]
 simp [hj]
open PySem L2
def gw (g:List (Int×Int))(i:Nat):Option Int:=(g.find? fun q=>decide (q.1=(i:Int))).map (·.2)
theorem ziB (g:List (Int×Int))(i:Nat):ym (List.map kvD (List.map (fun q:Int×Int=>(q.1,Dt.int q.2)) g)) (Sum.inl (i:Int))=(gw g i).map Dt.int:=by
 unfold ym gw
 induction g with
 | nil=>rfl
 | cons q g ih=>
  rw [List.map_cons,List.map_cons,List.find?_cons,List.find?_cons]
  by_cases h:q.1=(i:Int)
  ·have h1:decide ((kvD (q.1,Dt.int q.2)).1=(Sum.inl (i:Int):Key))=true:=decide_eq_true (by show (Sum.inl q.1:Key)=_;rw [h])
   rw [h1,decide_eq_true h]
   rfl
  ·have h1:decide ((kvD (q.1,Dt.int q.2)).1=(Sum.inl (i:Int):Key))=false:=decide_eq_false fun z=>h (Sum.inl.inj z)
   simp_all
theorem zhN (rm:List Int):enW 0 (rm.map Dt.int)=(List.range rm.length).map fun i:Nat=>W.d (.tup [.int (i:Int),.int (rm.getD i 0)]):=by
 apply List.ext_getElem?
 intro i
 rw [zcp,List.getElem?_map,List.getElem?_map]
 by_cases h:i<rm.length
 all_goals simp_all
def cho (rm:List Int)(g:List (Int×Int))(i:Nat):List Int:=match gw g i with
 | some w=>[w]
 | none=>zt (rm.getD i 0)
def chs (rm:List Int)(g:List (Int×Int)):List (List Int):=(List.range rm.length).map (cho rm g)
def zaY (rm:List Int)(g:List (Int×Int)):List (List Int):=y4 (chs rm g)
def kpN (g:List (Int×Int))(n:Nat)(st:List Int):Bool:=g.all fun q=>!decide (q.1<n) || decide (zE st q.1=q.2)
theorem zaZ {g:List (Int×Int)}{n:Nat}{st:List Int}:kpN g n st=true↔∀ q∈g,q.1<(n:Int)->zE st q.1=q.2:=by
 unfold kpN
 rw [List.all_eq_true]
 constructor
 ·intro h q hq hn
  have:=h q hq
  simp_all
 ·intro h q hq
  grind
theorem zbC {rows:List (List Int)}{ws:List Int}{p p':List Int->Bool}{q:Int->Bool}(h:∀ r∈rows,∀ w∈ws,p (r++[w])=(p' r&&q w)):(yK rows ws).filter p=yK (rows.filter p') (ws.filter q):=by
 unfold yK
 induction rows with
 | nil=>rfl
 | cons r rows ih=>
  have ih':=ih fun r' hr=>h r' (List.mem_cons_of_mem _ hr)
  rw [List.flatMap_cons,List.filter_append,ih',List.filter_cons]
  have e:(ws.map fun w=>r++[w]).filter p=if p' r=true then (ws.filter q).map (fun w=>r++[w]) else []:=by
   rw [List.filter_map]
   have e1:ws.filter (p ∘ fun w=>r++[w])=ws.filter fun w=>p' r&&q w:=List.filter_congr fun w hw=>h r List.mem_cons_self w hw
   rw [e1]
   cases p' r with
   | true=>simp
   | false=>simp
  rw [e]
  cases p' r with
  | true=>simp
  | false=>simp
theorem zcs {rm:List Int}{g:List (Int×Int)}(hg:Giv rm g){i:Nat}{w:Int}(h:gw g i=some w):((i:Int),w)∈g:=by
 unfold gw at h
 obtain ⟨q,h1,h2⟩:=Option.map_eq_some_iff.mp h
 grind
theorem zh8 {g:List (Int×Int)}{i:Nat}(h:gw g i=none):∀ q∈g,q.1≠(i:Int):=fun q hq e=>by
 unfold gw at h
 have:=List.find?_eq_none.mp (Option.map_eq_none_iff.mp h) q hq
 simp [e] at this
theorem zh3 {rm:List Int}{g:List (Int×Int)}(hg:Giv rm g){q r:Int×Int}(h1:q∈g)(h2:r∈g)(e:q.1=r.1):q=r:=by
 have key:∀ g:List (Int×Int),(g.Pairwise fun a b=>a.1<b.1)->q∈g->r∈g->q=r:=by
  intro g hp
  induction hp with
  | nil=>intro h;simp at h
  | cons ha _ ih=>
   grind
 exact key g hg.up h1 h2
theorem zfr {m w:Int}(h0:0<=w)(h1:w<m):(zt m).filter (fun x=>decide (x=w))=[w]:=by
 unfold zt
 rw [List.filter_map]
 have key:∀ n:Nat,w.toNat<n->(List.range n).filter ((fun x:Int=>decide (x=w)) ∘ fun i:Nat=>(i:Int))=[w.toNat]:=by
  intro n
  induction n with
  | zero=>intro h;lia
  | succ n ih=>
   intro h
   rw [List.range_succ,List.filter_append]
   by_cases hn:w.toNat<n
   ·rw [ih hn]
    have:¬ ((n:Int)=w):=by lia
    simp [this]
   ·have hn':w.toNat=n:=by lia
    have e:(n:Int)=w:=by lia
    have:(List.range n).filter ((fun x:Int=>decide (x=w)) ∘ fun i:Nat=>(i:Int))=[]:=by
     rw [List.filter_eq_nil_iff]
     grind
    rw [this]
    simp [e,hn']
 grind
theorem zbM {rm:List Int}{g:List (Int×Int)}(hg:Giv rm g):∀ n:Nat,n<=rm.length->(y4 ((rm.take n).map zt)).filter (kpN g n)=y4 ((List.range n).map (cho rm g))
 | 0,_=>by
  have:kpN g 0 []=true:=zaZ.mpr fun q hq hn=>by
   have:=(hg.ok q hq).1
   lia
  simp [y4,this]
 | n+1,hn=>by
  have hlt:n<rm.length:=hn
  have ih:=zbM hg n (Nat.le_of_lt hlt)
  rw [zo (List.getElem?_eq_getElem hlt),List.map_append,List.range_succ,List.map_append]
  show (y4 (_++[zt rm[n]])).filter _=y4 (_++[cho rm g n])
  rw [yg,yg,<- ih]
  have hrow:∀ r∈y4 ((rm.take n).map zt),r.length=n:=fun r hr=>by
   rw [xJ _ _ hr,List.length_map,List.length_take]
   lia
  have e:rm.getD n 0=rm[n]:=by simp [hlt]
  have em:zE rm (n:Int)=rm[n]:=by unfold zE;simp [hlt]
  rw [zbC (p':=kpN g n) (q:=fun w=>match gw g n with | some v=>decide (w=v) | none=>true)]
  ·congr 1
   unfold cho
   cases hq:gw g n with
   | none=>rw [e];simp
   | some v=>
    have hb:=hg.ok _ (zcs hg hq)
    have h2:v<zE rm (n:Int):=hb.2.2.2
    exact zfr hb.2.2.1 (by lia)
  ·intro r hr w hw
   have hl:=hrow r hr
   rw [Bool.eq_iff_iff,Bool.and_eq_true,zaZ,zaZ]
   have lt:∀ q∈g,q.1<(n:Int)->zE (r++[w]) q.1=zE r q.1:=fun q hq hn=>zbP (hg.ok q hq).1 (by lia)
   have eqn:zE (r++[w]) (n:Int)=w:=by rw [<- hl];exact zbO
   constructor
   ·intro h
    refine ⟨fun q hq hn=>by rw [<- lt q hq hn];exact h q hq (by lia),?_⟩
    cases hq:gw g n with
    | none=>rfl
    | some v=>
     have h1:=h _ (zcs hg hq) (by lia)
     simp_all
   ·rintro ⟨h1,h2⟩ q hq hn
    by_cases hqn:q.1<(n:Int)
    ·rw [lt q hq hqn]
     exact h1 q hq hqn
    ·have hqe:q.1=(n:Int):=by lia
     have hg':gw g n=some q.2:=by
      cases hz:gw g n with
      | none=>exact absurd hqe (zh8 hz q hq)
      | some v=>rw [zh3 hg hq (zcs hg hz) hqe]
     simp_all
theorem zcy {rm:List Int}{g:List (Int×Int)}(hg:Giv rm g):(y4 (rm.map zt)).filter (fun st=>zx st g)=zaY rm g:=by
 have h:=zbM hg rm.length (Nat.le_refl _)
 rw [List.take_length] at h
 unfold zaY chs
 rw [<- h]
 refine List.filter_congr fun st hst=>?_
 rw [Bool.eq_iff_iff,zaZ]
 unfold zx
 rw [List.all_eq_true]
 constructor
 ·intro z q hq _
  exact of_decide_eq_true (z q hq)
 ·intro z q hq
  exact decide_eq_true (z q hq (hg.ok q hq).2.1)
theorem zbL {rm:List Int}{g:List (Int×Int)}(hg:Giv rm g):∀ st∈zaY rm g,st.length=rm.length:=fun st hst=>by
 unfold zaY chs at hst
 rw [xJ _ _ hst,List.length_map,List.length_range]
theorem uW {rm:List Int}{g:List (Int×Int)}(hR:RoomOk rm):(zaY rm g).length<=65536:=by
 have h:=zaT (cs:=chs rm g) (by unfold chs;rw [List.length_map,List.length_range];exact hR.few) (fun c hc=>by
  obtain ⟨i,hi,rfl⟩:=List.mem_map.mp hc
  have hi':=List.mem_range.mp hi
  have hb:=hR.box _ (List.getElem_mem hi')
  have e:rm.getD i 0=rm[i]:=by simp [hi']
  unfold cho
  cases gw g i with
  | some v=>simp
  | none=>rw [yu];lia) (chs rm g).length
 rw [List.take_length] at h
 exact h
section
variable {X:Cx}{Pn:PN}{M S:List Nat}{fr fr':Bool}{e a b c:Expr}{es:List Expr}{f fa fb fc:Ev->Mo W}{pos p p2:Pos}
theorem zbq:∀ (l k:List Dt) (i:Nat),(ziW l k)[i]?=(l[i]?).bind fun x=>(k[i]?).map fun y=>W.d (.tup [x,y])
 | [],_,_=>by simp [ziW]
 | _::_,[],_=>by simp [ziW]
 | x::r,y::s,0=>by simp [ziW]
 | x::r,y::s,i+1=>by
  have:=zbq r s i
  simp only [ziW,List.getElem?_cons_succ,this]
theorem zdx:∀ (l k:List Dt),(ziW l k).length=min l.length k.length
 | [],_=>by simp [ziW]
 | _::_,[]=>by simp [ziW]
 | x::r,y::s=>by rw [ziW,List.length_cons,List.length_cons,List.length_cons,zdx r s];lia
def zkU (fa:Ev->Mo (List W)):Ev->Mo (List W):=fun ρ n Q=>fa ρ n fun ws m=>∃ l k,ws=[.d (.lst l),.d (.lst k)]/\Q (ziW l k) m
theorem zgi {K:PySem.W.Frag}{A:Addr->Prop}{H:Hp}{ad bd:Addr}{xs ys:List V}{l k:List Dt}(h:zM A H ad=some (.lst xs))(hl:IsL (zM A H) l xs)(h':zM A H bd=some (.lst ys))(hk:IsL (zM A H) k ys):ItV false A H (Izl K ad bd) (ziW l k) where
 one:=fun i w A2 H2 e s _ hA=>by
  rw [zbq] at e
  obtain ⟨d,h1,e⟩:=Option.bind_eq_some_iff.mp e
  obtain ⟨d',h1',rfl⟩:=Option.map_eq_some_iff.mp e
  obtain ⟨x,hx,hd⟩:=hl.getD h1
  obtain ⟨y,hy,hd'⟩:=hk.getD h1'
  have g:=zj _ _ (s.lst h)
  have g':=zj _ _ (s.lst h')
  refine ⟨⟨xs,ys,x,y,.of g,.of g',hx,hy⟩,?_⟩
  rintro v H3 ⟨T,z,z',e1,hT,e3,hz,hz'⟩
  subst e1 e3
  have q1:=hz xs (.of g)
  have q2:=hz' ys (.of g')
  rw [hx] at q1
  rw [hy] at q2
  cases q1
  cases q2
  have S:=yk.upd (o:=.tup [x,y]) hT
  exact ⟨S,Val.of ⟨T,_,rfl,zm (hA T hT) zh,_,_,rfl,(hd.stay s).stay (zn.same (y9 S)),_,_,rfl,(hd'.stay s).stay (zn.same (y9 S)),rfl⟩⟩
 stop:=fun A2 H2 s _=>⟨xs,ys,.of (zj _ _ (s.lst h)),.of (zj _ _ (s.lst h')),by rw [zdx,hl.length,hk.length];lia⟩
theorem zir {elts:List Expr}{x1}{tpos:Pos}{fs:Ev->Mo (List W)}(hg:Gl X "zip")(hm:X.mg "zip" = none)(ha:JA X Pn M [a,b] fs)(hs:starEach [a,b] X.env=[(false,eval a X.env),(false,eval b X.env)]:=by rfl)(hs2:starEach [b] X.env=[(false,eval b X.env)]:=by rfl):JI X Pn M false (.Tuple elts x1 tpos) (.Call (.Name "zip" p) [a,b] [] pos) (zkU fs):=by
 obtain ⟨te,q,r⟩:=ha.ex
 refine ⟨_,zjB hg hm q hs hs2,⟨fun A σ H ρ n Q R E P hf k=>?_⟩⟩
 refine r.run A σ H ρ n _ _ E P hf  ?_
 rintro ws m vs H1 ⟨l,kk,e,r⟩ hv g
 subst e
 obtain ⟨v,s,rfl,⟨ad,xs,rfl,had,hl⟩,v2,s2,rfl,⟨bd,ys,rfl,hbd,hk⟩,hs⟩:=hv
 cases hs
 exact ⟨ad,bd,rfl,⟨xs,.of (zj _ _ had)⟩,⟨ys,.of (zj _ _ hbd)⟩,k _ m _ H1 r (zgi had hl hbd hk) g⟩
def znM (i:Nat)(f:Ev->Mo W):Ms:=fun ρ n k=>(∃ l,ρ[i]?=some (some (.d (.lst l))))/\f ρ n fun w m=>∃ l l2,ρ[i]?=some (some (.d (.lst l)))/\w = .d (.lst l2)/\l.length+l2.length<=lim/\k.nx (ρ.set i (some (.d (.lst (l++l2))))) m
theorem zkH (i:Nat){x:Str}{ap cp sp np:Pos}(he:JE X Pn M fr' e f)(hi:i∈M:=by decide)(hN:X.N[i]?=some x:=by rfl)(hv:Vis X.env.scope x:=by first | exact Or.inl rfl | exact Or.inr (Or.inl rfl) | exact Or.inr (Or.inr rfl))(hd:(x==("__debug__" : Str))=false:=by decide)
  (hcd:(x==("__classdict__" : Str))=false:=by decide) (hs1:starEach (e::[]) X.env=(false,eval e X.env)::starEach [] X.env:=by rfl) (hs:swapsWith (.Call (.Attribute (.Name x np) "extend" ap) [e] [] cp) none sp.line X.env=pure false:=by rfl) (hbase:attributeBase (.Name x np) "extend" X.env (eval (.Name x np) X.env)=eval (.Name x np) X.env:=by rfl) (hline:(ap.endLine==cp.line)=true:=by rfl)
  (hfew:((backTo cp (starEach [e] X.env)).all (fun x=>!x.1)&&(backToKw cp (keywordEach [] X.env)).all (fun x=>x.1.isSome)&&decide (([e]:List Expr).length+([]:List Keyword).length+(if ([]:List Keyword).isEmpty then 0 else 1)<30))=true:=by rfl) (hplain:(backTo cp (starEach [] X.env)).any (·.1)=false:=by rfl) :
  JS X Pn S M fr (.Expr (.Call (.Attribute (.Name x np) "extend" ap) [e] [] cp) sp) (znM i f):=by
 obtain ⟨te,q,r⟩:=he.ex
 refine ⟨_,zae (zhu PySem.F.plainAttrs_list PySem.F.slot_list_extend PySem.F.type_list_extend zeY (qv i hN hv hd hcd) (zp q zZ hs1) hbase hfew hline hs1 hplain) hs,⟨ ?_⟩⟩
 rintro B A σ H ρ n k D a kk ⟨⟨l0,e0⟩,hf⟩
 obtain ⟨ad,xs0,s1,hA,g0,_⟩:=a.own hi e0
 refine ⟨.ref ad,s1,.inl ⟨rfl,_,SqL.of g0⟩,?_⟩
 refine r.run A σ H ρ n _ _ a.env a.pn hf  ?_
 rintro w m v H' ⟨l,l2,e,ed,hz,r⟩ hv g _
 subst ed
 have a':=a.step g
 obtain ⟨ad2,xs,s2,_,g4,hl⟩:=a'.own hi e
 rw [s1] at s2
 cases s2
 obtain ⟨b2,ys,rfl,hb2,hl2⟩:=hv
 exact ⟨ad,b2,xs,ys,rfl,rfl,g4,zj _ _ hb2,zdm (by rw [hl.length,hl2.length];exact hz),kk.nx A σ _ _ m (a'.wr hi e s1 (hl.append hl2)) r⟩
def zfO {α:Type}(l:List α)(k:Nat)(x:α):List α:=l.take k++x::l.drop k
def znO (i:Nat)(fk f:Ev->Mo W):Ms:=fun ρ n k=>(∃ l,ρ[i]?=some (some (.d (.lst l))))/\fk ρ n fun y m=>f ρ m fun w m2=>∃ l d j,ρ[i]?=some (some (.d (.lst l)))/\w = .d d/\y = .d (.int j)/\0<=j/\j<=l.length/\l.length<lim/\k.nx (ρ.set i (some (.d (.lst (zfO l j.toNat d))))) m2
theorem zkI (i:Nat){x:Str}{ap cp sp np:Pos}{frc:Bool}(hc:JE X Pn M frc c fc)(he:JE X Pn M fr' e f)(hi:i∈M:=by decide)(hN:X.N[i]?=some x:=by rfl)(hv:Vis X.env.scope x:=by first | exact Or.inl rfl | exact Or.inr (Or.inl rfl) | exact Or.inr (Or.inr rfl))(hd:(x==("__debug__" : Str))=false:=by decide)
  (hcd:(x==("__classdict__" : Str))=false:=by decide) (hs0:starEach (c::[e]) X.env=(false,eval c X.env)::starEach [e] X.env:=by rfl) (hs1:starEach (e::[]) X.env=(false,eval e X.env)::starEach [] X.env:=by rfl) (hs:swapsWith (.Call (.Attribute (.Name x np) "insert" ap) [c,e] [] cp) none sp.line X.env=pure false:=by rfl) (hbase:attributeBase (.Name x np) "insert" X.env (eval (.Name x np) X.env)=eval (.Name x np) X.env:=by rfl) (hline:(ap.endLine==cp.line)=true:=by rfl)
  (hfew:((backTo cp (starEach [c,e] X.env)).all (fun x=>!x.1)&&(backToKw cp (keywordEach [] X.env)).all (fun x=>x.1.isSome)&&decide (([c,e]:List Expr).length+([]:List Keyword).length+(if ([]:List Keyword).isEmpty then 0 else 1)<30))=true:=by rfl) (hplain:(backTo cp (starEach [e] X.env)).any (·.1)=false:=by rfl) :
  JS X Pn S M fr (.Expr (.Call (.Attribute (.Name x np) "insert" ap) [c,e] [] cp) sp) (znO i fc f):=by
 obtain ⟨te,q,r⟩:=he.ex
 obtain ⟨tc,qc,rc⟩:=hc.ex
 refine ⟨_,zae (zhu PySem.F.plainAttrs_list PySem.F.slot_list_insert PySem.F.type_list_insert zeZ (qv i hN hv hd hcd) (zp qc (zp q zZ hs1) hs0) hbase hfew hline hs0 hplain) hs,⟨ ?_⟩⟩
 rintro B A σ H ρ n k D a kk ⟨⟨l0,e0⟩,hf⟩
 obtain ⟨ad,xs0,s1,hA,g0,_⟩:=a.own hi e0
 refine ⟨.ref ad,s1,.inl ⟨rfl,_,SqL.of g0⟩,?_⟩
 refine rc.run A σ H ρ n _ _ a.env a.pn hf fun w1 m1 v1 H1 r1 hv1 g1 _=>?_
 have a1:=a.step g1
 refine r.run A σ H1 ρ m1 _ _ a1.env a1.pn r1  ?_
 rintro w m v H' ⟨l,d,j,e,ed,ey,j0,j1,hz,r⟩ hv g _
 subst ed ey
 have e1:v1 = .int j:=hv1
 subst e1
 have a':=a1.step g
 obtain ⟨ad2,xs,s2,_,g4,hl⟩:=a'.own hi e
 rw [s1] at s2
 cases s2
 refine ⟨ad,xs,j,v,rfl,rfl,g4,j0,by rw [hl.length];exact j1,zeU (by rw [hl.length];exact Nat.le_of_lt hz),kk.nx A σ _ _ m (a'.wr hi e s1 ?_) r⟩
 exact (hl.take _).append ⟨v,_,rfl,hv.is,hl.drop _⟩
def zmO {κ:Type}[DecidableEq κ](kvs:List (κ×Dt))(k:κ)(d:Dt):List (κ×Dt):=
 if (kvs.any fun kv=>decide (kv.1=k))=true then kvs.map (fun kv=>if kv.1=k then (kv.1,d) else kv) else kvs++[(k,d)]
end
open PySem PySem.Spec L2
def zj4:FV:=fun Pn ws n R=>∃ p c ns l,Pn=⟨some (p,c,ns),J0⟩/\ws=[.pen p,.d (.lst l)]/\n+l.length<=1000000/\l.length<=100000/\∀ l':List Dt,l'.Perm l->R (.d (.lst l')) (n+l.length)
section
variable {X:Cx}{Pn:PN}{M S:List Nat}{fr fr':Bool}{e a b c:Expr}{es:List Expr}{f fa fb fc:Ev->Mo W}{pos p:Pos}
theorem WAt.mv {T T' G G':Hp}{w:W}{ad:Addr}(t:∀ o,T ad=some o->T' ad=some o)(g:yk G G')(m:w.mut=true)(h:WAt T G w (.ref ad)):WAt T' G' w (.ref ad):=by
 cases w with
 | d x=>
  cases x with
  | lst l=>obtain ⟨a2,xs,e2,g1,g2⟩:=h;cases e2;exact ⟨ad,xs,rfl,t _ g1,g2.stay (zn.same g)⟩
  | dct=>obtain ⟨a2,xs,e2,g1,g2⟩:=h;cases e2;exact ⟨ad,xs,rfl,t _ g1,g2⟩
  | _=>cases m
 | pen p=>cases m
 | dk k=>obtain ⟨a2,xs,e2,g1,g2,g3⟩:=h;cases e2;exact ⟨ad,xs,rfl,t _ g1,g2.stay (zn.same g),g3⟩
 | dt k=>obtain ⟨a2,xs,e2,g1,g2⟩:=h;cases e2;exact ⟨ad,xs,rfl,t _ g1,g2.stay (zn.same g)⟩
 | ss P w k=>obtain ⟨a2,xs,e2,g1,g2⟩:=h;cases e2;exact ⟨ad,xs,rfl,t _ g1,g2.stay (zn.same g)⟩
 | df k=>obtain ⟨a2,ob,xs,e2,g1,g2⟩:=h;cases e2;exact ⟨ad,ob,xs,rfl,t _ g1,g2.stay (zn.same g)⟩
 | kf k=>obtain ⟨a2,ob,xs,e2,g1,g2⟩:=h;cases e2;exact ⟨ad,ob,xs,rfl,t _ g1,g2.stay (zn.same g)⟩
 | ad a x=>cases m
 | tz kvs x=>cases m
 | fl k=>obtain ⟨a2,ob,xs,e2,g1,g2⟩:=h;cases e2;exact ⟨ad,ob,xs,rfl,t _ g1,g2.stay (zn.same g)⟩
theorem At3.move {B:Bs}{A:Addr->Prop}{σ:St}{H:Hp}{ρ:Ev}{n:Nat}(h:At3 Pn B S M A σ H ρ n){i j:Nat}{w:W}{ad:Addr}(hj:j∈M)(hi:i∉M)(hiS:i∉S)(e:ρ[j]?=some (some w))(s:σ[j]?=some (some (.ref ad))):At3 Pn B S M (fun b=>A b/\b≠ad) (σ.set i (some (.ref ad))) H ((ρ.set j none).set i (some w)) n:=by
 obtain ⟨v,s1,_,s3⟩:=h.env.val j w e
 rw [s] at s1
 cases s1
 obtain ⟨a2,e2,hA,hbor,hmut⟩:=s3 hj
 cases e2
 have hij:i≠j:=fun z=>hi (z ▸ hj)
 have hless:∀ b,(A b/\b≠ad)->A b:=fun b z=>z.1
 have hsm:yk (zM A H) (zM (fun b=>A b/\b≠ad) H):=yh hless
 have get:∀ q (u:W),((ρ.set j none).set i (some w))[q]?=some (some u)->q≠i->q≠j/\ρ[q]?=some (some u):=fun q u z hq=>by
  rw [List.getElem?_set_ne (Ne.symm hq)] at z
  by_cases hqj:q=j
  ·subst hqj
   rw [List.getElem?_set] at z
   simp_all
  ·rw [List.getElem?_set_ne (Ne.symm hqj)] at z
   exact ⟨hqj,z⟩
 have hnotA0:¬ B.A0 ad:=fun z=>by
  rcases h.mine j w ad hj e s with q | q
  ·obtain ⟨o,o1,o2,_⟩:=h.frm.al ad z
   exact q o o1 o2
  ·exact h.frm.cn ad q z
 have vmain:Val (fun b=>A b/\b≠ad) H w (.ref ad):=by
  exact WAt.mv (fun o ho=>zm (fun z=>z.2 rfl) ho) hsm hmut hbor
 refine ⟨⟨?_,?_,?_,?_⟩,⟨fun b z=>⟨h.frm.sub b z,fun q=>hnotA0 (q ▸ z)⟩,fun b z=>h.frm.new b z.1,h.frm.st,h.frm.al,h.frm.cn,h.frm.cs⟩,h.pn.less hless,h.prot.trans (zn.same hsm),⟨fun k hk=>?_,h.fix.2⟩,fun k u b hk ek sk=>?_⟩
 ·rw [List.length_set,List.length_set,List.length_set];exact h.env.len
 ·intro q u eq
  by_cases hq:q=i
  ·subst hq
   have hlen:q<(ρ.set j none).length:=by
    have:=(List.getElem?_eq_some_iff.mp eq).1
    simp_all
   rw [List.getElem?_set_self hlen] at eq
   cases eq
   rw [List.length_set] at hlen
   refine ⟨.ref ad,List.getElem?_set_self (by rw [h.env.len];exact hlen),fun _=>vmain,fun z=>absurd z hi⟩
  ·obtain ⟨hqj,z⟩:=get q u eq hq
   obtain ⟨v,t1,t2,t3⟩:=h.env.val q u z
   refine ⟨v,by rw [List.getElem?_set_ne (Ne.symm hq)];exact t1,fun y=>WAt.up (zn.same hsm) (zn.same hsm) (t2 y),fun y=>?_⟩
   obtain ⟨b,rfl,hb,hbb,hm⟩:=t3 y
   refine ⟨b,rfl,⟨hb,fun q'=>?_⟩,WAt.up (zn.refl _) (zn.same hsm) hbb,hm⟩
   subst q'
   exact h.env.dis j q w u b hj y (Ne.symm hqj) e z s t1
 ·intro q k u u' b hq hk hne e1 e2
  have hqi:q≠i:=fun z=>hi (z ▸ hq)
  have hki:k≠i:=fun z=>hi (z ▸ hk)
  rw [List.getElem?_set_ne (Ne.symm hqi),List.getElem?_set_ne (Ne.symm hki)]
  exact h.env.dis q k u u' b hq hk hne (get q u e1 hqi).2 (get k u' e2 hki).2
 ·exact fun b z=>h.env.al b z.1
 ·have hki:k≠i:=fun z=>hiS (z ▸ hk)
  rw [List.getElem?_set_ne (Ne.symm hki)]
  exact h.fix.1 k hk
 ·have hki:k≠i:=fun z=>hi (z ▸ hk)
  rw [List.getElem?_set_ne (Ne.symm hki)] at sk
  exact h.mine k u b hk (get k u ek hki).2 sk
def ziK (i j:Nat):Ms:=fun ρ n k=>∃ w,ρ[j]?=some (some w)/\k.nx ((ρ.set j none).set i (some w)) n
theorem ziu {i:Nat}(j:Nat){x y:Str}{px py sp:Pos}(hN:X.N.Nodup)(hi:X.N[i]?=some x)(hx:Loc X.env.scope x)(hj:j∈M:=by decide)(hiM:i∉M:=by decide)(hiS:i∉S:=by decide)(hNj:X.N[j]?=some y:=by rfl)(hv:Vis X.env.scope y:=by first | exact Or.inl rfl | exact Or.inr (Or.inl rfl) | exact Or.inr (Or.inr rfl))(hd:(y==("__debug__" : Str))=false:=by decide)
  (hcd:(y==("__classdict__" : Str))=false:=by decide) (hs:swapsWith (.Name y py) (some (.Name x px)) sp.line X.env=pure false:=by rfl) (hf:X.fn x=true\/X.env.scope.names.lookup x=some .local:=by first | exact .inl rfl | exact .inr rfl | assumption):JS X Pn S M fr (.Assign [.Name x px] (.Name y py) sp) (ziK i j):=by
 refine ⟨_,yE (i:=i) hN hi hx (qv j hNj hv hd hcd) hs hf,⟨ ?_⟩⟩
 rintro B A σ H ρ n k D a kk ⟨w,e,r⟩
 obtain ⟨v,s1,_,s3⟩:=a.env.val j w e
 obtain ⟨ad,rfl,hA,_,_⟩:=s3 hj
 exact ⟨.ref ad,s1,kk.nx _ _ H _ n (a.move hj hiM hiS e s1) r⟩
end
open PySem PySem.Spec L2
end L3
namespace L3
open PySem PySem.Spec L2
theorem zce:∀ (ns:List Int),(∀ n∈ns,1<=n)->((y4 (ns.map zt)).length:Int)=yp ns:=by
 have:∀ (k:Nat) (ns:List Int),ns.length=k->(∀ n∈ns,1<=n)->((y4 (ns.map zt)).length:Int)=yp ns:=by
  intro k
  induction k with
  | zero=>intro ns e _;rw [List.eq_nil_of_length_eq_zero e];rfl
  | succ k ih=>
   intro ns e h
   obtain ⟨m,x,rfl⟩:∃ m x,ns=m++[x]:=by
    have hne:ns≠[]:=by intro z;rw [z] at e;cases e
    exact ⟨ns.dropLast,ns.getLast hne,(List.dropLast_concat_getLast hne).symm⟩
   rw [List.length_append] at e
   rw [List.map_append,List.map_cons,List.map_nil,yg,xk,yN,yu]
   have h1:=ih m (by simpa using e) fun n hn=>h n (List.mem_append_left _ hn)
   have h2:=h x (List.mem_append_right _ (by simp))
   rw [Int.natCast_mul,h1,Int.toNat_of_nonneg (by lia)]
 simp_all
theorem zfc:∀ {ns:List Int},(∀ n∈ns,1<=n)->1<=yp ns:=fun {ns} h=>by
 have h1:=zce ns h
 have:∀ (ns:List Int) (a:Int),1<=a->(∀ n∈ns,1<=n)->1<=ns.foldl (· * ·) a:=by
  intro ns
  induction ns with
  | nil=>intro a ha _;exact ha
  | cons n ns ih=>
   intro a ha hn
   refine ih (a * n) ?_ fun m hm=>hn m (List.mem_cons_of_mem _ hm)
   have:=hn n List.mem_cons_self
   exact Int.le_trans (by decide) (Int.mul_le_mul ha this (by decide) (by lia))
 exact this ns 1 (by decide) h
def zm0 (rm:List Int)(bk:List Wi)(g:List (Int×Int)):List (List Int):=(zaY rm g).filter fun st=>decide (zkv bk st (g.map (·.1))=[])
@[reducible] def zau (bk:List Wi):Dt:=.tup (bk.map xI)
def BkOk (rm:List Int)(bk:List Wi):Prop:=∀ x∈bk,WishOk rm x
@[reducible] def F_bett:FV:=fun _ ws n R=>∃ rm bk st hs,ws=[.d (stD rm),.d (zau bk),.d (stD st),.d (stD hs)]/\RoomOk rm/\BkOk rm bk/\st.length=rm.length/\R (.d (uC (betF bk st hs))) n
@[reducible] def zmz:FV:=fun _ ws n R=>∃ rm bk g,ws=[.d (stD rm),.d (zau bk),.d (zbs g)]/\RoomOk rm/\BkOk rm bk/\Giv rm g/\R (.d (uC (zm0 rm bk g))) n
theorem zgS (r:Nat):zdW 0 r=(List.range r).map fun k:Nat=>W.d (.int (k:Int)):=by
 unfold zdW
 simp_all
theorem zc6 {ns:List Int}(h8:ns.length<=8)(hb:∀ m∈ns,2<=m/\m<=4)(k:Nat):(y4 ((ns.take k).map zt)).length<=65536:=by
 have:=zaT (cs:=ns.map zt) (by simp_all) (fun c hc=>by
  obtain ⟨m,hm,rfl⟩:=List.mem_map.mp hc
  have:=hb m hm
  rw [yu];lia) k
 simp_all
theorem zj8 {L:List Dt}{a:Int}{G:Dt->Prop}(h0:0<=a)(h1:a<L.length)(h:∀ x∈L,G x):∃ x,atI L a=some x/\G x:=by
 obtain ⟨d,h2,h3⟩:=zj9 h0 h1
 exact ⟨d,h2,h d h3⟩
theorem um:∀ {rm:List Int},(∀ r∈rm,2<=r/\r<=4)->yp rm<=256->rm.length<=8:=fun {rm} hb hp=>by
 have:∀ (k:Nat) (rm:List Int),rm.length=k->(∀ r∈rm,2<=r/\r<=4)->(2:Int) ^ k<=yp rm:=by
  intro k
  induction k with
  | zero=>intro rm e _;rw [List.eq_nil_of_length_eq_zero e];decide
  | succ k ih=>
   intro rm e hb
   obtain ⟨m,x,rfl⟩:∃ m x,rm=m++[x]:=by
    have hne:rm≠[]:=by intro z;rw [z] at e;cases e
    exact ⟨rm.dropLast,rm.getLast hne,(List.dropLast_concat_getLast hne).symm⟩
   rw [List.length_append] at e
   have h1:=ih m (by simpa using e) fun n hn=>hb n (List.mem_append_left _ hn)
   have h2:=hb x (List.mem_append_right _ (by simp))
   rw [yN,Int.pow_succ]
   have h3:(0:Int)<=2 ^ k:=Int.pow_nonneg (by decide)
   exact Int.mul_le_mul h1 h2.1 (by decide) (by lia)
 apply Classical.byContradiction
 intro hn
 have h1:=this _ rm rfl hb
 have h2:(2:Int) ^ 9<=2 ^ rm.length:=by
  have:(2:Nat) ^ 9<=2 ^ rm.length:=Nat.pow_le_pow_right (by decide) (by lia)
  exact_mod_cast this
 grind
theorem zel {α β:Type}(f:α->β)(l:List α)(lo hi:Option Int):zb9 (l.map f) lo hi=(zb9 l lo hi).map f:=by
 unfold zb9
 simp_all
theorem zid {α β:Type}(f:α->β)(l:List α)(i:Nat)(x:α):zfO (l.map f) i (f x)=(zfO l i x).map f:=by
 unfold zfO
 simp_all
theorem zic {α:Type}(l:List α)(i:Nat)(x:α):(zfO l i x).length=l.length+1:=by
 unfold zfO
 grind
def unI:Dt->Int
 | .int i=>i
 | _=>0
theorem zf0 {α:Type}(l:List α)(k:Nat):zb9 l none (some (k:Int))=l.take k:=by
 unfold zb9
 rw [HT.sIx_none,HT.sIx_nat,List.drop_zero,Nat.sub_zero]
 grind
theorem zdH {ns:List Int}:(Dt.lst (ns.map .int)).eqOk:=yL (ns:=ns)
section
variable {X:Cx}{Pn:PN}{M S:List Nat}{fr fr':Bool}{e a b c:Expr}{es:List Expr}{f fa fb fc:Ev->Mo W}{pos p:Pos}
end
end L3
namespace L2
open PySem PySem.Spec PyProof.Rows
section
variable {prog:Program}{w:World}{A:Around}{E:Value->Shared->Prop}{R:Result->Shared->Prop}{s:Shared}
end
section
variable {X:Cx}{pins:List (Addr×Obj)}{σ:St}{H:Hp}{s:Shared}{a:Addr}{y v:V}{u r:Value}{o:Option V}{A:Around}{E:Value->Shared->Prop}
end
section
variable {X:Cx}{Fam:Cx->Prop}{scope:Scope}{N:List Str}{cix:List (Option Nat)}{z:Str}{use:Option (Value->Sem Unit)}{Qp:Value->Shared->Prop}{elt ke ve tg iter tg2 iter2:Expr}{ifs ifs2:List Expr}{pos ipos spos px:Pos}{wi wi2:TI}{g g2:TG}{ti ti2:TT}{te tk tv:TE}{pins:List (Addr×Obj)}{σ:St}{H:Hp}{s:Shared}{Q:VK}{o0:HO}
end
section
variable {X:Cx}{pins:List (Addr×Obj)}{σ:St}{H:Hp}{A:Around}
end
end L2
namespace L3
open PySem PySem.Spec L2
section
variable {X:Cx}{Pn:PN}{M S:List Nat}{fr fr':Bool}{e a b c:Expr}{es:List Expr}{f fa fb fc:Ev->Mo W}{pos p:Pos}
def zkm (mg:W->Ev->(Ev->Prop)->Prop)(ft:Ev->Mo Bool)(fk fv:Ev->Mo W)(ρ0:Ev)(Q:W->Nat->Prop):List W->Nat->Prop:=fun l n1=>l.length<=lim/\∃ I:Nat->Ev->Nat->List (List Int×Dt)->Prop,I 0 ρ0 n1 []/\
 (∀ i w ρ' n' acc,l[i]?=some w->I i ρ' n' acc->mg w ρ' fun ρ1=>ft ρ1 n' fun b n2=>if b=true then fk ρ1 n2 fun y n3=>fv ρ1 n3 fun x n4=>∃ st d,y = .d (stD st)/\x = .d d/\I (i+1) ρ1 n4 (zmO acc st d) else I (i+1) ρ1 n2 acc)/\
 ∀ ρ' n' acc,I l.length ρ' n' acc->Q (.dt acc) n'
@[reducible] def znK (fi:Ev->Mo (List W)) (mg:W->Ev->(Ev->Prop)->Prop) (ft:Ev->Mo Bool) (fk fv:Ev->Mo W) (cix:List (Option Nat)):Ev->Mo W:=fun ρ n Q=>fi ρ n (zkm mg ft fk fv (zdD ρ cix) Q)
def zkl (mg:W->Ev->(Ev->Prop)->Prop)(ft:Ev->Mo Bool)(fk fv:Ev->Mo W)(ρ0:Ev)(Q:W->Nat->Prop):List W->Nat->Prop:=fun l n1=>l.length<=lim/\∃ I:Nat->Ev->Nat->List (Key×Dt)->Prop,I 0 ρ0 n1 []/\
 (∀ i w ρ' n' acc,l[i]?=some w->I i ρ' n' acc->mg w ρ' fun ρ1=>ft ρ1 n' fun b n2=>if b=true then fk ρ1 n2 fun y n3=>fv ρ1 n3 fun x n4=>∃ (j:Int) (d:Dt),y = .d (.int j)/\x = .d d/\I (i+1) ρ1 n4 (zmO acc (Sum.inl j) d) else I (i+1) ρ1 n2 acc)/\
 ∀ ρ' n' acc,I l.length ρ' n' acc->Q (.dk acc) n'
@[reducible] def znJ (fi:Ev->Mo (List W)) (mg:W->Ev->(Ev->Prop)->Prop) (ft:Ev->Mo Bool) (fk fv:Ev->Mo W) (cix:List (Option Nat)):Ev->Mo W:=fun ρ n Q=>fi ρ n (zkl mg ft fk fv (zdD ρ cix) Q)
end
open PySem PySem.Spec L2
@[reducible] def onI (w:W) (P:Int->Prop):Prop:=match w with | .d (.int i)=>P i | _=>False
@[reducible] def onB (w:W) (P:Bool->Prop):Prop:=match w with | .d (.bl i)=>P i | _=>False
@[reducible] def onT (w:W) (P:List Dt->Prop):Prop:=match w with | .d (.tup i)=>P i | _=>False
@[reducible] def onL (w:W) (P:List Dt->Prop):Prop:=match w with | .d (.lst i)=>P i | _=>False
@[reducible] def onS (w:W) (P:List Dt->Prop):Prop:=match w with | .d (.lst i)=>P i | .d (.tup i)=>P i | _=>False
@[reducible] def onD (w:W) (P:Dt->Prop):Prop:=match w with | .d i=>P i | _=>False
@[reducible] def onK (w:W) (P:List (Key×Dt)->Prop):Prop:=match w with | .dk i=>P i | _=>False
@[reducible] def onE (w:W) (P:List (List Int×Dt)->Prop):Prop:=match w with | .dt i=>P i | _=>False
@[reducible] def onO {α:Type} (o:Option α) (P:α->Prop):Prop:=match o with | some i=>P i | none=>False
@[reducible] def onC (c:Bool) (A B:Prop):Prop:=match c with | true=>A | false=>B
@[reducible] def on1 (l:List W) (P:W->Prop):Prop:=match l with | [a]=>P a | _=>False
@[reducible] def on2 (l:List W) (P:W->W->Prop):Prop:=match l with | [a,b]=>P a b | _=>False
@[reducible] def onV:Ev->Nat->(W->Prop)->Prop
 | [],_,_=>False
 | a::_,0,P=>onO a P
 | _::r,i+1,P=>onV r i P
@[reducible] def onP:Ev->Nat->W->(Ev->Prop)->Prop
 | [],_,_,Q=>Q []
 | _::r,0,w,Q=>Q (some w::r)
 | a::r,i+1,w,Q=>onP r i w fun r'=>Q (a::r')
@[reducible] def onN:Ev->Nat->(Ev->Prop)->Prop
 | [],_,Q=>Q []
 | _::r,0,Q=>Q (none::r)
 | a::r,i+1,Q=>onN r i fun r'=>Q (a::r')
@[reducible] def u7 {α:Type}:Nat->List α->Prop->Prop
 | 0,[],P=>P
 | k+1,_::r,P=>u7 k r P
 | _,_,_=>False
theorem uj {w:W}{P:Int->Prop}:onI w P = ∃ i,w = .d (.int i)/\P i:=propext ⟨fun h=>by rcases w with (x|x|x|x|_|_) <;> first | exact False.elim h | (cases x <;> first | exact False.elim h | exact ⟨_,rfl,h⟩),by simp_all⟩
theorem ze4 {w:W}{P:Bool->Prop}:onB w P = ∃ i,w = .d (.bl i)/\P i:=propext ⟨fun h=>by rcases w with (x|x|x|x|_|_) <;> first | exact False.elim h | (cases x <;> first | exact False.elim h | exact ⟨_,rfl,h⟩),by rintro ⟨i,e,h⟩;subst e;exact h⟩
theorem ul {w:W}{P:List Dt->Prop}:onT w P = ∃ i,w = .d (.tup i)/\P i:=propext ⟨fun h=>by rcases w with (x|x|x|x|_|_) <;> first | exact False.elim h | (cases x <;> first | exact False.elim h | exact ⟨_,rfl,h⟩),by simp_all⟩
theorem u6 {w:W}{P:List Dt->Prop}:onL w P = ∃ i,w = .d (.lst i)/\P i:=propext ⟨fun h=>by rcases w with (x|x|x|x|_|_) <;> first | exact False.elim h | (cases x <;> first | exact False.elim h | exact ⟨_,rfl,h⟩),by simp_all⟩
theorem zk4 {w:W}{P:List Dt->Prop}:onS w P = ∃ i,(w = .d (.lst i)\/w = .d (.tup i))/\P i:=propext ⟨fun h=>by rcases w with (x|x|x|x|_|_) <;> first | exact False.elim h | (cases x <;> first | exact False.elim h | exact ⟨_,.inl rfl,h⟩ | exact ⟨_,.inr rfl,h⟩),by rintro ⟨i,e,h⟩;rcases e with e | e <;> subst e <;> exact h⟩
theorem xQ {w:W}{P:Dt->Prop}:onD w P = ∃ i,w = .d i/\P i:=propext ⟨fun h=>by cases w <;> first | exact False.elim h | exact ⟨_,rfl,h⟩,by simp_all⟩
theorem zho {w:W}{P:List (Key×Dt)->Prop}:onK w P = ∃ i,w = .dk i/\P i:=propext ⟨fun h=>by cases w <;> first | exact False.elim h | exact ⟨_,rfl,h⟩,by simp_all⟩
theorem u8 {α:Type}{w:Option α}{P:α->Prop}:onO w P = ∃ i,w=some i/\P i:=propext ⟨fun h=>by cases w <;> first | exact False.elim h | exact ⟨_,rfl,h⟩,by simp_all⟩
theorem zaI {c:Bool}{A B:Prop}:onC c A B=if c=true then A else B:=by cases c <;> simp [onC]
theorem ui {l:List W}{P:W->Prop}:on1 l P = ∃ a,l=[a]/\P a:=propext ⟨fun h=>by rcases l with (_|⟨a,_|⟨b,l⟩⟩) <;> first | exact False.elim h | exact ⟨_,rfl,h⟩,by simp_all⟩
theorem zaJ:∀ {ρ:Ev} {i:Nat} {P:W->Prop},onV ρ i P = ∃ w,ρ[i]?=some (some w)/\P w
 | [],i,P=>by simp [onV]
 | some w::r,0,P=>by simp [onV]
 | none::r,0,P=>by simp [onV]
 | some w::r,i+1,P=>by simpa [onV] using zaJ (ρ:=r) (i:=i) (P:=P)
 | none::r,i+1,P=>by simpa [onV] using zaJ (ρ:=r) (i:=i) (P:=P)
theorem uk:∀ {ρ:Ev} {i:Nat} {w:W} {Q:Ev->Prop},onP ρ i w Q=Q (ρ.set i (some w))
 | [],i,w,Q=>rfl
 | a::r,0,w,Q=>rfl
 | a::r,i+1,w,Q=>by rw [onP,uk];rfl
theorem zhp:∀ {ρ:Ev} {i:Nat} {Q:Ev->Prop},onN ρ i Q=Q (ρ.set i none)
 | [],i,Q=>rfl
 | a::r,0,Q=>rfl
 | a::r,i+1,Q=>by rw [onN,zhp];rfl
theorem uG {α:Type}:∀ {k:Nat} {l:List α} {P:Prop},u7 k l P=(l.length=k/\P)
 | 0,[],P=>by simp [u7]
 | 0,a::r,P=>by simp [u7]
 | k+1,[],P=>by simp [u7]
 | k+1,a::r,P=>by simp [u7,uG (l:=r)]
theorem zcL {P:Prop}[Decidable P]{A B:Prop}(h1:P->A)(h2:¬ P->B):onC (decide P) A B:=by
 by_cases h:P
 all_goals simp_all
theorem zk3 {P:Prop}[Decidable P]{A B:Prop}(h1:¬ P->A)(h2:P->B):onC (!decide P) A B:=by
 by_cases h:P
 all_goals simp_all
theorem ziS {c:Bool}{A B:Prop}(h:c=true)(h1:A):onC c A B:=by subst h;exact h1
theorem ziR {c:Bool}{A B:Prop}(h:c=false)(h1:B):onC c A B:=by subst h;exact h1
theorem zgw {α:Type}{o:Option α}{a:α}{P:α->Prop}(e:o=some a)(h:P a):onO o P:=by subst e;exact h
theorem onA {st:List Int}{b:Int}{P:Dt->Prop}(h0:0<=b)(h1:b<st.length)(h:P (.int (zE st b))):onO (atI (st.map Dt.int) b) P:=zgw (zhK h0 h1) h
theorem zk2 {L:List Dt}{a:Int}{P:Dt->Prop}(h0:0<=a)(h1:a<L.length)(h:∀ x∈L,P x):onO (atI L a) P:=by
 obtain ⟨x,e,hx⟩:=zj8 h0 h1 h
 exact zgw e hx
theorem onG {α:Type}{L:List α}{f:α->Dt}{i:Nat}{x:α}{P:Dt->Prop}(e:L[i]?=some x)(h:P (f x)):onO (atI (L.map f) (i:Int)) P:=zgw (zd9 (by simp_all)) h
section
variable {X:Cx}{Pn:PN}{M S:List Nat}{fr fr':Bool}{e a b c:Expr}{es:List Expr}{f fa fb fc g:Ev->Mo W}{pos p:Pos}{t u:Ev->Mo Bool}{fs gs:Ev->Mo (List W)}
theorem wE (h:f=g)(j:JE X Pn M fr e f):JE X Pn M fr e g:=h ▸ j
theorem wB (h:f=g)(j:JB X Pn M e f):JB X Pn M e g:=h ▸ j
theorem wT (h:t=u)(j:JT X Pn M e t):JT X Pn M e u:=h ▸ j
theorem wW (h:t=u)(j:JW X Pn M e t):JW X Pn M e u:=h ▸ j
theorem wO {f g:Ev->Mo (Option Int)}{e:Option Expr}(h:f=g)(j:JO X Pn M e f):JO X Pn M e g:=h ▸ j
theorem wG {f g:W->Ev->(Ev->Prop)->Prop}(h:f=g)(j:JG X S M e f):JG X S M e g:=h ▸ j
theorem wH {f g:List Dt->Ev->(Ev->Prop)->Prop}(h:f=g)(j:JGs X S M es f):JGs X S M es g:=h ▸ j
theorem wI {tg:Expr}{ow:Bool}(h:fs=gs)(j:JI X Pn M ow tg e fs):JI X Pn M ow tg e gs:=h ▸ j
theorem wS {s:Stmt}{f g:Ms}(h:f=g)(j:JS X Pn S M fr s f):JS X Pn S M fr s g:=h ▸ j
@[reducible] def zni (i:Nat):Ev->Mo W:=fun ρ n Q=>onV ρ i fun w=>Q w n
theorem zeX {i:Nat}:zkV i=zni i:=by funext ρ n Q;exact zaJ.symm
theorem kv (i:Nat){x:Str}(hi:i∉M:=by decide)(hN:X.N[i]?=some x:=by rfl)(hv:Vis X.env.scope x:=by first | exact Or.inl rfl | exact Or.inr (Or.inl rfl) | exact Or.inr (Or.inr rfl))(hd:(x==("__debug__" : Str))=false:=by decide)
  (hcd:(x==("__classdict__" : Str))=false:=by decide):JE X Pn M false (.Name x pos) (zni i):=wE zeX (zio i hi hN hv hd hcd)
theorem kb (i:Nat){x:Str}(hN:X.N[i]?=some x:=by rfl)(hv:Vis X.env.scope x:=by first | exact Or.inl rfl | exact Or.inr (Or.inl rfl) | exact Or.inr (Or.inr rfl))(hd:(x==("__debug__" : Str))=false:=by decide)
  (hcd:(x==("__classdict__" : Str))=false:=by decide):JB X Pn M (.Name x pos) (zni i):=wB zeX (zny i hN hv hd hcd)
@[reducible] def znh (fa:Ev->Mo W):Ev->Mo Bool:=fun ρ n Q=>fa ρ n fun x m=>onB x fun c=>Q c m
theorem zv:zhl fa=znh fa:=by funext ρ n Q;simp only [zhl,znh,ze4]
@[reducible] def dAnd (t u:Ev->Mo Bool):Ev->Mo Bool:=fun ρ n Q=>t ρ n fun c m=>onC c (u ρ m Q) (Q false m)
theorem zcz:zmH t u=dAnd t u:=by funext ρ n Q;simp only [zmH,dAnd,zaI]
@[reducible] def dOr (t u:Ev->Mo Bool):Ev->Mo Bool:=fun ρ n Q=>t ρ n fun c m=>onC c (Q true m) (u ρ m Q)
theorem zhk:mOr t u=dOr t u:=by funext ρ n Q;simp only [mOr,dOr,zaI]
@[reducible] def dNot (t:Ev->Mo Bool):Ev->Mo Bool:=fun ρ n Q=>t ρ n fun c m=>onC c (Q false m) (Q true m)
theorem x5:znU t=dNot t:=by
 funext ρ n Q
 simp only [znU,dNot]
 congr 1
 funext c m
 cases c <;> rfl
@[reducible] def zkf (fa fb:Ev->Mo W):Ev->Mo W:=fun ρ n Q=>fa ρ n fun x m=>onB x fun c=>onC c (fb ρ m Q) (Q (.d (.bl false)) m)
theorem uD:ziC fa fb=zkf fa fb:=by funext ρ n Q;simp only [ziC,zkf,zaI,ze4]
@[reducible] def dOrV (fa fb:Ev->Mo W):Ev->Mo W:=fun ρ n Q=>fa ρ n fun x m=>onB x fun c=>onC c (Q (.d (.bl true)) m) (fb ρ m Q)
@[reducible] def dNotV (fa:Ev->Mo W):Ev->Mo W:=fun ρ n Q=>fa ρ n fun x m=>onB x fun c=>Q (.d (.bl (!c))) m
@[reducible] def dIf (t:Ev->Mo Bool) (fa fb:Ev->Mo W):Ev->Mo W:=fun ρ n Q=>t ρ n fun c m=>onC c (fa ρ m Q) (fb ρ m Q)
theorem zkT:mIf t fa fb=dIf t fa fb:=by funext ρ n Q;simp only [mIf,dIf,zaI]
@[reducible] def dI (C:Int->Int->Prop) (g:Int->Int->Dt):W->W->Mo W:=fun x y n Q=>onI x fun i=>onI y fun j=>C i j/\Q (.d (g i j)) n
theorem zkr {C:Int->Int->Prop}{g:Int->Int->Dt}:fI C g=dI C g:=by
 funext x y n Q
 simp only [dI,uj]
 exact propext ⟨by rintro ⟨i,j,e1,e2,h⟩;exact ⟨i,e1,j,e2,h⟩,by rintro ⟨i,e1,j,e2,h⟩;exact ⟨i,j,e1,e2,h⟩⟩
@[reducible] def dI0 (g:Int->Int->Dt):W->W->Mo W:=fun x y n Q=>onI x fun i=>onI y fun j=>Q (.d (g i j)) n
theorem zdf {g:Int->Int->Dt}:fI0 g=dI0 g:=by
 funext x y n Q
 simp only [dI0,uj]
 exact propext ⟨by rintro ⟨i,j,e1,e2,h⟩;exact ⟨i,e1,j,e2,h⟩,by rintro ⟨i,e1,j,e2,h⟩;exact ⟨i,j,e1,e2,h⟩⟩
theorem zbo:F2 Pn false (rI0 fun i j=>.int (i+j)) (dI0 fun i j=>.int (i+j)):=zdf ▸ zoC
theorem zoB:F2 Pn false (rI0 fun i j=>.int (i - j)) (dI0 fun i j=>.int (i - j)):=zdf ▸ zoM
theorem zmo:F2 Pn false (rI zgZ fun i j=>.int (i * j)) (dI zgZ fun i j=>.int (i * j)):=zkr ▸ zoK
theorem zmn:F2 Pn false (rI (fun _ j=>0<j) fun i j=>.int (i % j)) (dI (fun _ j=>0<j) fun i j=>.int (i % j)):=zkr ▸ zoJ
theorem u_le:F2 Pn false (rI0 fun i j=>.bl (decide (i<=j))) (dI0 fun i j=>.bl (decide (i<=j))):=zdf ▸ v_le
theorem u_gt:F2 Pn false (rI0 fun i j=>.bl (decide (i > j))) (dI0 fun i j=>.bl (decide (j<i))):=zdf ▸ v_gt
@[reducible] def dNeg:W->Mo W:=fun x n Q=>onI x fun i=>Q (.d (.int (-i))) n
@[reducible] def dEq:W->W->Mo W:=fun x y n Q=>onD x fun a=>onD y fun b=>onO (sEq a b) fun r=>Q (.d (.bl r)) n
theorem zkq:fEq=dEq:=by
 funext x y n Q
 simp only [fEq,dEq,xQ,u8]
 simp_all
@[reducible] def dNe:W->W->Mo W:=fun x y n Q=>onD x fun a=>onD y fun b=>onO (sEq a b) fun r=>Q (.d (.bl (!r))) n
theorem zks:fNe=dNe:=by
 funext x y n Q
 simp only [fNe,dNe,xQ,u8]
 simp_all
theorem zjT:F2 Pn false rEq dEq:=zkq ▸ v_eq
theorem zoz:F2 Pn false rNe dNe:=zks ▸ v_ne
@[reducible] def zm6:W->W->Mo W:=fun x y n Q=>onD x fun a=>onD y fun b=>a.eqOk/\b.eqOk/\∀ r:Bool,(r=true↔a=b)->Q (.d (.bl r)) n
@[reducible] def znd:W->W->Mo W:=fun x y n Q=>onD x fun a=>onD y fun b=>a.eqOk/\b.eqOk/\∀ r:Bool,(r=true↔a=b)->Q (.d (.bl (!r))) n
theorem zhS:znm=zm6:=by
 funext x y n Q
 simp only [znm,zm6,xQ]
 simp_all
theorem zhW:znq=znd:=by
 funext x y n Q
 simp only [znq,znd,xQ]
 simp_all
theorem zfG:F2 Pn false zmP zm6:=zhS ▸ zoF
theorem zoA:F2 Pn false zmS znd:=zhW ▸ zoL
@[reducible] def dIsB:W->W->Mo W:=fun x y n Q=>onB x fun a=>onB y fun b=>Q (.d (.bl (a==b))) n
@[reducible] def zm8:W->W->Mo W:=fun x y n Q=>onB x fun a=>onB y fun b=>Q (.d (.bl (a != b))) n
@[reducible] def dInI:W->W->Mo W:=fun x y n Q=>onI x fun b=>onS y fun l=>∃ ns:List Int,l=ns.map .int/\Q (.d (.bl (ns.contains b))) n
@[reducible] def znf:W->W->Mo W:=fun x y n Q=>onI x fun b=>onS y fun l=>∃ ns:List Int,l=ns.map .int/\Q (.d (.bl (!ns.contains b))) n
@[reducible] def xr:Bool->Bool->Bool
 | false,b=>b
 | true,b=>!b
@[reducible] def dInD (neg:Bool):W->W->Mo W:=fun x y n Q=>onD x fun d=>onS y fun ds=>d.eqOk/\(Dt.lst ds).eqOk/\∀ b:Bool,(b=true↔d∈ds)->Q (.d (.bl (xr neg b))) n
theorem zoO {neg b:Bool}:(if neg then !b else b)=xr neg b:=by cases neg <;> rfl
@[reducible] def zna:W->W->Mo W:=fun x y n Q=>onT x fun l=>onI y fun i=>onO (atI l i) fun d=>Q (.d d) n
@[reducible] def zm9:W->W->Mo W:=fun x y n Q=>onL x fun l=>onI y fun i=>onO (atI l i) fun d=>Q (.d d) n
theorem zhU:zno=zna:=by
 funext x y n Q
 simp only [zno,zna,ul,uj,u8]
 simp_all
theorem zhT:znn=zm9:=by
 funext x y n Q
 simp only [znn,zm9,u6,uj,u8]
 simp_all
theorem y6 {K:PySem.W.Frag}:F2 Pn false (zmR K) zna:=zhU ▸ zoH
theorem zjU {K:PySem.W.Frag}:F2 Pn false (zmQ K) zm9:=zhT ▸ zoG
@[reducible] def zhM:W->W->Mo W:=fun x y n Q=>onT x fun l=>onT y fun m=>l.length+m.length<=lim/\Q (.d (.tup (l++m))) n
@[reducible] def dCatL:W->W->Mo W:=fun x y n Q=>onL x fun l=>onL y fun m=>l.length+m.length<=lim/\Q (.d (.lst (l++m))) n
theorem zf7:zhR=zhM:=by
 funext x y n Q
 simp only [zhR,zhM,ul]
 simp_all
theorem uv {K:PySem.W.Frag}:F2 Pn false (zfn K) zhM:=zf7 ▸ zmw
@[reducible] def dRepT:W->W->Mo W:=fun x y n Q=>onT x fun l=>onI y fun j=>(1<=j/\j<=1000000/\l.length * j.toNat<=lim)/\Q (.d (.tup (List.replicate j.toNat l).flatten)) n
@[reducible] def dRepL:W->W->Mo W:=fun x y n Q=>onL x fun l=>onI y fun j=>(0<=j/\j<=1000000/\l.length * j.toNat<=lim)/\Q (.d (.lst (List.replicate j.toNat l).flatten)) n
@[reducible] def znb:List W->Mo W:=fun ws n Q=>on1 ws fun x=>onO (lenD x) fun k=>Q (.d (.int (k:Int))) n
theorem zhV:znp=znb:=by
 funext ws n Q
 simp only [znp,znb,ui,u8]
 simp_all
theorem zc3 {K:PySem.W.Frag}:FL Pn false (fun xs H Q=>∃ x n,xs=[x]/\zmB K x H n/\Q (.int n) H) znb:=zhV ▸ zoI
@[reducible] def dAbs:List W->Mo W:=fun ws n Q=>on1 ws fun x=>onI x fun i=>Q (.d (.int (if i<0 then -i else i))) n
@[reducible] def dMin:List W->Mo W:=fun ws n Q=>on2 ws fun x y=>onI x fun i=>onI y fun j=>Q (.d (.int (if j<i then j else i))) n
@[reducible] def dMax:List W->Mo W:=fun ws n Q=>on2 ws fun x y=>onI x fun i=>onI y fun j=>Q (.d (.int (if j > i then j else i))) n
@[reducible] def zm3:List W->Mo W:=fun ws n Q=>on1 ws fun x=>onL x fun l=>∃ bs:List Bool,l=bs.map .bl/\Q (.d (.bl (bs.all id))) n
theorem zhP:znk=zm3:=by
 funext ws n Q
 simp only [znk,zm3,ui,u6]
 exact propext ⟨by rintro ⟨x,e,h⟩;exact ⟨_,e,_,rfl,x,rfl,h⟩,by simp_all⟩
theorem zmm:FL Pn false (fun xs H Q=>∃ (p:Addr) (bs:List Bool),xs=[.ref p]/\H p=some (.lst (bs.map V.bl))/\Q (.bl (bs.all id)) H) zm3:=zhP ▸ zoD
@[reducible] def dList:List W->Mo W:=fun ws n Q=>on1 ws fun x=>onS x fun l=>Q (.d (.lst l)) n
@[reducible] def zg8:List W->Mo W:=fun ws n Q=>on1 ws fun x=>onS x fun l=>Q (.d (.tup l)) n
theorem zop {ws:List W}{P:List Dt->Prop}:(∃ l,(ws=[.d (.lst l)]\/ws=[.d (.tup l)])/\P l)=on1 ws fun x=>onS x P:=by
 simp only [ui,zk4]
 grind
theorem zfH {K:PySem.W.Frag}:FL Pn false (zcV K) zg8:=(show zhc=zg8 by funext ws n Q;exact zop) ▸ zjW
@[reducible] def zem:List W->Mo W:=fun ws n Q=>on1 ws fun x=>onT x fun l=>∃ ps:List (Int×Dt),l=ps.map prD/\(ps.map (·.1)).Nodup/\ps.length<=1000/\Q (.dk (ps.map kvD)) n
theorem zeA:zez=zem:=by
 funext ws n Q
 simp only [zez,zem,ui,ul]
 exact propext ⟨by rintro ⟨x,e,h⟩;exact ⟨_,e,_,rfl,x,rfl,h⟩,by simp_all⟩
theorem zjS:FL Pn true zfo zem:=zeA ▸ zjV
@[reducible] def dInt1:List W->Mo W:=fun ws n Q=>on1 ws fun x=>match x with
 | .d (.int i)=>Q (.d (.int i)) n
 | .d (.bl b)=>Q (.d (.int (if b then 1 else 0))) n
 | _=>False
@[reducible] def dSortI:List W->Mo W:=fun ws n Q=>on1 ws fun x=>onL x fun l=>∃ ns:List Int,l=ns.map .int/\ns.length<64/\∀ ns':List Int,ns'.Perm ns->ns'.Pairwise (·<=·)->Q (.d (.lst (ns'.map .int))) n
@[reducible] def dSortT:List W->Mo W:=fun ws n Q=>on1 ws fun x=>onL x fun l=>∃ (sts:List (List Int)) (m:Nat),l=sts.map stD/\sts.length<64/\1<=m/\(∀ st∈sts,st.length=m)/\sts.Nodup/\∀ sts':List (List Int),sts'.Perm sts->(sts'.Pairwise fun a b=>HT.lexLt a b=true)->Q (.d (uC sts')) n
@[reducible] def dListD:List W->Mo W:=fun ws n Q=>on1 ws fun x=>onE x fun kvs=>((kvs.map (·.1)).Nodup->Q (.d (.lst ((kvs.map (·.1)).map stD))) n)
end
open PySem PySem.Spec L2
section
variable {fa fb fc f fk fd fv:Ev->Mo W}{t u:Ev->Mo Bool}{fs gs:Ev->Mo (List W)}
@[reducible] def zki (fa:Ev->Mo W):Ev->Mo (Option Int):=fun ρ n Q=>fa ρ n fun x m=>onI x fun i=>Q (some i) m
theorem yR:ziM fa=zki fa:=by funext ρ n Q;simp only [ziM,zki,uj]
@[reducible] def dSlT (fa:Ev->Mo W) (fl fh:Ev->Mo (Option Int)):Ev->Mo W:=fun ρ n Q=>fa ρ n fun x n1=>fl ρ n1 fun lo n2=>fh ρ n2 fun hi n3=>onT x fun l=>Q (.d (.tup (zb9 l lo hi))) n3
theorem xG {fl fh:Ev->Mo (Option Int)}:znV fa fl fh=dSlT fa fl fh:=by funext ρ n Q;simp only [znV,dSlT,ul]
@[reducible] def dSlL (fa:Ev->Mo W) (fl fh:Ev->Mo (Option Int)):Ev->Mo W:=fun ρ n Q=>fa ρ n fun x n1=>fl ρ n1 fun lo n2=>fh ρ n2 fun hi n3=>onL x fun l=>Q (.d (.lst (zb9 l lo hi))) n3
@[reducible] def zkj (fa:Ev->Mo W):Ev->Mo W:=fun ρ n Q=>fa ρ n fun x m=>onT x fun l=>Q (.d (.tup l.reverse)) m
@[reducible] def dRevL (fa:Ev->Mo W):Ev->Mo W:=fun ρ n Q=>fa ρ n fun x m=>onL x fun l=>Q (.d (.lst l.reverse)) m
theorem zgt:ziO fa=zkj fa:=by funext ρ n Q;simp only [ziO,zkj,ul]
@[reducible] def zkg (fd fk:Ev->Mo W):Ev->Mo W:=fun ρ n Q=>fd ρ n fun x n1=>fk ρ n1 fun y n2=>onK x fun kvs=>onO (ziy y) fun k=>onO (ym kvs k) fun d=>Q (.d d) n2
theorem zgq:ziE fd fk=zkg fd fk:=by
 funext ρ n Q
 simp only [ziE,zkg,zho,u8]
 simp_all
@[reducible] def zm5 (neg:Bool) (fk fd:Ev->Mo W):Ev->Mo W:=fun ρ n Q=>fk ρ n fun y n1=>fd ρ n1 fun x n2=>onK x fun kvs=>onO (ziy y) fun k=>Q (.d (.bl (xr neg (ym kvs k).isSome))) n2
theorem ziF {neg:Bool}:zkS neg fk fd=zm5 neg fk fd:=by
 funext ρ n Q
 simp only [zkS,zm5,zho,u8,zoO]
 simp_all
theorem zgu {neg:Bool}:zhl (zkS neg fk fd)=znh (zm5 neg fk fd):=by rw [ziF,zv]
@[reducible] def dFn (k:Nat) (F:List W->Mo W) (fs:Ev->Mo (List W)):Ev->Mo W:=fun ρ n Q=>fs ρ n fun ws m=>u7 k ws (F ws m Q)
theorem zl {k:Nat}{F:List W->Mo W}:mFn k F fs=dFn k F fs:=by funext ρ n Q;simp only [mFn,dFn,uG]
@[reducible] def dFnB (k:Nat) (fr:Bool) (F:List W->Mo W) (fs:Ev->Mo (List W)):Ev->Mo W:=fun ρ n Q=>fs ρ n fun ws m=>u7 k ws (F ws m fun w m'=>W.flat fr w=true/\Q w m')
theorem ziH {k:Nat}{fr:Bool}{F:List W->Mo W}:zmJ k fr F fs=dFnB k fr F fs:=by funext ρ n Q;simp only [zmJ,dFnB,uG]
@[reducible] def eN (i:Nat):W->Ev->(Ev->Prop)->Prop:=fun w ρ Q=>onP ρ i w Q
theorem zN {i:Nat}:gN i=eN i:=by funext w ρ Q;exact uk.symm
@[reducible] def eNl:List Dt->Ev->(Ev->Prop)->Prop:=fun ds ρ Q=>match ds with | []=>Q ρ | _=>False
theorem ud:gNl=eNl:=by
 funext ds ρ Q
 cases ds with
 | nil=>simp [gNl,eNl]
 | cons _ _=>simp [gNl,eNl]
@[reducible] def eCn (g:W->Ev->(Ev->Prop)->Prop) (u:List Dt->Ev->(Ev->Prop)->Prop):List Dt->Ev->(Ev->Prop)->Prop:=fun ds ρ Q=>match ds with | d::r=>g (.d d) ρ fun ρ'=>u r ρ' Q | []=>False
theorem ya {g:W->Ev->(Ev->Prop)->Prop}{u:List Dt->Ev->(Ev->Prop)->Prop}:gCn g u=eCn g u:=by
 funext ds ρ Q
 cases ds with
 | nil=>simp [gCn,eCn]
 | cons d r=>exact propext ⟨by rintro ⟨d',r',e,h⟩;cases e;exact h,fun h=>⟨d,r,rfl,h⟩⟩
@[reducible] def eTp (n:Nat) (u:List Dt->Ev->(Ev->Prop)->Prop):W->Ev->(Ev->Prop)->Prop:=fun w ρ Q=>onT w fun ds=>u7 n ds (u ds ρ Q)
theorem ue {n:Nat}{u:List Dt->Ev->(Ev->Prop)->Prop}:gTp n u=eTp n u:=by funext w ρ Q;simp only [gTp,eTp,ul,uG]
@[reducible] def dItL (fa:Ev->Mo W):Ev->Mo (List W):=fun ρ n Q=>fa ρ n fun x m=>onL x fun l=>Q (l.map W.d) m
@[reducible] def dItT (fa:Ev->Mo W):Ev->Mo (List W):=fun ρ n Q=>fa ρ n fun x m=>onT x fun l=>Q (l.map W.d) m
theorem xF:znQ fa=dItL fa:=by funext ρ n Q;simp only [znQ,dItL,u6]
theorem uZ:znS fa=dItT fa:=by funext ρ n Q;simp only [znS,dItT,ul]
@[reducible] def dItR (fs:Ev->Mo (List W)):Ev->Mo (List W):=fun ρ n Q=>fs ρ n fun ws m=>on1 ws fun x=>onI x fun j=>(j<=1000000/\-1000000<=j)/\Q (zdW 0 j.toNat) m
theorem x4:znR fs=dItR fs:=by
 funext ρ n Q
 simp only [znR,dItR,ui,uj]
 congr 1;funext ws m
 exact propext ⟨by simp_all,by simp_all⟩
@[reducible] def dItR2 (fs:Ev->Mo (List W)):Ev->Mo (List W):=fun ρ n Q=>fs ρ n fun ws m=>on2 ws fun x y=>onI x fun i=>onI y fun j=>(j<=1000000/\-1000000<=j/\i<=1000000/\-1000000<=i)/\Q (zdW i (j - i).toNat) m
@[reducible] def dItE (fs:Ev->Mo (List W)):Ev->Mo (List W):=fun ρ n Q=>fs ρ n fun ws m=>on1 ws fun x=>onT x fun l=>Q (enW 0 l) m
@[reducible] def dItEL (fs:Ev->Mo (List W)):Ev->Mo (List W):=fun ρ n Q=>fs ρ n fun ws m=>on1 ws fun x=>onL x fun l=>Q (enW 0 l) m
theorem ziJ:znP fs=dItE fs:=by
 funext ρ n Q
 simp only [znP,dItE,ui,ul]
 congr 1;funext ws m
 exact propext ⟨by simp_all,by simp_all⟩
@[reducible] def dItZ (fs:Ev->Mo (List W)):Ev->Mo (List W):=fun ρ n Q=>fs ρ n fun ws m=>on2 ws fun x y=>onT x fun l=>onT y fun k=>l.length=k.length/\Q (ziW l k) m
@[reducible] def dItZM (fs:Ev->Mo (List W)):Ev->Mo (List W):=fun ρ n Q=>fs ρ n fun ws m=>on2 ws fun x y=>onL x fun l=>onT y fun k=>l.length=k.length/\Q (ziW l k) m
@[reducible] def dItZL (fs:Ev->Mo (List W)):Ev->Mo (List W):=fun ρ n Q=>fs ρ n fun ws m=>on2 ws fun x y=>onL x fun l=>onL y fun k=>Q (ziW l k) m
@[reducible] def dIfS (t:Ev->Mo Bool) (f g:Ms):Ms:=fun ρ n k=>t ρ n fun c m=>onC c (blk f ρ m k) (blk g ρ m k)
theorem zS {f g:Ms}:znN t f g=dIfS t f g:=by funext ρ n k;simp only [znN,dIfS,zaI]
@[reducible] def zng (i:Nat):Ms:=fun ρ n k=>onV ρ i fun w=>k.rt w n
theorem zgs {i:Nat}:ziN i=zng i:=by funext ρ n k;exact zaJ.symm
@[reducible] def dSet (i:Nat) (f:Ev->Mo W):Ms:=fun ρ n k=>f ρ n fun w m=>onP ρ i w fun ρ'=>k.nx ρ' m
theorem zw {i:Nat}:ziD f (gN i)=dSet i f:=by show ziD f (gN i)=ziD f (eN i);rw [zN]
@[reducible] def dOwn (i:Nat) (f:Ev->Mo W):Ms:=fun ρ n k=>f ρ n fun w m=>onC (W.mut w) (onP ρ i w fun ρ'=>k.nx ρ' m) False
theorem u3 {i:Nat}:zmL i f=dOwn i f:=by
 funext ρ n k
 simp only [zmL,dOwn,uk (Q:=fun ρ'=>k.nx ρ' _)]
 congr 1;funext w m
 cases h:W.mut w <;> simp
@[reducible] def dApp (i:Nat) (f:Ev->Mo W):Ms:=fun ρ n k=>onV ρ i fun v=>onL v fun l=>f ρ n fun w m=>onD w fun d=>l.length<lim/\onP ρ i (.d (.lst (l++[d]))) fun ρ'=>k.nx ρ' m
theorem za2 {ρ:Ev}{i:Nat}{P:List Dt->Prop}:(onV ρ i fun v=>onL v P) = ∃ l,ρ[i]?=some (some (.d (.lst l)))/\P l:=by
 simp only [zaJ,u6]
 exact propext ⟨by simp_all,by simp_all⟩
theorem za3 {i:Nat}:zmI i f=dApp i f:=by
 funext ρ n k
 simp only [zmI,dApp,za2,xQ,uk (Q:=fun ρ'=>k.nx ρ' _)]
 refine propext ⟨fun ⟨⟨l,e⟩,h⟩=>⟨l,e,?_⟩,fun ⟨l,e,h⟩=>⟨⟨l,e⟩,?_⟩⟩
 all_goals
  simp_all
@[reducible] def dExt (i:Nat) (f:Ev->Mo W):Ms:=fun ρ n k=>onV ρ i fun v=>onL v fun l=>f ρ n fun w m=>onL w fun l2=>l.length+l2.length<=lim/\onP ρ i (.d (.lst (l++l2))) fun ρ'=>k.nx ρ' m
theorem ziG {i:Nat}:znM i f=dExt i f:=by
 funext ρ n k
 simp only [znM,dExt,za2]
 simp only [u6,uk (Q:=fun ρ'=>k.nx ρ' _)]
 refine propext ⟨fun ⟨⟨l,e⟩,h⟩=>⟨l,e,?_⟩,fun ⟨l,e,h⟩=>⟨⟨l,e⟩,?_⟩⟩
 all_goals
  simp_all
@[reducible] def dIns (i:Nat) (fk f:Ev->Mo W):Ms:=fun ρ n k=>onV ρ i fun v=>onL v fun l=>fk ρ n fun y m=>f ρ m fun w m2=>onD w fun d=>onI y fun j=>(0<=j/\j<=l.length/\l.length<lim)/\onP ρ i (.d (.lst (zfO l j.toNat d))) fun ρ'=>k.nx ρ' m2
theorem ziI {i:Nat}:znO i fk f=dIns i fk f:=by
 funext ρ n k
 simp only [znO,dIns,za2,xQ,uj,uk (Q:=fun ρ'=>k.nx ρ' _)]
 refine propext ⟨fun ⟨⟨l,e⟩,h⟩=>⟨l,e,?_⟩,fun ⟨l,e,h⟩=>⟨⟨l,e⟩,?_⟩⟩
 all_goals
  refine (congrArg (fk ρ n) ?_).mp h
  funext y m
  refine congrArg (f ρ m) ?_
  funext w m2
  refine propext ?_
  simp [e,and_assoc]
@[reducible] def dPopS (i:Nat) (fk:Ev->Mo W):Ms:=fun ρ n k=>onV ρ i fun v=>onL v fun l=>fk ρ n fun y m=>onI y fun j=>(0<=j/\j<l.length/\l.length<=lim)/\onP ρ i (.d (.lst (l.eraseIdx j.toNat))) fun ρ'=>k.nx ρ' m
@[reducible] def zdd (i:Nat):Ms:=fun ρ n k=>onV ρ i fun v=>onL v fun l=>onP ρ i (.d (.lst l.reverse)) fun ρ'=>k.nx ρ' n
theorem zcB {i:Nat}:za5 i=zdd i:=by
 funext ρ n k
 simp only [za5,zdd,za2,uk (Q:=fun ρ'=>k.nx ρ' _)]
@[reducible] def dPut (i:Nat) (fk f:Ev->Mo W):Ms:=fun ρ n k=>onV ρ i fun v=>onL v fun l=>f ρ n fun w m=>fk ρ m fun y m2=>onD w fun d=>onI y fun j=>(0<=j/\j<l.length)/\onP ρ i (.d (.lst (l.set j.toNat d))) fun ρ'=>k.nx ρ' m2
@[reducible] def onSt (w:W) (P:List Int->Prop):Prop:=∃ st,w = .d (stD st)/\P st
@[reducible] def dDGetT (fd fk:Ev->Mo W):Ev->Mo W:=fun ρ n Q=>fd ρ n fun x n1=>fk ρ n1 fun y n2=>onE x fun kvs=>∃ st,y = .d (stD st)/\onO (ym kvs st) fun d=>Q (.d d) n2
@[reducible] def dDPutT (i:Nat) (fk f:Ev->Mo W):Ms:=fun ρ n k=>onV ρ i fun v=>onE v fun kvs=>f ρ n fun w m=>fk ρ m fun y m2=>onD w fun d=>∃ st,y = .d (stD st)/\kvs.length<lim/\onP ρ i (.dt (zmO kvs st d)) fun ρ'=>k.nx ρ' m2
@[reducible] def zkh (i j:Nat):Ms:=fun ρ n k=>onV ρ j fun w=>onN ρ j fun ρ1=>onP ρ1 i w fun ρ'=>k.nx ρ' n
theorem zgr {i j:Nat}:ziK i j=zkh i j:=by
 funext ρ n k
 simp only [ziK,zkh,zaJ,uk (Q:=fun ρ'=>k.nx ρ' _),zhp (Q:=fun ρ1=>k.nx (ρ1.set i (some _)) n)]
@[reducible] def dPar (i j:Nat) (fs:Ev->Mo (List W)):Ms:=fun ρ n k=>fs ρ n fun ws m=>on2 ws fun w u=>onP ρ i w fun ρ1=>onP ρ1 j u fun ρ'=>k.nx ρ' m
@[reducible] def dIsi (B:Dt->Bool) (f:Ev->Mo W):Ev->Mo W:=fun ρ n Q=>f ρ n fun w m=>onD w fun d=>Q (.d (.bl (B d))) m
theorem yH {B:Dt->Bool}:zhj B f=dIsi B f:=by funext ρ n Q;simp only [zhj,dIsi,xQ]
@[reducible] def zdc (fs:Ev->Mo (List W)):Ev->Mo W:=fun ρ n Q=>fs ρ n fun ws m=>on1 ws fun x=>onI x fun j=>(0<=j/\j<=1000)/\Q (.d (.lst (zgR j.toNat))) m
@[reducible] def zkk (fs:Ev->Mo (List W)):Ev->Mo W:=fun ρ n Q=>fs ρ n fun ws m=>on1 ws fun x=>onI x fun j=>(0<=j/\j<=1000)/\Q (.d (.tup (zgR j.toNat))) m
theorem zlZ {ws:List W}{P:Nat->Prop}:(∃ j:Nat,ws=[.d (.int (j:Int))]/\j<=1000/\P j)=on1 ws fun x=>onI x fun j=>(0<=j/\j<=1000)/\P j.toNat:=by
 simp only [ui,uj]
 exact propext ⟨by rintro ⟨j,e,h1,h⟩;exact ⟨_,e,_,rfl,⟨by lia,by lia⟩,by simpa using h⟩,by rintro ⟨x,e,j,e2,⟨h1,h2⟩,h⟩;exact ⟨j.toNat,by grind,by lia,h⟩⟩
theorem zcA:za4 fs=zdc fs:=by
 funext ρ n Q
 simp only [za4,zdc]
 congr 1;funext ws m
 exact zlZ (P:=fun j=>Q (.d (.lst (zgR j))) m)
@[reducible] def dTru (f:Ev->Mo W):Ev->Mo Bool:=fun ρ n Q=>f ρ n fun w m=>onO (truD w) fun b=>Q b m
@[reducible] def dChain (F G:W->W->Mo W) (fa fb fc:Ev->Mo W):Ev->Mo W:=fun ρ n Q=>fa ρ n fun x n1=>fb ρ n1 fun y n2=>F x y n2 fun z n3=>onB z fun k=>onC k (fc ρ n3 fun u n4=>G y u n4 Q) (Q (.d (.bl false)) n3)
theorem zci {α:Type}{l:List W}{ρ0:Ev}{n:Nat}{mg:W->Ev->(Ev->Prop)->Prop}{ft:Ev->Mo Bool}{fe:Ev->Mo W}{Q:W->Nat->Prop}(xs:List α)(toW:α->W)(hl:l=xs.map toW)(J:Ev->Prop)(P:α->Bool)(E:α->Dt)(hlim:xs.length<=lim)(j0:J ρ0)
  (h:∀ a∈xs,∀ ρ',J ρ'->∀ C:Ev->Nat->Option Dt->Prop,(∀ {ρ1},P a=true->J ρ1->C ρ1 n (some (E a)))->(∀ {ρ1},P a=false->J ρ1->C ρ1 n none)->mg (toW a) ρ' fun ρ1=>ft ρ1 n fun b n2=>onC b (fe ρ1 n2 fun x n3=>onD x fun d=>C ρ1 n3 (some d)) (C ρ1 n2 none))
  (fin:Q (.d (.lst ((xs.filter P).map E))) n):zee mg ft fe ρ0 Q l n:=by
 refine zeg xs toW hl J P E hlim j0 (fun a ha ρ' hj C hC=>?_) fin
 have:=h a ha ρ' hj C (fun {ρ1} e z=>by simp_all) fun {ρ1} e z=>by have:=hC ρ1 z;rwa [if_neg (by rw [e];decide)] at this
 simp only [zaI,xQ] at this
 exact this
theorem uN {α:Type}{l:List W}{ρ0:Ev}{n:Nat}{mg:W->Ev->(Ev->Prop)->Prop}{fe:Ev->Mo W}{Q:W->Nat->Prop}(xs:List α)(toW:α->W)(hl:l=xs.map toW)(J:Ev->Prop)(E:α->Dt)(hlim:xs.length<=lim)(j0:J ρ0)
  (h:∀ a∈xs,∀ ρ',J ρ'->∀ C:Ev->Nat->Dt->Prop,(∀ {ρ1},J ρ1->C ρ1 n (E a))->mg (toW a) ρ' fun ρ1=>fe ρ1 n fun x n3=>onD x fun d=>C ρ1 n3 d)
  (fin:Q (.d (.lst (xs.map E))) n):zee mg znY fe ρ0 Q l n:=by
 refine zfX xs toW hl J E hlim j0 (fun a ha ρ' hj C hC=>?_) fin
 have:=h a ha ρ' hj C fun {ρ1} z=>hC ρ1 z
 simp only [xQ] at this
 exact this
end
open PySem PySem.Spec L2
@[reducible] def rep:Nat->(Ev->Prop)->Prop
 | 0,Q=>Q []
 | k+1,Q=>rep k fun ρ=>Q (none::ρ)
@[reducible] def beg:List W->Nat->(Ev->Prop)->Prop
 | [],r,Q=>rep r Q
 | w::ws,r,Q=>beg ws r fun ρ=>Q (some w::ρ)
theorem zfu:∀ {r:Nat} {Q:Ev->Prop},rep r Q=Q (List.replicate r none)
 | 0,Q=>rfl
 | r+1,Q=>by rw [rep,zfu];rfl
theorem zg4:∀ {ws:List W} {r:Nat} {Q:Ev->Prop},beg ws r Q=Q (ws.map some++List.replicate r none)
 | [],r,Q=>by rw [beg,zfu];rfl
 | w::ws,r,Q=>by rw [beg,zg4];rfl
theorem zk0 {P:Program}{w:World}{K:PySem.W.Frag}{mg:Str->Option Value}{base:Heap}{qual:Str}{st:Stmt}{f:Addr}{fd:FuncData}{N ps:List Str}{k m:Nat}{fr:Bool}{F:PN->List W->Mo W}(M:List Nat)(r:Nat)(okq:(∀ vs H Q E,spV m fr F vs H Q E->vs.length=ps.length)->(∀ (cdv:Value) (A:Around) (outer:List Env) (s:Shared) (H:Hp) (vs:List V) (Q:VK) (E:XK),Room k (A.deeper (PyProof.Rows.envOfC qual (zc st) s.heap.objs.size f cdv))->spV m fr F vs H Q E->
   ∃ t,QSs (uP CX0 P w K mg base N qual (zc st) f cdv A outer s H E).nox (zH st) t/\t { nx:=fun _ H'=>Q .non H',rt:=Q } (L2.yt N vs) H)->FnOk P w K mg base CX0 (k+1) f fd ps (spV m fr F)) (hm:m=ps.length) (hM:∀ i∈M,m<=i) (hN:N.length=m+r)
  (hbody:∀ (cdv:Value) (A:Around) (outer:List Env) (s:Shared) (H:Hp) (E:XK) (Pn:PN),Room k (A.deeper (PyProof.Rows.envOfC qual (zc st) s.heap.objs.size f cdv))->
   ∃ fs,JSs (uP CX0 P w K mg base N qual (zc st) f cdv A outer s H E).nox Pn [] M fr (zH st) fs/\∀ ws n R,F Pn ws n R->beg ws r fun ρ=>fs ρ n { nx:=fun _ n'=>onC fr False (R (.d .non) n'),rt:=R }):FnOk P w K mg base CX0 (k+1) f fd ps (spV m fr F):=by
 refine zkZ M okq hm hM fun cdv A outer s H E Pn hr=>?_
 obtain ⟨fs,h1,h2⟩:=hbody cdv A outer s H E Pn hr
 refine ⟨fs,h1,fun ws n R hl hF=>?_⟩
 have:=h2 ws n R hF
 rw [zg4] at this
 have e:xj N ws=ws.map some++List.replicate r none:=by unfold xj;rw [hN,hl,Nat.add_sub_cancel_left]
 grind
theorem Fun.okW {P:Program}{w:World}{K:PySem.W.Frag}{mg:Str->Option Value}{base:Heap}{x qual:Str}{st:Stmt}{f:Addr}{fd:FuncData}{N ps:List Str}{k m:Nat}{fr:Bool}{F:PN->List W->Mo W}(M:List Nat)(r:Nat)(Fu:Fun K x qual st f fd)(S:FnScope N ps (zc st))(hm:m=ps.length)(hM:∀ i∈M,m<=i)(hN:N.length=m+r)
  (hbody:∀ (cdv:Value) (A:Around) (outer:List Env) (s:Shared) (H:Hp) (E:XK) (Pn:PN),Room k (A.deeper (PyProof.Rows.envOfC qual (zc st) s.heap.objs.size f cdv))->
   ∃ fs,JSs (uP CX0 P w K mg base N qual (zc st) f cdv A outer s H E).nox Pn [] M fr (zH st) fs/\∀ ws n R,F Pn ws n R->beg ws r fun ρ=>fs ρ n { nx:=fun _ n'=>onC fr False (R (.d .non) n'),rt:=R }):FnOk P w K mg base CX0 (k+1) f fd ps (spV m fr F):=zk0 M r (fun l b=>Fun.okQ Fu S l b) hm hM hN hbody
@[reducible] def dItS (i:Nat):Ev->Mo (List W):=fun ρ n Q=>onV ρ i fun x=>onS x fun l=>Q (l.map W.d) n
theorem zlY {fs:Ms}{a b:Option W}{r n:Nat}{k:Kt}(h:rep r fun ρ=>fs (a::b::ρ) n k):fs (a::b::List.replicate r none) n k:=by rw [zfu] at h;exact h
theorem len1 {st:List Int}{x:Dt}(h:st.length<=1000):(st.map Dt.int).length+[x].length<=lim:=by
 rw [List.length_map]
 exact Nat.le_trans (by simp;lia:_<=1001) (by decide)
theorem cat1 {st:List Int}{x:Int}:st.map Dt.int++[Dt.int x]=(st++[x]).map Dt.int:=by simp_all
def scR (mg:W->Ev->(Ev->Prop)->Prop)(ft:Ev->Mo Bool)(fe:Ev->Mo W)(ρ0:Ev)(Q:List (List Int)->Nat->Prop):List W->Nat->Prop:=fun l n1=>∃ I:Nat->Ev->Nat->List (List Int)->Prop,I 0 ρ0 n1 []/\
 (∀ i w ρ' n' acc,l[i]?=some w->I i ρ' n' acc->mg w ρ' fun ρ1=>ft ρ1 n' fun b n2=>if b=true then fe ρ1 n2 fun x n3=>∃ st,x = .d (stD st)/\I (i+1) ρ1 n3 (acc++[st]) else I (i+1) ρ1 n2 acc)/\
 (∀ i ρ' n' acc ks,I i ρ' n' acc->List.Nodup ks->(∀ z∈ks,z∈acc)->ks.length<300)/\
 ∀ ρ' n' acc ks,I l.length ρ' n' acc->List.Nodup ks->(∀ z,z∈ks↔z∈acc)->Q ks n'
@[reducible] def znW (fi:Ev->Mo (List W)) (mg:W->Ev->(Ev->Prop)->Prop) (ft:Ev->Mo Bool) (fe:Ev->Mo W) (cix:List (Option Nat)):Ev->Mo W:=fun ρ n Q=>fi ρ n (scR mg ft fe (zdD ρ cix) fun ks n'=>∃ m,ks.length<64/\1<=m/\(∀ st∈ks,st.length=m)/\∀ l':List (List Int),l'.Perm ks->(l'.Pairwise fun a b=>HT.lexLt a b=true)->Q (.d (uC l')) n')
section
variable {X:Cx}{Pn:PN}{M S:List Nat}{fr fr':Bool}{pos p:Pos}
end
open PySem PySem.Spec L2
@[reducible] def dGetI (fd fk fz:Ev->Mo W):Ev->Mo W:=fun ρ n Q=>fd ρ n fun x n1=>onK x fun kvs=>fk ρ n1 fun y n2=>fz ρ n2 fun z n3=>onO (ziy y) fun k=>onI z fun i=>Q (.d ((ym kvs k).getD (.int i))) n3
section
variable {X:Cx}{Pn:PN}{M:List Nat}{a b c:Expr}{fa fb fc:Ev->Mo W}{apos cpos:Pos}
end
end L3
namespace L2
open PySem PySem.Spec PyProof.Rows
section
variable {X:Cx}{e lo st:Expr}{te tl tk:TE}{pos p2:Pos}
end
end L2
namespace L3
open PySem PySem.Spec L2
@[reducible] def dFromL (fa fl fk:Ev->Mo W):Ev->Mo W:=fun ρ n Q=>fa ρ n fun x n1=>onL x fun l=>fl ρ n1 fun y n2=>onI y fun c=>fk ρ n2 fun z n3=>onI z fun k=>(0<=c/\1<=k)/\∀ ys:List Dt,ys.Sublist (l.drop c.toNat)->Q (.d (.lst ys)) n3
section
variable {X:Cx}{Pn:PN}{M:List Nat}{e lo st:Expr}{f fl fk:Ev->Mo W}{pos p2:Pos}
end
open PySem PySem.Spec L2
def znu:HO:=.dK [(Sum.inr "at",.non)]
abbrev gone (H:Hp)(a:Addr):Hp:=L2.upd H a znu
section
variable {X:Cx}{Pn:PN}{M S:List Nat}{fr fr':Bool}{pos p:Pos}
@[reducible] def dGiv (i:Nat) (F:List W->Mo W) (f1 f2:Ev->Mo W):Ms:=fun ρ n k=>f1 ρ n fun w1 m1=>f2 ρ m1 fun w2 m2=>onV ρ i fun w=>F [w1,w2,w] m2 fun w' m'=>onC (W.mut w') (onP ρ i w' fun ρ'=>k.nx ρ' m') False
end
end L3
namespace L2
open PySem PySem.Spec PyProof.Rows PySem.W PySem.SeqAt
section
variable {X:Cx}
end
end L2
namespace L3
open PySem PySem.Spec L2
section
variable {X:Cx}{Pn:PN}{M S:List Nat}{fr fr':Bool}{e o:Expr}{f fo:Ev->Mo W}{pos p:Pos}
@[reducible] def dLenK:List W->Mo W:=fun ws n Q=>on1 ws fun x=>onK x fun kvs=>Q (.d (.int (kvs.length:Nat))) n
@[reducible] def dListK:List W->Mo W:=fun ws n Q=>on1 ws fun x=>onK x fun kvs=>∃ ns:List Int,kvs.map (·.1)=ns.map Sum.inl/\Q (.d (.lst (ns.map .int))) n
@[reducible] def dIndex (fo f:Ev->Mo W):Ev->Mo W:=fun ρ n Q=>fo ρ n fun x n1=>onL x fun l=>f ρ n1 fun y n2=>onI y fun k=>∃ ns:List Int,l=ns.map .int/\k∈ns/\Q (.d (.int (ns.idxOf k:Nat))) n2
@[reducible] def znc (f:Ev->Mo W):Ev->Mo W:=fun ρ n Q=>f ρ n fun x n1=>onL x fun l=>∃ ns:List Int,l=ns.map .int/\ns.Nodup/\ns.length<=1000/\Q (.d (.int (ns.length:Nat))) n1
end
end L3
namespace L2
theorem us_1 {α:Type}{us:List α}(h:us.length=1):∃ a,us=[a]:=match us,h with | [a],_=>⟨a,rfl⟩
theorem us_2 {α:Type}{us:List α}(h:us.length=2):∃ a b,us=[a,b]:=match us,h with | [a,b],_=>⟨a,b,rfl⟩
theorem us_3 {α:Type}{us:List α}(h:us.length=3):∃ a b c,us=[a,b,c]:=match us,h with | [a,b,c],_=>⟨a,b,c,rfl⟩
theorem us_4 {α:Type}{us:List α}(h:us.length=4):∃ a b c d,us=[a,b,c,d]:=match us,h with | [a,b,c,d],_=>⟨a,b,c,d,rfl⟩
theorem us_5 {α:Type}{us:List α}(h:us.length=5):∃ a b c d e,us=[a,b,c,d,e]:=match us,h with | [a,b,c,d,e],_=>⟨a,b,c,d,e,rfl⟩
open PySem PySem.Spec PyProof.Rows PySem.W PySem.Calls
end L2
namespace L3
open PySem PySem.Spec L2
section
variable {X:Cx}{Pn:PN}{M S:List Nat}{fr fr':Bool}{e a b c:Expr}{es:List Expr}{f fa fb fc:Ev->Mo W}{pos p:Pos}
theorem zmr {scope:Scope}{N:List Str}{z:Str}{fr:Bool}(h:∀ C D s H ex,JE (zK X scope N z C D s H ex) Pn M fr e f):∃ te,(∀ C D s H ex,QE (zK X scope N z C D s H ex) e te)/\RE Pn M fr te f:=
 ⟨fun σ H Q=>∀ C D s H0 ex,(h C D s H0 ex).ex.choose σ H Q,fun C D s H0 ex=>⟨fun pins s' σ H Q I zz=>(h C D s H0 ex).ex.choose_spec.1.run pins s' σ H Q I (zz C D s H0 ex)⟩,
  ⟨fun A σ H ρ n Q R E P hf k C D s H0 ex=>(h C D s H0 ex).ex.choose_spec.2.run A σ H ρ n Q R E P hf k⟩⟩
theorem zmv {scope:Scope}{N:List Str}{z:Str}{ft:Ev->Mo Bool}(h:∀ C D s H ex,JTs (zK X scope N z C D s H ex) Pn M es ft):∃ te,(∀ C D s H ex,QTs (zK X scope N z C D s H ex) es te)/\RT Pn M te ft:=
 ⟨fun σ H Q=>∀ C D s H0 ex,(h C D s H0 ex).ex.choose σ H Q,fun C D s H0 ex=>⟨fun pins s' σ H Q I zz=>(h C D s H0 ex).ex.choose_spec.1.run pins s' σ H Q I (zz C D s H0 ex)⟩,
  ⟨fun A σ H ρ n Q R E P hf k C D s H0 ex=>(h C D s H0 ex).ex.choose_spec.2.run A σ H ρ n Q R E P hf k⟩⟩
theorem zmt {scope:Scope}{N:List Str}{z:Str}{mg:W->Ev->(Ev->Prop)->Prop}(h:∀ C D s H ex,JG (zK X scope N z C D s H ex) S M e mg):∃ g,(∀ C D s H ex,QG (zK X scope N z C D s H ex) e g)/\RG S M g mg:=
 ⟨fun v σ H Q=>∀ C D s H0 ex,(h C D s H0 ex).ex.choose v σ H Q,fun C D s H0 ex=>⟨fun pins s' σ H v u Q I rv zz=>(h C D s H0 ex).ex.choose_spec.1.run pins s' σ H v u Q I rv (zz C D s H0 ex)⟩,
  ⟨fun A σ H ρ v w Q R E hv hf k C D s H0 ex=>(h C D s H0 ex).ex.choose_spec.2.run A σ H ρ v w Q R E hv hf k⟩⟩
theorem zik {elt tg iter:Expr}{ifs:List Expr}{scope:Scope}{N:List Str}{z:Str}{cix:List (Option Nat)}{fi:Ev->Mo (List W)}{mg:W->Ev->(Ev->Prop)->Prop}{ft:Ev->Mo Bool}{fe:Ev->Mo W}{ow:Bool}(hc:X.calm=true)(cc:CompOkC X scope N z cix)
  (hi:JI X Pn M ow tg iter fi) (hg:∀ C D s H ex,JG (zK X scope N z C D s H ex) (xL M cix) (xL M cix) tg mg) (ht:∀ C D s H ex,JTs (zK X scope N z C D s H ex) Pn (xL M cix) ifs ft) (he:∀ C D s H ex,JE (zK X scope N z C D s H ex) Pn (xL M cix) fr' elt fe)
  (hn:(cix.filterMap id).Nodup:=by decide) (hs:∀ x,foldedSetIterable iter X.env x=pure x:=by intro _;rfl):JE X Pn M true (.ListComp elt [⟨tg,iter,ifs,0⟩] scope pos) (zgp fi mg ft fe cix):=by
 obtain ⟨ti,qi,ri⟩:=hi.ex
 obtain ⟨g,qg,rg⟩:=zmt hg
 obtain ⟨tt,qt,rt⟩:=zmv ht
 obtain ⟨te,qe,re⟩:=zmr he
 exact ⟨_,zfe hc cc qi qg qt qe hs,zcW hn ri rg rt re⟩
end
open PySem PySem.Spec L2
theorem zeI {G:Hp}:∀ {bs:List Bool} {xs:List V},IsL G (bs.map .bl) xs->xs=bs.map V.bl
 | [],_,h=>h
 | b::bs,xs,h=>by
  obtain ⟨x,r,rfl,h1,h2⟩:=h
  have e:x = .bl b:=h1
  rw [e,zeI h2]
  rfl
theorem zeE {b:Bool}:∀ bs:List Bool,inV (.bl b) (bs.map V.bl)=bs.contains b
 | []=>rfl
 | c::bs=>by
  have:=zeE (b:=b) bs
  unfold inV at this ⊢
  rw [List.map_cons,List.any_cons,this,List.contains_cons]
  cases b <;> cases c <;> rfl
theorem zdh:∀ bs:List Bool,(bs.map V.bl).all zaW=true
 | []=>rfl
 | _::bs=>by rw [List.map_cons,List.all_cons,zdh bs];rfl
section
variable {Pn:PN}{K:PySem.W.Frag}
@[reducible] def dInB:W->W->Mo W:=fun x y n Q=>onB x fun b=>onL y fun l=>∃ bs:List Bool,l=bs.map .bl/\Q (.d (.bl (bs.contains b))) n
theorem zoy:F2 Pn false (rIn K false) dInB:=⟨fun A H x y wx wy n Q R al bx byy P h k=>by
 simp only [dInB,ze4,u6] at h
 obtain ⟨b,rfl,l,rfl,bs,rfl,h⟩:=h
 obtain ⟨a,xs,rfl,ha,hl⟩:=xU byy
 obtain rfl:=zeI hl
 have e:x = .bl b:=bx
 subst e
 exact ⟨a,_,rfl,.inl (.of ha),rfl,zdh bs,k _ n _ H h (Val.of (by rw [zeE];rfl)) (Go.refl P) fun z=>by cases z⟩⟩
end
end L3
namespace L2
open PySem PySem.Spec PyProof.Rows PySem.W PySem.Calls
section
variable {prog:Program}{w:World}{A:Around}{E:Value->Shared->Prop}{s:Shared}
end
section
variable {X:Cx}
end
end L2
namespace L3
open PySem PySem.Spec L2
section
variable {X:Cx}{Pn:PN}{M S:List Nat}{fr fr':Bool}{pos p:Pos}{e:Expr}{f:Ev->Mo W}
@[reducible] def dSAdd (P:Program) (w:World) (i:Nat) (f:Ev->Mo W):Ms:=fun ρ n k=>onV ρ i fun v=>∃ ks,v = .ss P w ks/\f ρ n fun x m=>∃ st:List Int,x = .d (stD st)/\ks.length<300/\
 ∀ ks':List (List Int),(∀ y,y∈ks'↔y=st\/y∈ks)->ks'.length<=ks.length+1->ks'.Nodup->onP ρ i (.ss P w ks') fun ρ'=>k.nx ρ' m
@[reducible] def dSortS (P:Program) (w:World):List W->Mo W:=fun ws n Q=>on1 ws fun x=>∃ (ks:List (List Int)) (m:Nat),x = .ss P w ks/\ks.length<64/\1<=m/\(∀ st∈ks,st.length=m)/\∀ sts':List (List Int),sts'.Perm ks->(sts'.Pairwise fun a b=>HT.lexLt a b=true)->Q (.d (uC sts')) n
end
open PySem PySem.Spec L2
end L3
namespace L3
open PySem PySem.Spec L2
def IsP (Pn:PN)(p:Addr):Prop:=∃ c ns,Pn=⟨some (p,c,ns),J0⟩
theorem dc {Pn:PN}{p:Addr}{zE:Int}{n:Nat}{Q:W->Nat->Prop}(hP:IsP Pn p)(h:∀ r,0<=r->r<zE->Q (.d (.int r)) (n+1))(hn:n<=1000000:=by lia)(h1:1<=zE:=by lia)(h2:zE<1073741824:=by lia):zj1 Pn [.pen p,.d (.int zE)] n Q:=let ⟨c,ns,e⟩:=hP;⟨p,c,ns,zE,e,rfl,hn,h1,h2,h⟩
theorem tc {Pn:PN}{p:Addr}{l:List Dt}{n:Nat}{Q:W->Nat->Prop}(hP:IsP Pn p)(h:∀ l':List Dt,l'.Perm l->Q (.d (.lst l')) (n+l.length))(hn:n+l.length<=1000000:=by lia)(h1:l.length<=100000:=by lia):zj4 Pn [.pen p,.d (.lst l)] n Q:=let ⟨c,ns,e⟩:=hP;⟨p,c,ns,l,e,rfl,hn,h1,h⟩
theorem zdP {m b:Int}:b∈zt m↔0<=b/\b<m:=by
 unfold zt
 rw [List.mem_map]
 constructor
 ·rintro ⟨k,hk,rfl⟩
  grind
 ·rintro ⟨h0,h1⟩
  exact ⟨b.toNat,List.mem_range.mpr (by lia),by lia⟩
end L3
namespace L3
open PySem PySem.Spec L2
end L3
namespace L3
open PySem PySem.Spec L2
end L3
namespace L3
open PySem PySem.Spec L2
def lpE (bk:List Wi)(box:Int)(st:List Int):List (Int×Int):=(lpF bk box st).map fun r=>(r.getD 0 0,r.getD 1 0)
theorem zek {α:Type}(l:List α)(k:Nat):zb9 l (some (k:Int)) none=l.drop k:=by
 unfold zb9
 have h1:HT.sIx l.length 0 (some (k:Int))=min k l.length:=by
  unfold HT.sIx
  simp
  try lia
 have h2:HT.sIx l.length l.length none=l.length:=rfl
 rw [h1,h2,List.take_of_length_le (by simp)]
 simp_all
end L3
namespace L3
open PySem PySem.Spec L2
end L3
namespace L2
open PySem PySem.Spec PyProof.Rows PySem.W PySem.Calls
section
variable {X:Cx}{pins:List (Addr×Obj)}{σ:St}{H:Hp}{s:Shared}{a:Addr}
end
end L2
namespace L3
open PySem PySem.Spec L2
@[reducible] def onZ (w:W) (P:List (List Int×Dt)->Prop):Prop:=match w with | .df i=>P i | _=>False
section
variable {X:Cx}{Pn:PN}{M S:List Nat}{fr fr':Bool}{pos p:Pos}{e a b c:Expr}{f fa fb fc:Ev->Mo W}
@[reducible] def dFrz (f:Ev->Mo W):Ev->Mo W:=fun ρ n Q=>f ρ n fun x m=>onE x fun kvs=>Q (.df kvs) m
@[reducible] def dItF (fa:Ev->Mo W):Ev->Mo (List W):=fun ρ n Q=>fa ρ n fun x m=>onZ x fun kvs=>(kvs.map (·.1)).Nodup->Q (kvs.map fun q=>W.d (stD q.1)) m
@[reducible] def dGetF (fd fk:Ev->Mo W):Ev->Mo W:=fun ρ n Q=>fd ρ n fun x n1=>fk ρ n1 fun y n2=>onZ x fun kvs=>∃ st,y = .d (stD st)/\onO (ym kvs st) fun d=>Q (.d d) n2
@[reducible] def dGetFD (fd fk fz:Ev->Mo W):Ev->Mo W:=fun ρ n Q=>fd ρ n fun x n1=>onZ x fun kvs=>fk ρ n1 fun y n2=>fz ρ n2 fun z n3=>∃ st,y = .d (stD st)/\onD z fun i=>Q (.d ((ym kvs st).getD i)) n3
@[reducible] def dDictL:List W->Mo W:=fun ws n Q=>on1 ws fun x=>∃ kvs:List (List Int×Dt),x = .d (.lst (kvs.map fun q=>Dt.tup [stD q.1,q.2]))/\(kvs.map (·.1)).Nodup/\kvs.length<=lim/\Q (.dt kvs) n
end
open PySem PySem.Spec L2
@[reducible] def lpD (bk:List Wi) (b:Int) (st:List Int):Dt:=.lst ((lpE bk b st).map yI)
@[reducible] def rowD (rm:List Int) (bk:List Wi) (st:List Int):Dt:=.lst ((List.range rm.length).map fun b:Nat=>lpD bk (b:Int) st)
theorem zcr {rm:List Int}{g:List (Int×Int)}(h:Giv rm g):g.length<=rm.length:=by
 have:=zbS (l:=g.map (·.1)) (l':=zt rm.length) (List.pairwise_map.mpr (h.up.imp fun h e=>by lia)) fun x hx=>by
  obtain ⟨q,hq,rfl⟩:=List.mem_map.mp hx
  have:=h.ok q hq
  exact zdP.mpr ⟨this.1,this.2.1⟩
 rw [List.length_map,yu] at this
 lia
section
variable {X:Cx}{Pn:PN}{M S cM:List Nat}{fr fr':Bool}{e:Expr}{es:List Expr}{pos:Pos}{A:Addr->Prop}{acc:Addr}{H1 H H':Hp}{σc σ:St}{ρc ρ:Ev}{n m:Nat}{ds:List Dt}
def inR (mg:W->Ev->(Ev->Prop)->Prop)(ft:Ev->Mo Bool)(fe:Ev->Mo W)(ρ0:Ev)(ds0:List Dt)(K:Ev->Nat->List Dt->Prop):List W->Nat->Prop:=fun l n1=>∃ I:Nat->Ev->Nat->List Dt->Prop,I 0 ρ0 n1 ds0/\
 (∀ i w ρ n ds,l[i]?=some w->I i ρ n ds->mg w ρ fun ρ1=>ft ρ1 n fun b n2=>if b=true then fe ρ1 n2 fun x n3=>∃ d,x = .d d/\ds.length<=lim/\I (i+1) ρ1 n3 (ds++[d]) else I (i+1) ρ1 n2 ds)/\
 ∀ ρ n ds,I l.length ρ n ds->K ρ n ds
def zkc (mg:W->Ev->(Ev->Prop)->Prop)(ft:Ev->Mo Bool)(fi2:Ev->Mo (List W))(mg2:W->Ev->(Ev->Prop)->Prop)(ft2:Ev->Mo Bool)(fe:Ev->Mo W)(ρ0:Ev)(Q:W->Nat->Prop):List W->Nat->Prop:=fun l n1=>∃ I:Nat->Ev->Nat->List Dt->Prop,I 0 ρ0 n1 []/\
 (∀ i w ρ n ds,l[i]?=some w->I i ρ n ds->mg w ρ fun ρ1=>ft ρ1 n fun b n2=>if b=true then fi2 ρ1 n2 (inR mg2 ft2 fe ρ1 ds (I (i+1))) else I (i+1) ρ1 n2 ds)/\
 ∀ ρ n ds,I l.length ρ n ds->Q (.d (.lst ds)) n
@[reducible] def mComp2 (fi:Ev->Mo (List W)) (mg:W->Ev->(Ev->Prop)->Prop) (ft:Ev->Mo Bool) (fi2:Ev->Mo (List W)) (mg2:W->Ev->(Ev->Prop)->Prop) (ft2:Ev->Mo Bool) (fe:Ev->Mo W) (cix:List (Option Nat)):Ev->Mo W:=fun ρ n Q=>fi ρ n (zkc mg ft fi2 mg2 ft2 fe (zdD ρ cix) Q)
end
end L3
namespace L2
open PySem PySem.Spec PyProof.Rows PySem.W PySem.Calls
section
variable {X:Cx}{pins:List (Addr×Obj)}{σ:St}{H:Hp}{s:Shared}{a:Addr}
end
end L2
namespace L3
open PySem PySem.Spec L2
@[reducible] def onY (w:W) (P:List (Key×Dt)->Prop):Prop:=match w with | .kf i=>P i | _=>False
section
variable {X:Cx}{Pn:PN}{M S:List Nat}{fr fr':Bool}{pos p:Pos}{e a b c:Expr}{f fa fb fc:Ev->Mo W}
@[reducible] def dFrzK (f:Ev->Mo W):Ev->Mo W:=fun ρ n Q=>f ρ n fun x m=>onK x fun kvs=>Q (.kf kvs) m
@[reducible] def dItK (fa:Ev->Mo W):Ev->Mo (List W):=fun ρ n Q=>fa ρ n fun x m=>onY x fun kvs=>∃ ns:List Int,kvs.map (·.1)=ns.map Sum.inl/\Q (ns.map fun i=>W.d (.int i)) m
@[reducible] def dGetY (fd fk:Ev->Mo W):Ev->Mo W:=fun ρ n Q=>fd ρ n fun x n1=>fk ρ n1 fun y n2=>onY x fun kvs=>onI y fun i=>onO (ym kvs (Sum.inl i)) fun d=>Q (.d d) n2
@[reducible] def dListY:List W->Mo W:=fun ws n Q=>on1 ws fun x=>onY x fun kvs=>∃ ns:List Int,kvs.map (·.1)=ns.map Sum.inl/\Q (.d (.lst (ns.map .int))) n
@[reducible] def dRetT (f:Ev->Mo W) (i:Nat):Ms:=fun ρ n k=>f ρ n fun w m=>onD w fun d=>onV ρ i fun x=>onL x fun l=>k.rt (.d (.tup [d,.lst l])) m
end
end L3
namespace L2
open PySem PySem.Spec PyProof.Rows PySem.SeqAt
section
variable {prog:Program}{w:World}{t:SetTable}{es:Array (Int×Value)}{xs:List (List Key×Addr)}{A:Around}{E:Value->Shared->Prop}{s:Shared}
end
section
variable {X:Cx}
end
end L2
namespace L3
open PySem PySem.Spec L2
section
variable {X:Cx}{Pn:PN}{M S:List Nat}{fr fr':Bool}{pos p:Pos}{e o a b c:Expr}{es:List Expr}{f fo fa fc:Ev->Mo W}
@[reducible] def dAug (F:Int->Int->Int) (i:Nat) (f:Ev->Mo W):Ms:=fun ρ n k=>onV ρ i fun x=>onI x fun a=>f ρ n fun y m=>onI y fun b=>onP ρ i (.d (.int (F a b))) fun ρ'=>k.nx ρ' m
@[reducible] def dAugT (F:Int->Int->Int) (i:Nat) (fk f:Ev->Mo W):Ms:=fun ρ n k=>onV ρ i fun x=>onE x fun kvs=>fk ρ n fun y m=>∃ st,y = .d (stD st)/\∃ a,ym kvs st=some (.int a)/\f ρ m fun w m2=>onI w fun b=>kvs.length<lim/\onP ρ i (.dt (zmO kvs st (.int (F a b)))) fun ρ'=>k.nx ρ' m2
@[reducible] def dSetL (P:Program) (w:World):List W->Mo W:=fun ws n Q=>on1 ws fun x=>∃ sts:List (List Int),x = .d (.lst (sts.map stD))/\(∀ ks:List (List Int),ks.Nodup->(∀ z∈ks,z∈sts)->ks.length<300)/\∀ ks:List (List Int),ks.Nodup->(∀ st,st∈ks↔st∈sts)->Q (.ss P w ks) n
@[reducible] def dInS (P:Program) (w:World):W->W->Mo W:=fun x y n Q=>∃ (st:List Int) (ks:List (List Int)),x = .d (stD st)/\y = .ss P w ks/\∀ c:Bool,(c=true↔st∈ks)->Q (.d (.bl c)) n
@[reducible] def dItEF (fa:Ev->Mo (List W)):Ev->Mo (List W):=fun ρ n Q=>fa ρ n fun ws m=>on1 ws fun x=>onZ x fun kvs=>(kvs.map (·.1)).Nodup->Q (enW 0 ((kvs.map (·.1)).map stD)) m
@[reducible] def zm7 (fo f:Ev->Mo W):Ev->Mo W:=fun ρ n Q=>fo ρ n fun x n1=>onL x fun l=>f ρ n1 fun y n2=>onD y fun d=>d.eqOk/\(Dt.lst l).eqOk/\d∈l/\∀ j:Nat,l[j]?=some d->(∀ i,i<j->l[i]?≠some d)->Q (.d (.int j)) n2
@[reducible] def snN:List W->(List W->Prop)->Prop
 | [],P=>P [.d .non]
 | a::r,P=>snN r fun r'=>P (a::r')
@[reducible] def dFnD (k:Nat) (F:List W->Mo W) (fs:Ev->Mo (List W)):Ev->Mo W:=fun ρ n Q=>fs ρ n fun ws m=>snN ws fun us=>u7 k us (F us m Q)
end
end L3
namespace L2
open PySem PySem.Spec PyProof.Rows
section
variable {X:Cx}{pins:List (Addr×Obj)}{σ:St}{H G G':Hp}{s:Shared}{d l:Addr}{ob:Obj}{kvs:List (List Key×V)}
theorem Inv.frzL {xs:List V}(I:Inv X pins σ H s)(h:H l=some (.lst xs)):∃ ob,Inv X pins σ (upd H l (.frz ob (.lst xs))) s:=by
 obtain ⟨z,its,n,r,e⟩:=(show zG X.prog X.w H s.heap l (.lst xs) from I.hok l _ h)
 exact ⟨_,I.write (x:=l) (e:=l) (h':=s.heap) (t':=s.toks) (by rw [h];trivial) (.inl rfl) (fun _ _ _ e=>e) ⟨_,e⟩ ⟨e,z,its,n,r,e⟩⟩
variable {e:Expr}{te:TE}
def zou (te:TE):TE:=fun σ H Q=>te σ H fun x H1=>∃ l xs,x = .ref l/\H1 l=some (.lst xs)/\∀ ob,Q x (upd H1 l (.frz ob (.lst xs)))
theorem zi4 (h:PE X e te):PE X e (zou te):=fun pins s σ H Q I q=>thn (h pins s σ H _ I q) fun u s1 ⟨x,H1,I1,r,l,xs,ex,h1,q1⟩=>by
 obtain ⟨ob,I2⟩:=I1.frzL h1
 exact ⟨x,_,I2,r,q1 ob⟩
end
end L2
namespace L3
open PySem PySem.Spec L2
section
variable {K:PySem.W.Frag}{P:Program}{w:World}{C:Addr}{H:Hp}{Q:VK}{E:XK}{D:Ends}
end
end L3
namespace L2
open PySem PySem.Spec PyProof.Rows PySem.SeqAt
section
variable {X:Cx}
end
end L2
namespace L3
open PySem PySem.Spec L2
@[reducible] def W.isD:W->Bool
 | .d _=>true
 | _=>false
section
variable {X:Cx}{Pn:PN}{M:List Nat}{fr:Bool}{e:Expr}{f:Ev->Mo W}
@[reducible] def onFl (w:W) (P:List Dt->Prop):Prop:=match w with | .fl i=>P i | _=>False
@[reducible] def dInF (neg:Bool):W->W->Mo W:=fun x y n Q=>onD x fun d=>onFl y fun ds=>d.eqOk/\(Dt.lst ds).eqOk/\∀ b:Bool,(b=true↔d∈ds)->Q (.d (.bl (xr neg b))) n
end
open PySem PySem.Spec L2
section
variable {X:Cx}{Pn:PN}{M:List Nat}{fr:Bool}{s:Stmt}{C fI fA:Addr}{dI dA:FuncData}
end
end L3
namespace L2
open PySem PySem.Spec PyProof.Rows PySem.SeqAt
def okT:Nat->Dt->Bool
 | _,.non=>true
 | _,.int _=>true
 | _,.bl _=>true
 | _,.str x=>PyData.strOk x
 | n+1,.tup l=>l.all (okT n)
 | n+1,.lst l=>l.all (okT n)
 | _,_=>false
abbrev Dt.py (d:Dt):PyData:=PySem.W.kqdP d.toW
section
variable {P:Program}{w:World}{H:Hp}{h:Heap}
end
section
variable {X:Cx}
end
end L2
namespace L3
open PySem PySem.Spec L2
section
variable {X:Cx}{Pn:PN}{M:List Nat}{e:Expr}{f:Ev->Mo W}{pos p:Pos}
@[reducible] def dNeT:W->W->Mo W:=fun x y n Q=>onD x fun d=>onD y fun e=>d=e/\okT 8 d=true/\Q (.d (.bl false)) n
@[reducible] def dNiT:W->W->Mo W:=fun x y n Q=>onD x fun d=>onL y fun ds=>okT 8 d=true/\(Dt.lst ds).eqOk/\∀ b:Bool,(d∈ds->b=true)->(b=true->∃ e∈ds,PyData.eqv e.py d.py=true)->Q (.d (.bl (!b))) n
@[reducible] def zmE (f:Ev->Mo W):Ev->Mo W:=fun ρ n Q=>f ρ n fun x n1=>onL x fun l=>∃ sts:List (List Int),l=sts.map stD/\(∀ ks:List (List Int),ks.Nodup->(∀ z∈ks,z∈sts)->ks.length<300)/\∀ ks:List (List Int),ks.Nodup->(∀ st,st∈ks↔st∈sts)->Q (.d (.int (ks.length:Nat))) n1
end
end L3
namespace L2
open PySem PySem.Spec PyProof.Rows
section
variable {X:Cx}
end
end L2
namespace L3
open PySem PySem.Spec L2
section
variable {Pn:PN}
@[reducible] def dMaxT:List W->Mo W:=fun ws n Q=>on1 ws fun x=>∃ ns:List Int,x = .d (stD ns)/\ns≠[]/\∀ m,m∈ns->(∀ x∈ns,x<=m)->Q (.d (.int m)) n
end
end L3
namespace L2
open PySem PySem.Spec PyProof.Rows
end L2
namespace L3
open PySem PySem.Spec L2
section
variable {X:Cx}{Pn:PN}{M S:List Nat}{fr:Bool}{a:Expr}{pos p:Pos}
def W.nl:W->Prop
 | .d x=>x.noL=true
 | .pen _=>True
 | _=>False
def Fg:Ev->Ev->Prop
 | [],ρ'=>ρ'=[]
 | o::ρ,ρ'=>∃ o' r,ρ'=o'::r/\(o'=none\/(o'=o/\∀ w,o=some w->w.nl))/\Fg ρ r
@[reducible] def mInClr (i:Nat):Ms:=fun ρ n k=>∃ d0 l st ρ',ρ[i]?=some (some (.d (.tup [d0,.lst l])))/\d0.noL=true/\stD st∈l/\Fg ρ ρ'/\onP ρ' i (.d (.tup [d0,.lst []])) fun ρ''=>k.nx ρ'' n
end
end L3
namespace L2
open PySem PySem.Spec PyProof.Rows PySem.W PySem.SeqAt
section
variable {X:Cx}
end
end L2
namespace L3
open PySem PySem.Spec L2
section
variable {X:Cx}{Pn:PN}{M S:List Nat}{fr fr':Bool}{e:Expr}{f:Ev->Mo W}{pos:Pos}
@[reducible] def W.pl:W->W
 | .ad _ x=>.d x
 | w=>w
@[reducible] def mVarA (i:Nat):Ev->Mo W:=fun ρ n Q=>onV ρ i fun w=>Q w.pl n
@[reducible] def mSetA (i:Nat) (f:Ev->Mo W):Ms:=fun ρ n k=>f ρ n fun w m=>match w with
 | .d (.lst l)=>Dt.noLs l=true/\∀ a,onP ρ i (.ad a (.lst l)) fun ρ'=>k.nx ρ' m
 | w=>onP ρ i w fun ρ'=>k.nx ρ' m
def NewA (ad:Addr)(ρ:Ev):Prop:=∀ (j:Nat) (a:Addr) (l:List Dt),ρ[j]?=some (some (W.ad a (.lst l)))->a≠ad
@[reducible] def mSetW (i:Nat) (f:Ev->Mo W):Ms:=fun ρ n k=>∃ ρ',Fg ρ ρ'/\f ρ' n fun w m=>match w with
 | .d (.tup [d0,.lst l])=>d0.noL=true/\Dt.noLs l=true/\∀ ad,NewA ad ρ->onP ρ i (.ad ad (.tup [d0,.lst l])) fun ρ''=>k.nx ρ'' m
 | _=>False
def W.nlA (ad:Addr):W->Prop
 | .d x=>x.noL=true
 | .pen _=>True
 | .ad a _=>a≠ad
 | _=>False
def FgA (ad:Addr):Ev->Ev->Prop
 | [],ρ'=>ρ'=[]
 | o::ρ,ρ'=>∃ o' r,ρ'=o'::r/\(o'=none\/(o'=o/\∀ w,o=some w->w.nlA ad))/\FgA ad ρ r
@[reducible] def mInApp (i:Nat):Ms:=fun ρ n k=>onV ρ i fun w=>match w with
 | .ad ad (.tup [_,.lst l])=>l.length<10000/\∃ ρ',FgA ad ρ ρ'/\k.nx ρ' n
 | _=>False
@[reducible] def mRem (i:Nat) (fk:Ev->Mo W):Ms:=fun ρ n k=>onV ρ i fun v=>onL v fun l=>fk ρ n fun y m=>onI y fun j=>∃ ns:List Int,l=ns.map Dt.int/\j∈ns/\onP ρ i (.d (lsD (ns.erase j))) fun ρ'=>k.nx ρ' m
end
open PySem PySem.Spec L2
end L3
namespace L3
open PySem PySem.Spec L2
section
variable {X:Cx}{Pn:PN}{M S:List Nat}{fr fr':Bool}{e:Expr}{f:Ev->Mo W}{pos:Pos}
def One (x:Dt):Prop:=∃ pre l,x = .tup (pre++[.lst l])/\Dt.noLs pre=true/\Dt.noLs l=true
def NewB (ad:Addr)(ρ:Ev):Prop:=∀ (j:Nat) (a:Addr) (x:Dt),ρ[j]?=some (some (W.ad a x))->One x->a≠ad
@[reducible] def mSetB (i:Nat) (f:Ev->Mo W):Ms:=fun ρ n k=>∃ ρ',Fg ρ ρ'/\f ρ' n fun w m=>onD w fun x=>
 (x.noL=true/\onP ρ i (.d x) fun ρ''=>k.nx ρ'' m)\/(One x/\∀ ad,NewB ad ρ->onP ρ i (.ad ad x) fun ρ''=>k.nx ρ'' m)
@[reducible] def zmK (i:Nat):Ms:=fun ρ n k=>onV ρ i fun w=>match w with
 | .ad ad x=>One x/\(∀ pre l,x = .tup (pre++[.lst l])->l.length<10000)/\∃ ρ',FgA ad ρ ρ'/\k.nx ρ' n
 | _=>False
@[reducible] def dGivA (i:Nat) (F:List W->Mo W) (f1 f2:Ev->Mo W):Ms:=fun ρ n k=>f1 ρ n fun w1 m1=>f2 ρ m1 fun w2 m2=>onV ρ i fun w=>match w with
 | .ad ad (.lst l)=>(w1.nl/\w2.nl/\Dt.noLs l=true)/\∃ ρ',FgA ad ρ ρ'/\F [w1,w2,.d (.lst l)] m2 fun w' m'=>match w' with
  | .d (.lst l')=>Dt.noLs l'=true/\∀ a',onP ρ' i (.ad a' (.lst l')) fun ρ''=>k.nx ρ'' m'
  | _=>False
 | _=>False
end
end L3
namespace L2
open PySem PySem.Spec PyProof.Rows PySem.W PySem.Calls
section
variable {X:Cx}{pos:Pos}
end
end L2
namespace L3
open PySem PySem.Spec L2
section
variable {X:Cx}{Pn:PN}{M S:List Nat}{fr fr':Bool}{pos p:Pos}{e a b c:Expr}{f fa fb fc:Ev->Mo W}
@[reducible] def dDisp1 (fk fv:Ev->Mo W):Ev->Mo W:=fun ρ n Q=>fk ρ n fun y m=>fv ρ m fun x m2=>∃ st,y = .d (stD st)/\onD x fun d=>Q (.dt [(st,d)]) m2
@[reducible] def dNinT (fk fd:Ev->Mo W):Ev->Mo W:=fun ρ n Q=>fk ρ n fun y n1=>fd ρ n1 fun x n2=>onE x fun kvs=>∃ st,y = .d (stD st)/\Q (.d (.bl (!(ym kvs st).isSome))) n2
@[reducible] def dSortZ:List W->Mo W:=fun ws n Q=>on1 ws fun x=>onZ x fun kvs=>∃ m:Nat,kvs.length<64/\1<=m/\(∀ q∈kvs,q.1.length=m)/\∀ sts':List (List Int),sts'.Perm (kvs.map (·.1))->(sts'.Pairwise fun a b=>HT.lexLt a b=true)->Q (.d (uC sts')) n
@[reducible] def dRetZ (i:Nat) (f:Ev->Mo W):Ms:=fun ρ n k=>onV ρ i fun x=>onE x fun kvs=>f ρ n fun w m=>onD w fun d=>k.rt (.tz kvs d) m
@[reducible] def dIxZ:W->W->Mo W:=fun x y n Q=>match x with
 | .tz kvs d=>match y with
  | .d (.int i)=>match i with
   | .ofNat 0=>Q (.df kvs) n
   | .ofNat 1=>Q (.d d) n
   | _=>False
  | _=>False
 | _=>False
@[reducible] def dForP (i:Nat) (F:List W->Mo W) (f1 f3:Ev->Mo W) (mg:W->Ev->(Ev->Prop)->Prop) (fs:Ms):Ms:=fun ρ n k=>f1 ρ n fun w1 m1=>onV ρ i fun x=>onL x fun l=>∃ l' d,l=l'++[d]/\f3 (ρ.set i (some (.d (.lst l')))) m1 fun w3 m3=>F [w1,.d d,w3] m3 fun w m=>onL w fun r=>zhY mg fs (ρ.set i (some (.d (.lst l')))) k (r.map W.d) m
end
open PySem PySem.Spec L2
section
variable {X:Cx}{Pn:PN}{M:List Nat}{pos p1 p2 p3 p4:Pos}{a b c:Expr}{fa fb fc:Ev->Mo W}{apos cpos:Pos}
@[reducible] def dGetK (fd fk fz:Ev->Mo W):Ev->Mo W:=fun ρ n Q=>fd ρ n fun x n1=>onK x fun kvs=>fk ρ n1 fun y n2=>fz ρ n2 fun z n3=>onO (ziy y) fun k=>onD z fun d=>Q (.d ((ym kvs k).getD d)) n3
end
open PySem PySem.Spec L2
section
variable {X:Cx}{Pn:PN}{M S:List Nat}{fr:Bool}
end
end L3
namespace L2
open PySem PySem.Spec PyProof.Rows PySem.W PySem.Calls
section
variable {prog:Program}{w:World}{A:Around}{E:Value->Shared->Prop}{s:Shared}
end
section
variable {X:Cx}{pos:Pos}
end
end L2
namespace L3
open PySem PySem.Spec L2
section
variable {X:Cx}{Pn:PN}{M S:List Nat}{fr fr':Bool}{e:Expr}{f:Ev->Mo W}{pos:Pos}
@[reducible] def dSetZ (i j:Nat) (f:Ev->Mo W):Ms:=fun ρ n k=>f ρ n fun w m=>match w with
 | .tz kvs d=>onP ρ i (.df kvs) fun ρ1=>onP ρ1 j (.d d) fun ρ2=>k.nx ρ2 m
 | _=>False
@[reducible] def dSetAA (i j:Nat) (f:Ev->Mo W):Ms:=fun ρ n k=>f ρ n fun w m=>match w with
 | .d (.lst [.lst l1,.lst l2])=>Dt.noLs l1=true/\Dt.noLs l2=true/\∀ a b,onP ρ i (.ad a (.lst l1)) fun ρ1=>onP ρ1 j (.ad b (.lst l2)) fun ρ2=>k.nx ρ2 m
 | _=>False
@[reducible] def mInPop (i:Nat):Ms:=fun ρ n k=>onV ρ i fun w=>match w with
 | .ad ad (.tup [_,.lst l])=>l≠[]/\∃ ρ',FgA ad ρ ρ'/\k.nx ρ' n
 | _=>False
end
open PySem PySem.Spec L2
section
variable {Pn:PN}{K:PySem.W.Frag}
@[reducible] def zne:W->W->Mo W:=fun x y n Q=>onB x fun b=>onL y fun l=>∃ bs:List Bool,l=bs.map .bl/\Q (.d (.bl (!bs.contains b))) n
end
end L3
namespace L2
open PySem PySem.Spec PyProof.Rows PySem.W PySem.Calls
end L2
namespace L3
open PySem PySem.Spec L2
section
variable {X:Cx}{Pn:PN}{M S:List Nat}{es:List Expr}{pos:Pos}
@[reducible] def dNinS (P:Program) (w:World):W->W->Mo W:=fun x y n Q=>∃ (st:List Int) (ks:List (List Int)),x = .d (stD st)/\y = .ss P w ks/\∀ c:Bool,(c=true↔st∈ks)->Q (.d (.bl (!c))) n
@[reducible] def eTpL (n:Nat) (u:List Dt->Ev->(Ev->Prop)->Prop):W->Ev->(Ev->Prop)->Prop:=fun w ρ Q=>onL w fun ds=>u7 n ds (u ds ρ Q)
end
open PySem PySem.Spec L2
section
variable {X:Cx}{Pn:PN}{M M' S:List Nat}{fr:Bool}
@[reducible] def mRel (j:Nat) (fs:Ms):Ms:=fun ρ n k=>onV ρ j fun _=>fs ρ n { rt:=k.rt,nx:=fun _ _=>False }
end
open PySem L2
@[reducible] def mNo:Ms:=fun _ _ _=>False
theorem znC {X:Cx}{Pn:PN}{M S:List Nat}{fr:Bool}{st:Stmt}:JS X Pn S M fr st mNo:=⟨fun _ _ _=>False,⟨fun _ _ _ _ _ _ h=>h.elim⟩,⟨fun _ _ _ _ _ _ _ _ _ _ h=>h⟩⟩
end L3
namespace L2
open PySem PySem.Spec PyProof.Rows PySem.W PySem.Calls
section
variable {prog:Program}{w:World}{A:Around}{E:Value->Shared->Prop}{s:Shared}
end
section
variable {X:Cx}
end
end L2
namespace L3
open PySem PySem.Spec L2
section
variable {X:Cx}{Pn:PN}
@[reducible] def dSortP:List W->Mo W:=fun ws n Q=>on1 ws fun x=>onT x fun l=>∃ (sts:List (List Int)) (m:Nat),l=sts.map stD/\sts.length<64/\1<=m/\(∀ st∈sts,st.length=m)/\sts.Nodup/\∀ sts':List (List Int),sts'.Perm sts->(sts'.Pairwise fun a b=>HT.lexLt a b=true)->Q (.d (uC sts')) n
end
end L3
namespace L2
open PySem PySem.Spec PyProof.Rows
structure Fly (P:Program)(w:World)(C:Addr)(outer:List Env)(H:Hp)(s:Shared)(e:Addr)(H':Hp)(s':Shared):Prop where
 os:s'.os=s.os
 bare:AllBare s'.gens
 un:Un (frs outer) [] H H' s.heap s'.heap
 hok:HOk P w H' s'.heap
 fly:∃ B a0,Heap.FlyingW B outer e (.ref C) a0 s'.heap/\(∀ b o,s.heap.get? b=some o->b∉frs outer->∃ o',B.get? b=some o')/\∀ b u,H' b=some u->∃ o',B.get? b=some o'
def CX1 (P:Program)(w:World)(C:Addr):CXT:=fun outer H s E e s'=>∃ ea H',e = .ref ea/\Fly P w C outer H s ea H' s'/\E (.ref ea) none H'
structure FrX (C:Addr)(E:XK)(X:Cx):Prop where
 stk:X.stack=X.env::X.outer
 frm:X.env.frame=some X.env.locals
 ex:X.ex=[]
 xe:X.xe=fun e s'=>wpAny (model X.prog X.w) X.A (leaving X.env e) (fun _ s''=>CX1 X.prog X.w C X.outer X.H₀ X.s₀ E e s'') (fun e' s''=>CX1 X.prog X.w C X.outer X.H₀ X.s₀ E e' s'') s'
section
variable {X:Cx}{pins:List (Addr×Obj)}{σ:St}{H:Hp}{s:Shared}{C:Addr}{E:XK}
theorem zG.there {P:Program}{w:World}{H:Hp}{h:Heap}{a:Addr}{o:HO}(x:zG P w H h a o):∃ u,h.get? a=some u:=by
 cases o with
 | lst xs=>obtain ⟨_,_,_,_,e⟩:=x;exact ⟨_,e⟩
 | tup xs=>obtain ⟨_,_,_,_,e,_⟩:=x;exact ⟨_,e⟩
 | dK kvs=>obtain ⟨_,_,_,_,o,_,_,e,_⟩:=x;exact ⟨_,e⟩
 | dT kvs=>obtain ⟨_,_,_,_,o,_,_,e,_⟩:=x;exact ⟨_,e⟩
 | set S n=>obtain ⟨o,_,_,_,e,_⟩:=x;exact ⟨_,e⟩
 | ins C dx fs=>obtain ⟨_,_,_,e,_⟩:=x;exact ⟨_,e⟩
 | own y=>exact x
 | xd fs=>obtain ⟨_,⟨_,_,_,e,_⟩,_⟩:=x;exact ⟨_,e⟩
 | rng lo hi=>obtain ⟨_,_,_,e⟩:=x;exact ⟨_,e⟩
 | frz ob u=>exact ⟨_,x.1⟩
 | tbl ps=>exact ⟨_,show h.get? a=some _ from x⟩
 | met f y=>exact ⟨_,show h.get? a=some _ from x⟩
 | ext φ=>exact x.2.1
theorem uQ {B h'':Heap}(I:Inv X pins σ H s)(hex:X.ex=[])(cov1:∀ b o,X.s₀.heap.get? b=some o->b∉X.fs->∃ o',B.get? b=some o')(cov2:∀ b u,H b=some u->∃ o',B.get? b=some o')
  (b1:B.StaysIn s.heap) (b2:B.StaysIn h'') (sm:s.heap.UpToSlots h''):Un X.fs [] X.H₀ H X.s₀.heap h''/\HOk X.prog X.w H h'':=by
 have nx:∀ b:Addr,b∉X.ex:=fun b z=>by rw [hex] at z;cases z
 have both:∀ {b o o'},B.get? b=some o'->s.heap.get? b=some o->h''.get? b=some o:=fun {b o o'} e1 e2=>by
  have:=b1 b o' e1
  rw [e2] at this
  cases this
  exact b2 b o e1
 have fr:∀ {b o},s.heap.get? b=some o->b∈X.fs->∃ sl,h''.get? b=some { o with slots:=sl }:=fun {b o} e hb=>by
  obtain ⟨_,u,hu,hd⟩:=I.funs.mem hb
  rw [e] at hu
  cases hu
  exact sm b o e hd
 refine ⟨⟨fun b o e n hb _=>?_,fun b o e n hb _=>?_,fun b o e n _=>I.base.free b o e n (nx b),fun b o e _=>?_,I.base.tups,I.base.frzs,I.base.tbls⟩,fun a o e=>?_⟩
 ·obtain ⟨o',h1⟩:=cov1 b o e hb
  exact both h1 (I.base.keep b o e n hb (nx b))
 ·obtain ⟨sl,h1⟩:=I.base.slot b o e n hb (nx b)
  obtain ⟨sl2,h2⟩:=fr h1 hb
  exact ⟨sl2,h2⟩
 ·obtain ⟨o',h1⟩:=I.base.there b o e (nx b)
  by_cases hb:b∈X.fs
  ·obtain ⟨sl,h2⟩:=fr h1 hb
   exact ⟨_,h2⟩
  ·obtain ⟨o2,h2⟩:=cov1 b o e hb
   exact ⟨_,both h2 h1⟩
 ·refine (I.hok a o e).stay (fun b u hb q=>?_) (fun _ q=>q) fun _ _ q=>q
  rcases hb with rfl | hb
  ·obtain ⟨o2,h2⟩:=cov2 b o e
   exact both h2 q
  ·obtain ⟨o2,h2⟩:=cov2 b _ hb
   exact both h2 q
theorem FrX.nolc (F:FrX C E X)(I:Inv X pins σ H s){b:Addr}{o:Obj}(e:X.s₀.heap.get? b=some o)(hb:b∉X.fs):b∉frs X.stack:=fun z=>by
 rw [F.stk] at z
 unfold frs at z
 rw [List.filterMap_cons,F.frm] at z
 rcases List.mem_cons.mp z with q | q
 ·have:=Heap.lt_size e
  rw [q] at this
  exact absurd (Nat.lt_of_lt_of_le this I.ok.above) (Nat.lt_irrefl _)
 ·exact hb q
theorem FrX.pass (F:FrX C E X):zc5 (CX1 X.prog X.w C) X E:=by
 rintro pins σ H s e s' I ⟨ea,H',rfl,fl,hE⟩
 rw [F.xe]
 have I':Inv X pins σ H' s':=I.call' (ch:=[]) fl.os fl.un fl.hok fl.bare fun b z=>by cases z
 obtain ⟨B,a0,fw,c1,c2⟩:=fl.fly
 refine wpAny_leaves_onW (base:=B) (by rw [I.ok.frames,F.stk]) F.frm (by rw [<- F.stk];exact fw) fun h'' fw' sm=>?_
 have cov1:∀ b o,X.s₀.heap.get? b=some o->b∉X.fs->∃ o',B.get? b=some o':=fun b o e hb=>by
  obtain ⟨o',h1⟩:=I.base.there b o e (by rw [F.ex];exact fun z=>by cases z)
  exact c1 b o' h1 (F.nolc I e hb)
 obtain ⟨u,k⟩:=uQ I' F.ex cov1 c2 fw.1 fw'.1 sm
 exact ⟨ea,H',rfl,⟨I'.os,I'.bare,u,k,B,a0,fw',cov1,c2⟩,hE⟩
theorem FrX.raised {h':Heap}{e:Addr}{vs:List Value}(F:FrX C E X)(I:Inv X pins σ H s)(hx:Heap.MadeExcOf s.heap h' e (.ref C) vs)(hE:E (.ref e) none H):X.xe (.ref e) { s with heap:=h' }:=by
 rw [F.xe]
 have I':Inv X pins σ H { s with heap:=h' }:=I.kept (t':=s.toks) hx.keeps
 have st:=I.stack
 rw [F.stk] at st
 have hin:∀ env∈X.env::X.outer,∀ a,env.frame=some a->a∈frs X.stack:=fun env he a ha=>by
  rw [F.stk]
  exact List.mem_filterMap.mpr ⟨env,he,ha⟩
 refine wpAny_leaves_madeW (base:=PySem.W.hideAll s.heap (frs X.stack)) (h:=s.heap) (by rw [I.ok.frames,F.stk]) F.frm (fun b o q=>PySem.W.of_hideAll _ q) (PySem.W.funFrames_hide st hin) hx fun h'' t fw _ _ sm=>?_
 have cov1:∀ b o,X.s₀.heap.get? b=some o->b∉X.fs->∃ o',(PySem.W.hideAll s.heap (frs X.stack)).get? b=some o':=fun b o q hb=>by
  obtain ⟨o',h1⟩:=I.base.there b o q (by rw [F.ex];exact fun z=>by cases z)
  exact ⟨o',PySem.W.hideAll_get _ h1 (F.nolc I q hb)⟩
 have cov2:∀ b u,H b=some u->∃ o',(PySem.W.hideAll s.heap (frs X.stack)).get? b=some o':=fun b u q=>by
  obtain ⟨o',h1⟩:=(I.hok b u q).there
  exact ⟨o',PySem.W.hideAll_get _ h1 fun z=>by rw [I.stkFree b z] at q;cases q⟩
 obtain ⟨u,k⟩:=uQ I' F.ex cov1 cov2 (fun b o q=>hx.keeps b o (PySem.W.of_hideAll _ q)) fw.1 sm
 exact ⟨e,H,rfl,⟨I'.os,I'.bare,u,k,_,_,fw,cov1,cov2⟩,hE⟩
end
theorem zhd {P:Program}{w:World}{K:PySem.W.Frag}{mg:Str->Option Value}{base:Heap}{N:List Str}{qual:Str}{scope:Scope}{f:Addr}{cd:Value}{A:Around}{outer:List Env}{s:Shared}{H:Hp}{E:XK}{C:Addr} :
  FrX C E (uP (CX1 P w C) P w K mg base N qual scope f cd A outer s H E):=⟨rfl,rfl,rfl,rfl⟩
abbrev VE:List Value:=[.type "ValueError",.type "Exception",.type "BaseException",.type "object"]
structure ExcC (K:PySem.W.Frag)(mg:Str->Option Value)(x:Str)(C:Addr):Prop where
 bound:mg x=some (.ref C)
 exc:PySem.W.excIn K C VE "ValueError.__new__" = true
theorem ExcC.own {K:PySem.W.Frag}{mg:Str->Option Value}{x:Str}{C:Addr}{h:Heap}(c:ExcC K mg x C)(X:K.In h):OwnCls x C VE "ValueError.__new__" mg h:=by
 have q:=c.exc
 refine ⟨c.bound,?_⟩
 unfold PySem.W.excIn at q
 split at q
 case h_2=>cases q
 case h_1 dd cd sl ho=>
  split at q
  case h_2=>cases q
  case h_1 C' bm k0 k1 k2 k3 n k5 hm hs=>
   simp only [Bool.and_eq_true,beq_iff_eq,Bool.not_eq_true'] at q
   obtain ⟨⟨⟨⟨⟨e1,e2⟩,e3⟩,e4⟩,e5⟩,e6⟩:=q
   subst e1 e2
   cases cd with
   | mk nm bs mro ns qn hd sn sub ab col del=>
    dsimp only at hm e3 e5 e6
    subst hm e3
    cases sl with
    | mk l=>
     dsimp only at hs
     subst hs
     exact ⟨bm,ns,nm,qn,bs,hd,sn,sub,ab,col,dd,k0,k1,k2,k3,k5,_,X _ _ ho,.of_isNs (PySem.W.isNs_of_in X e5),PySem.W.nsMap_none_of_in X e5 e6,PySem.W.tail_of_in X e4⟩
section
variable {X:Cx}{C:Addr}{E:XK}{x m:Str}{np cpos pos p1:Pos}
theorem zgI {j}(F:FrX C E X)(hh:X.A.handled=none)(c:ExcC X.K X.mg x C)(hg:Gl X x)(hdb:(x==("__debug__" : Str))=false:=by decide) :
  PS X (.Raise (some (.Call (.Name x np) [.Constant (.str m) j p1] [] cpos)) none pos) (fun _ _ H=>∀ e,E (.ref e) none H):=by
 intro pins s σ H D I h
 obtain ⟨tl,N,nm,q,bs,hdct,sn,sub,ab,col,dd,k0,k1,k2,k3,k5,mN,hC,hN,hni,T⟩:=(c.own I.ok.mod.kin).obj
 have kp:∀ {s2:Shared},Inv X pins σ H s2->s2.heap.get? C=some _/\s2.heap.Ns N mN/\OwnTail s2.heap VE tl:=fun J=>⟨J.bk _ _ hC,hN.keeps J.bk,T.keeps J.bk⟩
 refine wpAny_Raise_call_subT (C:=C) (nm:=nm) (q:=q) (N:=N) (bs:=bs) (bm:=tl) (hdct:=hdct) (sn:=sn) (sub:=sub) (ab:=ab) (col:=col) (dd:=dd) (k0:=k0) (k1:=k1) (k2:=k2) (k3:=k3) (k5:=k5)
  PySem.F.excBase_ValueError (mN:=mN) (T.hasType PySem.F.excBase_ValueError.hasBase) hh rfl hni (za0 I hg c.bound ⟨rfl,?_⟩ hdb)
 show wpAny _ _ (evalArgs (.ref C) true (backTo cpos [(false,eval (.Constant (.str m) j p1) X.env)]) []) _ _ _
 refine @Calls.evalArgs_plain _ _ _ _ _ _ [] _ (Calls.spliced_cons (Calls.Constant_str (k:=j) (pos:=p1) (Calls.spliced_nil ?_)))
 have J:Inv X pins σ H { s with toks:=s.toks+1 }:=I.tok _
 exact ⟨rfl,by show 1<=sizeLine;decide,(kp J).1,(kp J).2.1,(kp J).2.2,fun h' e hx=>F.raised J hx (h e)⟩
end
structure ExcI (K:PySem.W.Frag)(C:Addr):Prop where
 exc:PySem.W.excIn K C VE "ValueError.__new__" = true
 ga:PySem.W.findIn K (.ref C) "__getattribute__" = some (some (.builtin "BaseException.__getattribute__"))
 gt:PySem.W.findIn K (.ref C) "__getattr__" = some none
 cl:PySem.W.findIn K (.ref C) "__class__" = some (some (.builtin "object.__class__"))
section
variable {prog:Program}{w:World}{A:Around}{E:Value->Shared->Prop}{K:PySem.W.Frag}{C a:Addr}{o:Obj}{hp:Heap}{gs:Array GenState}{dr:Drawn}{tk:Nat}{oS:OsState}
theorem zhO {R:Result->Shared->Prop}(c:ExcI K C)(X:K.In hp)(hx:hp.get? a=some o)(hc:o.cls = .ref C)(hr:R (.ok (.ret (.ref C))) ⟨hp,gs,dr,tk,oS⟩) :
  codeAny (model prog w) A (.call (.builtin "getset_descriptor.__get__") ⟨[.builtin "object.__class__",.ref a,.ref C],[]⟩) R ⟨hp,gs,dr,tk,oS⟩:=by
 obtain ⟨tl,N,nm,q,bs,hdct,sn,sub,ab,col,dd,k0,k1,k2,k3,k5,mN,hC,hN,hni,T⟩:=(ExcC.own (mg:=fun _=>some (.ref C)) (x := "x") ⟨rfl,c.exc⟩ X).obj
 have t5:(⟨hp,gs,dr,tk,oS⟩:Shared).TypeIs (.builtin "object.__class__") "getset_descriptor" := PySem.F.typeOf_object_class
 have hcB:(Value.ref C::tl).contains (.type (".".intercalate ("object.__class__".cutAt '.').dropLast))=true:=by
  rw [show (".".intercalate ("object.__class__".cutAt '.').dropLast) = "object" by decide +kernel,List.contains_cons,T.hasType (b:=true) (by decide +kernel)]
  rfl
 refine codeAny_call_builtin PySem.F.slot_gs_get.plain PySem.F.entry_gs_get (PySem.F.slot_gs_get.check _ _ _ _ _ _ _ _ t5 (PySem.F.args_gs_get _ _ _) ?_)
 repeat (any_goals (first | assumption | (with_reducible refine wpAny_loadPart_at hx ?_;rw [hc]) | (with_reducible refine wpAny_isSubtype_exc hC ?_;rw [hcB]) | wp_step))
 refine ⟨Code.quiet_builtin _ (by decide +kernel),codeAny_builtin PySem.F.entry_object_class ?_⟩
 repeat (any_goals (first | assumption | (with_reducible refine wpAny_loadPart_at hx ?_;rw [hc]) | wp_step))
theorem zew {u:Tok}{Q:Fin->Shared->Prop}(c:ExcI K C)(X:K.In hp)(hx:hp.get? a=some o)(hc:o.cls = .ref C)(hr:Q (.done (.ret (.ref C))) ⟨hp,gs,dr,tk,oS⟩) :
  wpAny (model prog w) A (Builtin.«object.__getattribute__» ⟨[.ref a,.str "__class__" u],[]⟩) Q E ⟨hp,gs,dr,tk,oS⟩:=by
 have t5:(⟨hp,gs,dr,tk,oS⟩:Shared).TypeIs (.builtin "object.__class__") "getset_descriptor" := PySem.F.typeOf_object_class
 have g5:=PySem.F.typeOf_object_class
 have g6:=PySem.F.slot_gs_get.lookup
 have g7:=PySem.F.slot_gs_set.lookup
 have L:=PySem.W.looks_findIn (M:=model prog w) X c.cl
 repeat (any_goals (first | assumption | (with_reducible refine wpAny_loadPart_at hx ?_;rw [hc]) | (with_reducible refine PySem.W.Looks.at L ?_) | wp_step))
 refine zhO c X hx hc ?_
 repeat (any_goals (first | assumption | wp_step))
theorem zev {M:Model}{v:Value}{Q:Unit->Shared->Prop}(c:ExcI K C)(X:K.In hp)(hx:hp.get? a=some o)(hc:o.cls = .ref C)(hr:Q () ⟨hp,gs,dr,tk,oS⟩) :
  wpAny M A (checkBuiltinCall "BaseException.__getattribute__" ⟨[.ref a,v],[]⟩) Q E ⟨hp,gs,dr,tk,oS⟩:=by
 obtain ⟨tl,N,nm,q,bs,hdct,sn,sub,ab,col,dd,k0,k1,k2,k3,k5,mN,hC,hN,hni,T⟩:=(ExcC.own (mg:=fun _=>some (.ref C)) (x := "x") ⟨rfl,c.exc⟩ X).obj
 have e1:builtinKind "BaseException.__getattribute__" = some .slot:=by decide +kernel
 have e2:splitId "BaseException.__getattribute__" = some ("BaseException","__getattribute__"):=by decide +kernel
 have e3:(Value.ref C::tl).contains (.type "BaseException")=true:=by rw [List.contains_cons,T.hasType (b:=true) (by decide +kernel)];rfl
 have e4:=PySem.F.args_bexc_ga (.ref a) v
 simp only [checkBuiltinCall,e1,e2]
 refine wpAny_bind ?_
 unfold isInstance
 repeat (first | (with_reducible refine wpAny_loadPart_at hx ?_;rw [hc]) | (with_reducible refine wpAny_isSubtype_exc hC ?_;rw [e3]) | wp_step)
 exact hr
theorem zf5 {u:Tok}{R:Result->Shared->Prop}(c:ExcI K C)(X:K.In hp)(hx:hp.get? a=some o)(hc:o.cls = .ref C)(hr:R (.ok (.ret (.ref C))) ⟨hp,gs,dr,tk,oS⟩) :
  codeAny (model prog w) A (.call (.builtin "BaseException.__getattribute__") ⟨[.ref a,.str "__class__" u],[]⟩) R ⟨hp,gs,dr,tk,oS⟩:=
 codeAny_call_builtin PySem.F.attrBase_ValueError.ga.plain PySem.F.entry_bexc_ga (zev c X hx hc (zew c X hx hc hr))
theorem zkp {u:Tok}{Q:Value->Shared->Prop}(c:ExcI K C)(X:K.In hp)(hx:hp.get? a=some o)(hc:o.cls = .ref C)(hr:Q (.ref C) ⟨hp,gs,dr,tk,oS⟩):wpAny (model prog w) A (getAttrBy (.ref a) (.str "__class__" u) false) Q E ⟨hp,gs,dr,tk,oS⟩:=by
 have g3:=PySem.F.attrBase_ValueError.ga.bind (.ref a)
 have g2:(Value.builtin "BaseException.__getattribute__" == Value.builtin "object.__getattribute__")=false:=by decide +kernel
 have g1:(onTheHeap (Value.ref C)&&Value.builtin "BaseException.__getattribute__" == Value.builtin "object.__getattribute__")=false:=by rw [g2];rfl
 have L1:=PySem.W.looks_findIn (M:=model prog w) X c.ga
 have L2:=PySem.W.looks_findIn (M:=model prog w) X c.gt
 repeat (any_goals (first | assumption | (with_reducible refine wpAny_loadPart_at hx ?_;rw [hc]) | (with_reducible refine PySem.W.Looks.at L1 ?_) | (with_reducible refine PySem.W.Looks.at L2 ?_) | wp_step))
 refine zf5 c X hx hc ?_
 repeat (any_goals (first | assumption | wp_step))
theorem zf4 {Q:Option Value->Shared->Prop}{s:Shared}(c:ExcI K C)(X:K.In s.heap)(hx:s.heap.get? a=some o)(hc:o.cls = .ref C)(hr:Q (some (.ref C)) { s with toks:=s.toks+1 }):wpAny (model prog w) A (getAttr? (.ref a) "__class__") Q E s:=by
 obtain ⟨hp,gs,dr,tk,oS⟩:=s
 unfold getAttr? getAttrBy?
 repeat (any_goals (first | assumption | with_reducible apply zkp c X hx hc | wp_step))
def EAt (a C:Addr)(h:Heap):Prop:=∃ o,h.get? a=some o/\o.cls = .ref C
theorem zex (c:ExcI K C):PySem.W.KitX K (.ref a) (.ref C) (EAt a C) where
 ty:=fun M h X ⟨o,h1,h2⟩=>fun A Q E s k q=>by
  unfold typeOf
  exact wpAny_bind (wpAny_loadPart (k _ _ h1) (by rw [h2];exact wpAny_pure q))
 it:=fun M h X _=>fun A Q E s k q=>by
  obtain ⟨tl,N,nm,q',bs,hdct,sn,sub,ab,col,dd,k0,k1,k2,k3,k5,mN,hC,_⟩:=(ExcC.own (mg:=fun _=>some (.ref C)) (x := "x") ⟨rfl,c.exc⟩ X).obj
  unfold isType loadHead
  exact wpAny_bind (wpAny_loadPart (k _ _ hC) (wpAny_pure q))
 ne:=fun h tp dd its n sl X htp=>by
  obtain ⟨tl,N,nm,q',bs,hdct,sn,sub,ab,col,dd,k0,k1,k2,k3,k5,mN,hC,_⟩:=(ExcC.own (mg:=fun _=>some (.ref C)) (x := "x") ⟨rfl,c.exc⟩ X).obj
  refine Bool.eq_false_iff.mpr fun q=>?_
  rw [Value.ref.inj (beq_iff_eq.mp q),htp] at hC
  exact absurd (congrArg Obj.cls (Option.some.inj hC)) (by unfold excClassObj;intro z;injection z with z;revert z;decide)
 ca:=fun X ⟨o,h1,h2⟩ hr=>zf4 c X h1 h2 hr
end
section
variable {X:Cx}{pins:List (Addr×Obj)}{σ:St}{H:Hp}{s:Shared}
theorem Inv.other {n:Str}(I:Inv X pins σ H s)(hn:n∉X.N):∃ m,s.heap.Ns X.env.locals m/\∀ (h':Heap) (v:Option Value) (t':Nat),h'.Ns X.env.locals (fun x=>if x=n then v else m x)->Heap.SameBut X.env.locals s.heap h'->Inv X pins σ H { s with heap:=h',toks:=t' }:=by
 obtain ⟨m,hN,hl⟩:=I.loc
 have cne:=I.cne
 refine ⟨m,hN,fun h' v t' hN' hs=>?_⟩
 have old:∀ {b o},X.s₀.heap.get? b=some o->b≠X.env.locals:=fun e=>Nat.ne_of_lt (Nat.lt_of_lt_of_le (Heap.lt_size e) I.ok.above)
 refine ⟨I.ok,I.os,I.bare,⟨fun b o e n hb hx=>(hs.2 b (old e)).trans (I.base.keep b o e n hb hx),fun b o e n hb hx=>?_,I.base.free,fun b o e hx=>?_,I.base.tups,I.base.frzs,I.base.tbls⟩,⟨_,hN',fun j y v' e1 e2 e3=>?_⟩,fun y c e=>?_,I.free,I.freeC,fun p hp=>?_,fun b ob e=>?_,I.len⟩
 ·obtain ⟨sl,e1⟩:=I.base.slot b o e n hb hx
  exact ⟨sl,(hs.2 b (old e)).trans e1⟩
 ·obtain ⟨o',e1⟩:=I.base.there b o e hx
  exact ⟨o',(hs.2 b (old e)).trans e1⟩
 ·obtain ⟨u',r',q⟩:=hl j y v' e1 e2 e3
  refine ⟨u',r',?_⟩
  rcases q with ⟨k,e⟩ | ⟨k,c,e,z⟩
  ·refine .inl ⟨k,?_⟩
   have:y≠n:=fun z=>hn (z ▸ List.mem_of_getElem? e1)
   simp [this,e]
  ·exact .inr ⟨k,c,e,z.sameBut hs (cne y c e)⟩
 ·obtain ⟨w',z⟩:=I.cell y c e
  exact ⟨w',z.sameBut hs (cne y c e)⟩
 ·obtain ⟨e,n,ne,nf,d⟩:=I.pin p hp
  exact ⟨(hs.2 p.1 ne).trans e,n,ne,nf,d⟩
 ·refine (I.hok b ob e).stay (fun c w' hc q=>(hs.2 c ?_).trans q) (fun _ q=>q) fun _ _ q=>q
  rintro rfl
  have:=I.free
  rcases hc with rfl | hc
  ·rw [this] at e;cases e
  ·rw [this] at hc;cases hc
theorem Inv.track {e:Addr}{o:HO}(I:Inv X pins σ H s)(hn:H e=none)(h0:X.s₀.heap.get? e=none)(hl:e≠X.env.locals)(hc:∀ x c,X.env.cells.lookup x=some c->c≠e)(hp:∀ p∈X.pn++pins,p.1≠e)(new:zG X.prog X.w (upd H e o) s.heap e o) :
  Inv X pins σ (upd H e o) s:=by
 have ne:∀ {b u},H b=some u->b≠e:=fun q z=>by rw [z,hn] at q;cases q
 refine ⟨I.ok,I.os,I.bare,⟨I.base.keep,I.base.slot,fun b u q n hx=>?_,I.base.there,fun b xs q=>?_,fun b u v q=>?_,fun b ps q=>?_⟩,I.loc,I.cell,by rw [zd hl.symm];exact I.free,fun x c q=>by rw [zd (hc x c q)];exact I.freeC x c q,fun p q=>?_,fun b u q=>?_,I.len⟩
 ·rw [zd fun z=>by rw [z,h0] at q;cases q]
  exact I.base.free b u q n hx
 ·have:=I.base.tups b xs q
  rw [zd (ne this)];exact this
 ·have:=I.base.frzs b u v q
  rw [zd (ne this)];exact this
 ·obtain ⟨more,z⟩:=I.base.tbls b ps q
  exact ⟨more,by rw [zd (ne z)];exact z⟩
 ·obtain ⟨e1,n,nl,nf,d⟩:=I.pin p q
  exact ⟨e1,by rw [zd (hp p q)];exact n,nl,nf,d⟩
 ·by_cases hb:b=e
  ·subst hb;rw [zh] at q;cases q;exact new
  ·rw [zd hb] at q
   exact (I.hok b u q).stay (fun c v _ z=>z) (fun c z=>by rw [zd (ne z)];exact z) fun c xs z=>by rw [zd (ne z)];exact z
end
def zde (e C:Addr):HO:=.ext (EAt e C)
theorem EAt.ok {P:Program}{w:World}{H:Hp}{h:Heap}{e C:Addr}(x:EAt e C h):zG P w H h e (zde e C):=
 ⟨x,let ⟨o,h1,_⟩:=x;⟨o,h1⟩,fun _ _ ⟨o,h1,h2⟩ k=>⟨o,k o h1,h2⟩⟩
def zj0 (P:Program)(w:World)(K:PySem.W.Frag)(mg:Str->Option Value)(base:Heap)(C:Addr)(k:Nat)(l:Addr)(fr0:List Addr)(s₀:Shared)(H:Hp)(QH:Hp->Prop):Prop:=
 ∀ (A:Around) (outer:List Env) (s:Shared),Room k A->Env0 P w K mg base A outer s H->(∀ b∈frs outer,b∈fr0\/s₀.heap.objs.size<=b)->(∀ b o,s₀.heap.get? b=some o->H b=none->b∉frs outer->s.heap.get? b=some o)->
  codeAny (model P w) A (.call (.ref l) ⟨[],[]⟩) (fun r s'=>∃ e H',r = .error (.ref e)/\Fly P w C outer H s e H' s'/\QH H') s
section
variable {X:Cx}{pins:List (Addr×Obj)}{σ:St}{H H':Hp}{s s':Shared}{C e:Addr}
theorem Fly.here (stk:X.stack=X.env::X.outer)(frm:X.env.frame=some X.env.locals)(hex:X.ex=[])(I:Inv X pins σ H s)(f:Fly X.prog X.w C X.stack H s e H' s') :
  Inv X pins σ H' s'/\H' e=none/\X.s₀.heap.get? e=none/\(∀ p∈X.pn++pins,p.1≠e)/\(∀ b∈frs X.stack,b≠e)/\∀ x c,X.env.cells.lookup x=some c->c≠e:=by
 have I':Inv X pins σ H' s':=I.call' (ch:=[]) f.os f.un f.hok f.bare fun b z=>by cases z
 obtain ⟨B,a0,fw,c1,c2⟩:=f.fly
 obtain ⟨_,hBe,_,oe,vs,_,_,_,he,_,hd,_⟩:=id fw
 have notB:∀ {o},B.get? e≠some o:=fun z=>by rw [hBe] at z;cases z
 have nf:e∉frs X.stack:=fun z=>by
  obtain ⟨_,o,ho,hnd⟩:=I'.stack.mem z
  rw [he] at ho
  cases ho
  exact hnd _ hd
 refine ⟨I',?_,?_,fun p hp z=>?_,fun b hb z=>nf (z ▸ hb),fun x c hc z=>?_⟩
 ·cases q:H' e with
  | none=>rfl
  | some u=>obtain ⟨o',h⟩:=c2 e u q;exact absurd h notB
 ·cases q:X.s₀.heap.get? e with
  | none=>rfl
  | some u=>
   obtain ⟨o',h1⟩:=I.base.there e u q (by rw [hex];exact fun z=>by cases z)
   obtain ⟨o2,h2⟩:=c1 e o' h1 nf
   exact absurd h2 notB
 ·obtain ⟨h1,_⟩:=I.pin p hp
  rw [z] at h1
  obtain ⟨o2,h2⟩:=c1 e _ h1 nf
  exact absurd h2 notB
 ·obtain ⟨v,o,h1,h2⟩:=I'.cell x c hc
  rw [z,he] at h1
  cases h1
  rw [hd] at h2
  cases h2
end
section
variable {M:Model}{A:Around}{E:Value->Shared->Prop}{K:PySem.W.Frag}{C D e:Addr}{oe:Obj}{hp:Heap}{gs:Array GenState}{dr:Drawn}{tk:Nat}{oS:OsState}
theorem zey {Q:Bool->Shared->Prop}(c:ExcI K C)(d:ExcI K D)(X:K.In hp)(sub:PySem.W.subIn K (.ref C) (.ref D)=some true)(he:hp.get? e=some oe)(hc:oe.cls = .ref C)(hr:Q true ⟨hp,gs,dr,tk,oS⟩) :
  wpAny M A (excMatches (.ref e) (.ref D)) Q E ⟨hp,gs,dr,tk,oS⟩:=by
 obtain ⟨tl,N,nm,q,bs,hdct,sn,sb,ab,col,dd,k0,k1,k2,k3,k5,mN,hD,hN,hni,T⟩:=(ExcC.own (mg:=fun _=>some (.ref D)) (x := "x") ⟨rfl,d.exc⟩ X).obj
 have e3:(Value.ref D::tl).contains (.type "BaseException")=true:=by rw [List.contains_cons,T.hasType (b:=true) (by decide +kernel)];rfl
 have L:=PySem.W.looks_subIn (M:=M) X sub
 have f:=tc_notTuple
 unfold excMatches
 repeat (first | (with_reducible refine wpAny_loadPart_at he ?_;rw [hc]) | with_reducible refine wpAny_loadPart_at hD ?_ | (with_reducible refine wpAny_isSubtype_exc hD ?_;rw [e3]) | with_reducible refine PySem.W.Looks.at L ?_ | wp_step)
 exact hr
end
section
variable {X:Cx}{C W l:Addr}{a c n wx:Str}{ia ic k:Nat}{ap cp ep wp p1 p2 p3 hp pos:Pos}{QH:Hp->Prop}
theorem zlB (stk:X.stack=X.env::X.outer)(frm:X.env.frame=some X.env.locals)(hex:X.ex=[])(hr:Room k X.A)(hNa:X.N[ia]?=some a)(hva:Vis X.env.scope a)(hNc:X.N[ic]?=some c)(hlc:Loc X.env.scope c)(nd:X.N.Nodup)
  (hfc:X.fn c=true\/X.env.scope.names.lookup c=some .local) (hn:n∉X.N) (hnl:X.env.kindOf n=some .local) (ci:ExcI X.K C) (wi:ExcI X.K W) (hW:X.mg wx=some (.ref W)) (hg:Gl X wx) (sub:PySem.W.subIn X.K (.ref C) (.ref W)=some true)
  {ol:Obj} {fl:FuncData} (hl:X.s₀.heap.get? l=some ol) (hlH:X.H₀ l=none) (hlf:l∉frs X.stack) (hld:ol.data = .func fl) {fr0:List Addr} (hfr0:∀ b∈frs X.stack,b∈fr0\/X.s₀.heap.objs.size<=b) (hA:zj0 X.prog X.w X.K X.mg X.base C k l fr0 X.s₀ X.H₀ QH)
  (hda:(a==("__debug__" : Str))=false:=by decide) (hca:(a==("__classdict__" : Str))=false:=by decide) (hdw:(wx==("__debug__" : Str))=false:=by decide) (hdn:(n==("__debug__" : Str))=false:=by decide) (hsw:swapsWith (.Name n p2) (some (.Name c p1)) p3.line X.env=pure false:=by rfl) :
  PS X (.Try [.Expr (.Call (.Name a ap) [] [] cp) ep] [.ExceptHandler (some (.Name wx wp)) (some n) [.Assign [.Name c p1] (.Name n p2) p3] hp] [] [] pos)
   (fun D σ H=>H=X.H₀/\σ[ia]?=some (some (.ref l))/\∀ e H',QH H'->H' e=none->D.nx (σ.set ic (some (.ref e))) (upd H' e (zde e C))):=by
 intro pins s σ H D I h
 obtain ⟨eH,ha,hD⟩:=h
 subst eH
 have keep:∀ {s1:Shared},Inv X pins σ X.H₀ s1->∀ b o,X.s₀.heap.get? b=some o->X.H₀ b=none->b∉frs X.stack->s1.heap.get? b=some o:=fun J b o q n hb=>
  J.base.keep b o q n (fun z=>hb (by rw [stk];unfold frs;rw [List.filterMap_cons,frm];exact List.mem_cons_of_mem _ z)) (by rw [hex];exact fun z=>by cases z)
 refine wpAny_Try_except (wpAny_execs_cons (wpAny_Expr_any (wpAny_Call_Name_kw (wpAny_mono (zhr (X:=X.nox) hNa hva hda hca pins s σ X.H₀ (fun v H1=>v = .ref l/\H1=X.H₀) (I.wish _) ⟨_,ha,rfl,rfl⟩) ?_ fun _ _ z=>False.elim z)) I.quiet rfl))
 rintro v s1 ⟨x,H1,I1,r1,rfl,rfl⟩
 cases r1
 have I1:=I1.unwish
 refine callWith_meth0 hld (keep I1 l ol hl hlH hlf) (wpAny_call (codeAny_mono (hA X.A X.stack s1 hr I1.env0 hfr0 (keep I1)) fun r s2 hq=>?_))
 obtain ⟨e,H',rfl,fly,hQ⟩:=hq
 obtain ⟨I2,hHe,h0e,hpe,hfe,hce⟩:=fly.here stk frm hex I1
 obtain ⟨B,a0,fw,c1,c2⟩:=fly.fly
 have hfr:X.A.frames=some (X.env::X.outer):=by rw [I1.ok.frames,stk]
 have fw':Heap.FlyingW B (X.env::X.outer) e (.ref C) a0 s2.heap:=by rw [<- stk];exact fw
 have stay:∀ {h'':Heap} {t:Nat},B.StaysIn h''->s2.heap.UpToSlots h''->Inv X pins σ H' { s2 with heap:=h'',toks:=t }:=fun {h'' t} b2 sm=>by
  have cov1:∀ b o,X.s₀.heap.get? b=some o->b∉X.fs->∃ o',B.get? b=some o':=fun b o q hb=>by
   obtain ⟨o',h1⟩:=I1.base.there b o q (by rw [hex];exact fun z=>by cases z)
   refine c1 b o' h1 fun z=>?_
   rw [stk] at z
   unfold frs at z
   rw [List.filterMap_cons,frm] at z
   rcases List.mem_cons.mp z with y | y
   ·have:=Heap.lt_size q
    rw [y] at this
    exact absurd (Nat.lt_of_lt_of_le this I1.ok.above) (Nat.lt_irrefl _)
   ·exact hb y
  have both:∀ {b o o1},s1.heap.get? b=some o1->b∉frs X.stack->s2.heap.get? b=some o->h''.get? b=some o:=fun {b o o1} q1 hb q2=>by
   obtain ⟨o',h1⟩:=c1 b o1 q1 hb
   have:=fw.1 b o' h1
   rw [q2] at this
   cases this
   exact b2 b o h1
  obtain ⟨u,k⟩:=uQ I2 hex cov1 c2 fw.1 b2 sm
  obtain ⟨m,hN,hl2⟩:=I2.loc
  have cell:∀ {c v},s2.heap.IsCell c v->h''.IsCell c v:=fun {c v} ⟨o,h1,h2⟩=>by
   obtain ⟨sl,h3⟩:=sm c o h1 fun vs z=>by rw [h2] at z;cases z
   exact ⟨_,h3,h2⟩
  refine ⟨I2.ok,I2.os,I2.bare,by rw [hex];exact u,⟨m,sm.ns hN,fun i x v e1 e2 e3=>?_⟩,fun x c q=>?_,I2.free,I2.freeC,fun p hp=>?_,k,I2.len⟩
  ·obtain ⟨u',r',q⟩:=hl2 i x v e1 e2 e3
   refine ⟨u',r',?_⟩
   rcases q with q | ⟨k,c,q,z⟩
   ·exact .inl q
   ·exact .inr ⟨k,c,q,cell z⟩
  ·obtain ⟨v,z⟩:=I2.cell x c q
   exact ⟨v,cell z⟩
  ·obtain ⟨q1,q2,q3,q4,q5⟩:=I2.pin p hp
   obtain ⟨g1,_⟩:=I1.pin p hp
   refine ⟨both g1 (fun z=>?_) q1,q2,q3,q4,q5⟩
   rw [stk] at z
   unfold frs at z
   rw [List.filterMap_cons,frm] at z
   rcases List.mem_cons.mp z with y | y
   ·exact q3 y
   ·exact q4 y
 refine wpAny_looks_onW hfr frm fw' fun h4 held4 sm4=>wpAny_landsW held4 fun h5 fw5 sm5=>?_
 have sm:=sm4.trans sm5
 have I5:Inv X pins σ H' { s2 with heap:=h5 }:=stay (t:=s2.toks) fw5.1 sm
 obtain ⟨oe,he,hec⟩:=fw5.there
 refine wpAny_handleBy_cons (codeAny_handlers_test (Calls.Name_function_global I5.ok.kind hg (Calls.loadGlobal_global (by rw [I5.ok.glob];exact I5.mod.glob.keeps I5.bk) hW ?_) hdw)) (by intro q;cases q)
 refine zey ci wi I5.kIn sub he hec ?_
 refine codeAny_handlers_suite_as (lands_againW fw5 fun h6 fw6 sm6=>?_)
 have I6:Inv X pins σ H' { s2 with heap:=h6 }:=stay (t:=s2.toks) fw6.1 (sm.trans sm6)
 obtain ⟨m,hN,oth⟩:=I6.other hn
 have hcls:(X.env.scope.kind==.class || (X.env.scope.kind==.module&&X.env.locals != X.env.globals))=false:=by rw [I6.ok.kind];rfl
 refine wpAny_storeName_local hnl hN (fun h7 hN7 hs7=>?_) hcls
 have hle:X.env.locals≠e:=hfe _ (by rw [stk];unfold frs;rw [List.filterMap_cons,frm];exact List.mem_cons_self)
 have I7:=oth h7 (some (.ref e)) (s2.toks+1) hN7 hs7
 obtain ⟨o6,g6,k6⟩:=fw6.there
 have I8:=I7.track (o:=zde e C) hHe h0e hle.symm hce hpe (EAt.ok ⟨o6,(hs7.2 e hle.symm).trans g6,k6⟩)
 refine wpAny_execs_cons (wpAny_Assign_Name (wpAny_Name (wpAny_loadName_local I8.ok.kind hnl hN7 (show (if n=n then some (Value.ref e) else m n)=some (.ref e) from if_pos rfl) ?_) hdn) hsw)
 refine zbl I8 nd hNc hlc (v:=.ref e) rfl (fun s9 I9=>wpAny_execs_nil ?_) hfc
 obtain ⟨m9,hN9,oth9⟩:=I9.other hn
 refine wpAny_nameGoes_keeps hnl hN9 hcls fun h10 v10 hN10 hs10=>?_
 exact ⟨_,_,oth9 h10 v10 _ hN10 hs10,hD e H' hQ hHe⟩
end
def zc4 (oc:Obj)(q:Str):Prop:=∃ vs tq,oc.data = .fields vs/\vs[1]?=some (.str q tq)
def zbA (oc:Obj):HO:=.frz oc (.own 0)
def zdG (P:Program)(w:World)(K:PySem.W.Frag)(mg:Str->Option Value)(base:Heap)(N:List Str)(qual:Str)(scope:Scope)(l:Addr)(cv:Value)(cl:List (Str×Addr))(A:Around)(outer:List Env)(s:Shared)(H:Hp)(C:Addr)(E:XK):Cx where
 prog:=P
 w:=w
 K:=K
 mg:=mg
 base:=base
 A:=A.deeper (PySem.W.envX qual scope s.heap.objs.size l cv cl)
 N:=N
 s₀:=s
 H₀:=H
 env:=PySem.W.envX qual scope s.heap.objs.size l cv cl
 outer:=outer
 stack:=PySem.W.envX qual scope s.heap.objs.size l cv cl::outer
 ex:=[]
 fn:=fun _=>false
 calm:=true
 pn:=[]
 xe:=fun e s'=>wpAny (model P w) (A.deeper (PySem.W.envX qual scope s.heap.objs.size l cv cl)) (leaving (PySem.W.envX qual scope s.heap.objs.size l cv cl) e) (fun _ s''=>CX1 P w C outer H s E e s'') (fun e' s''=>CX1 P w C outer H s E e' s'') s'
section
variable {P:Program}{w:World}{K:PySem.W.Frag}{mg:Str->Option Value}{base:Heap}{N:List Str}{qual:Str}{scope:Scope}{l:Addr}{cv:Value}{cl:List (Str×Addr)}{A:Around}{outer:List Env}{s:Shared}{H:Hp}{C:Addr}{E:XK}
theorem zh1:FrX C E (zdG P w K mg base N qual scope l cv cl A outer s H C E):=⟨rfl,rfl,rfl,rfl⟩
theorem zie {σ:St}{h1:Heap}{t1:Nat}{o1:Obj}(e0:Env0 P w K mg base A outer s H)(hd:A.handled=none)(hk:scope.kind = .function)(inj:∀ x y c,cl.lookup x=some c->cl.lookup y=some c->x=y)
  (has:∀ x,(scope.names.lookup x=some .cell\/scope.names.lookup x=some .free)->∃ c,cl.lookup x=some c) (hcl:∀ x c,cl.lookup x=some c->(∃ v,s.heap.IsCell c v)/\H c=none)
  (vals:∀ (i:Nat) (x:Str) (v:V),N[i]?=some x->σ[i]?=some (some v)->Vis scope x->scope.names.lookup x=some .free/\∃ u c,zX v u/\cl.lookup x=some c/\s.heap.IsCell c (some u)) (len:σ.length=N.length)
  (hN:h1.Ns s.heap.objs.size (fun x=>([]:List (Str×Value)).reverse.lookup x)) (hs:Heap.SameBut s.heap.objs.size (s.heap.push o1) h1):Inv (zdG P w K mg base N qual scope l cv cl A outer s H C E) [] σ H { s with heap:=h1,toks:=t1 }:=by
 have kp:∀ b o,s.heap.get? b=some o->h1.get? b=some o:=fun b o q=>(hs.2 b (Nat.ne_of_lt (Heap.lt_size q))).trans (Heap.get?_push_of_some _ q)
 have cell:∀ {c v},s.heap.IsCell c v->h1.IsCell c v:=fun ⟨o,g1,g2⟩=>⟨o,kp _ _ g1,g2⟩
 have nox:∀ b:Addr,b∉(zdG P w K mg base N qual scope l cv cl A outer s H C E).ex:=fun b z=>absurd (show b∈([]:List Addr) from z) (by simp)
 refine ⟨⟨e0.mod,hk,rfl,rfl,Nat.le_refl _,inj,has,fun _ _ z=>(by cases z),fun _=>hd,Around.frames_deeper e0.frames,.inr ⟨rfl,rfl⟩,fun b z=>absurd z (nox b),e0.bs,e0.bsz,fun b _ _=>nox b,fun b z=>absurd z (nox b),e0.funs,e0.frf⟩,
  rfl,e0.bare,Un.kept kp,⟨_,hN,fun i x v q1 q2 q3=>?_⟩,fun x c q=>?_,e0.hok.fresh (Nat.le_refl _),fun x c q=>(hcl x c q).2,fun p hp=>absurd (show p∈([]:List (Addr×Obj)) from hp) (by simp),e0.hok.kept kp,len⟩
 ·obtain ⟨g1,u,c,r,g2,g3⟩:=vals i x v q1 q2 q3
  exact ⟨u,r,.inr ⟨.inr g1,c,g2,cell g3⟩⟩
 ·obtain ⟨v,z⟩:=(hcl x c q).1
  exact ⟨v,cell z⟩
theorem zfS {k:Nat}{params:Arguments}{body:Expr}{pm ctv:Value}{name:Str}{c':Addr}{fr0:List Addr}{s₀:Shared}{σ:St}{QH:Hp->Prop}(hp:bindArgs (PySem.W.kla_fn name qual params body scope cl pm (.ref c') ctv) ⟨[],[]⟩=pure [])
  (hk:scope.kind = .function) (hco:scope.isCoroutine=false) (hgen:scope.isGenerator=false) (hnc:∀ x∈scope.names,x.2≠.cell)
  (hl:s₀.heap.get? l=some (PySem.W.kla_obj name qual params body scope cl pm c' ctv)) (hlH:H l=none) (hlf:l∉fr0) {oc:Obj} (hcd:H c'=some (zbA oc)) (hoc:zc4 oc qual)
  (inj:∀ x y c,cl.lookup x=some c->cl.lookup y=some c->x=y) (has:∀ x,(scope.names.lookup x=some .cell\/scope.names.lookup x=some .free)->∃ c,cl.lookup x=some c) (hcl:∀ x c,cl.lookup x=some c->(∃ v,s₀.heap.IsCell c v)/\H c=none/\c∉fr0)
  (vals:∀ (i:Nat) (x:Str) (v:V),N[i]?=some x->σ[i]?=some (some v)->Vis scope x->scope.names.lookup x=some .free/\∃ u c,zX v u/\cl.lookup x=some c/\s₀.heap.IsCell c (some u)) (len:σ.length=N.length)
  (hbody:∀ (A:Around) (outer:List Env) (s:Shared),Room k (A.deeper (PySem.W.envX qual scope s.heap.objs.size l (.ref c') cl))->∃ t:TE,PE (zdG P w K mg base N qual scope l (.ref c') cl A outer s H C (fun _ _ H'=>QH H')) body t/\t σ H fun _ _=>False) :
  zj0 P w K mg base C (k+1) l fr0 s₀ H QH:=by
 intro A outer s hr e0 hfr kp
 have nf:∀ {b o},s₀.heap.get? b=some o->b∉fr0->b∉frs outer:=fun q n z=>(hfr _ z).elim n fun y=>absurd (Heap.lt_size q) (Nat.not_lt.mpr y)
 have cellS:∀ {c v},H c=none->c∉fr0->s₀.heap.IsCell c v->s.heap.IsCell c v:=fun n f ⟨o,g1,g2⟩=>⟨o,kp _ _ g1 n (nf g1 f),g2⟩
 have hcd':s.heap.CodeRec (.ref c') qual:=by
  obtain ⟨vs,tq,g2,g3⟩:=hoc
  exact ⟨c',oc,vs,tq,rfl,(e0.hok c' _ hcd).1,g2,g3⟩
 refine PySem.W.kla_callFunE hr.depth (kp _ _ hl hlH (nf hl hlf)) rfl hco hgen rfl hcd' ?_
 rw [hp]
 refine wpAny_pure (wpAny_newFunctionEnv hnc (fun x hx=>absurd hx (by simp)) (fun h1 hN hs=>⟨?_,?_⟩) hk)
 ·have:=e0.mod.nolimit.keeps fun b o e=>(e0.bs b o e).1
  exact this.fresh _ hs
 have I:=zie (E:=fun _ _ H'=>QH H') (C:=C) (qual:=qual) (l:=l) (cv:=.ref c') (N:=N) (σ:=σ) (t1:=s.toks+0) e0 hr.hd hk inj has (fun x c q=>let ⟨⟨v,z⟩,n,f⟩:=hcl x c q;⟨⟨v,cellS n f z⟩,n⟩) (fun i x v q1 q2 q3=>by
  obtain ⟨g1,u,c,r,g2,g3⟩:=vals i x v q1 q2 q3
  obtain ⟨_,n,f⟩:=hcl x c g2
  exact ⟨g1,u,c,r,g2,cellS n f g3⟩) len hN hs
 obtain ⟨t,hb,ht⟩:=hbody A outer s (hr.deeper _)
 refine PySem.W.kla_codeExpr (wpAny_mono (hb [] _ σ H _ I ht) (fun v s' z=>?_) fun e s' z=>?_)
 ·obtain ⟨_,_,_,_,q⟩:=z
  exact q.elim
 ·refine wpAny_mono z (fun _ s'' y=>?_) fun e' s'' y=>?_
  ·obtain ⟨ea,H',rfl,f,q⟩:=y
   exact ⟨ea,H',rfl,f,q⟩
  ·obtain ⟨ea,H',rfl,f,q⟩:=y
   exact ⟨ea,H',rfl,f,q⟩
end
def zd7 (P:Addr)(q:Str)(H:Hp):Prop:=∃ ps:Array Value,H P=some (kO P (PySem.W.tabObj ps))/\TriplesOk ps.toList/\∀ pos cv,codeAmong pos ps.toList=some cv->∃ c' oc,cv = .ref c'/\H c'=some (zbA oc)/\zc4 oc q
structure LamT (K:PySem.W.Frag)(mg:Str->Option Value)(c P:Addr):Prop where
 hd:∀ h,K.In h->PySem.W.CodeHd h c P
 gp:mainGlobals≠P
theorem zaE {pos pos':Pos}{c:Value}:∀ {l:List Value},TriplesOk l->∀ {cv},codeAmong pos' (l++[rawInt pos.line,rawInt pos.col,c])=some cv->codeAmong pos' l=some cv\/cv=c
 | [],_,cv,h=>by
  right
  simp only [List.nil_append,rawInt,codeAmong] at h
  split at h
  ·exact (Option.some.inj h).symm
  ·cases h
 | .int a t::.int b u::d::r,ht,cv,h=>by
  simp only [List.cons_append,codeAmong] at h ⊢
  split at h
  ·rename_i hc
   rw [if_pos hc]
   exact .inl h
  ·rename_i hc
   rw [if_neg hc]
   exact zaE (l:=r) ht h
section
variable {X:Cx}{pins:List (Addr×Obj)}{σ:St}{H:Hp}{s:Shared}{E:Value->Shared->Prop}{params:Arguments}{body:Expr}{scope:Scope}{pos:Pos}{c P:Addr}{cl:List (Str×Addr)}
theorem zgn {Q:Value->Shared->Prop}(I:Inv X pins σ H s)(hdef:defaultsOf params X.env=([],[]))(hcl:closureFor scope X.env=pure cl)(hcode:X.env.code = .ref c)(T:LamT X.K X.mg c P)(hB:X.base.BuiltinsAt X.mg P)(tab:zd7 P (X.env.qual ++ "<lambda>") H)
  (hQ:∀ l c' oc ctv H1 s',Inv X pins σ H1 s'->s'.heap.get? l=some (PySem.W.kla_obj "<lambda>" (X.env.qual ++ "<lambda>") params body scope cl ((X.mg "__name__").getD .none) c' ctv)->H1 l=none->s.heap.objs.size<=l->H1 c'=some (zbA oc)->zc4 oc (X.env.qual ++ "<lambda>")->
   zd7 P (X.env.qual ++ "<lambda>") H1->(∀ b o,b≠P->H b=some o->H1 b=some o)->(∀ b,H b=none->b<s.heap.objs.size->H1 b=none)->(∀ b o,s.heap.get? b=some o->H b=none->s'.heap.get? b=some o)->Q (.ref l) s') :
  wpAny (model X.prog X.w) X.A (eval (.Lambda params body scope pos) X.env) Q E s:=by
 obtain ⟨ps,hP,tr,known⟩:=tab
 obtain ⟨gP,⟨oP,_⟩,_⟩:=I.hok P _ hP
 have gP:s.heap.get? P=some (PySem.W.tabObj ps):=gP
 have hg:s.heap.Ns mainGlobals X.mg:=I.mod.glob.keeps I.bk
 have C:=T.hd _ I.kIn
 have bt:=hB.keeps I.bk
 refine PySem.W.kla_eval hdef ?_
 cases hf:codeAmong pos ps.toList with
 | some cv=>
  obtain ⟨c',oc,rfl,hc',hoc⟩:=known pos cv hf
  refine PySem.W.kla_makeFunctionHit (mg:=X.mg) hcl I.ok.glob hg hcode C gP tr hf bt fun ctv h' tk kp sz=>?_
  have I1:Inv X pins σ H { s with heap:=h'.push { cls:=.type "function",data:=.func (PySem.W.kla_fn "<lambda>" (X.env.qual ++ "<lambda>") params body scope cl ((X.mg "__name__").getD .none) (.ref c') ctv) },toks:=tk }:=I.kept fun b o q=>Heap.get?_push_of_some _ (kp b o q)
  exact hQ h'.objs.size c' oc ctv H _ I1 (Heap.get?_push_size _ rfl) (I.hok.fresh sz) sz hc' hoc ⟨ps,hP,tr,known⟩ (fun _ _ _ q=>q) (fun _ q _=>q) fun b o q _=>Heap.get?_push_of_some _ (kp b o q)
 | none=>
  refine PySem.W.kla_makeFunction (mg:=X.mg) hcl I.ok.glob hg hcode C gP tr hf T.gp bt fun c' ctv h' tk hx hge hlt hrec htb=>?_
  obtain ⟨c2,oc,vs,tq,ec,g1,g2,g3⟩:=hrec
  cases ec
  have hPs:P<s.heap.objs.size:=Heap.lt_size gP
  have hPc:c'≠P:=fun z=>by rw [z] at hge;exact absurd hPs (Nat.not_lt.mpr hge)
  have hsz:s.heap.objs.size<=h'.objs.size:=Nat.le_trans hge (Nat.le_of_lt hlt)
  have kp:∀ b o,b≠P->s.heap.get? b=some o->(h'.push (PySem.W.kla_obj "<lambda>" (X.env.qual ++ "<lambda>") params body scope cl ((X.mg "__name__").getD .none) c' ctv)).get? b=some o:=fun b o hb q=>Heap.get?_push_of_some _ (hx b o hb q)
  have I2:Inv X pins σ (upd H P (kO P (PySem.W.tabObj (ps++#[rawInt pos.line,rawInt pos.col,.ref c'])))) { s with heap:=h'.push (PySem.W.kla_obj "<lambda>" (X.env.qual ++ "<lambda>") params body scope cl ((X.mg "__name__").getD .none) c' ctv),toks:=tk }:=
   I.write (x:=P) (e:=P) (by rw [hP];trivial) (.inl rfl) kp ⟨_,Heap.get?_push_of_some _ htb⟩ ⟨Heap.get?_push_of_some _ htb,⟨_,Heap.get?_push_of_some _ htb⟩,fun h1 h2 q k=>k _ q⟩
  have nw:∀ {b:Addr},s.heap.objs.size<=b->H b=none:=fun q=>I.hok.fresh q
  have hc0:upd H P (kO P (PySem.W.tabObj (ps++#[rawInt pos.line,rawInt pos.col,.ref c']))) c'=none:=by rw [zd hPc];exact nw hge
  have lt:∀ {b o},s.heap.get? b=some o->b≠c':=fun q z=>by rw [z] at q;exact absurd (Heap.lt_size q) (Nat.not_lt.mpr hge)
  have I3:=I2.track (e:=c') (o:=zbA oc) hc0 (Heap.get?_none_of_le (Nat.le_trans I.sz hge)) (fun z=>by have:=I.lt;rw [<- z] at this;exact absurd this (Nat.not_lt.mpr hge)) (fun x c q=>by obtain ⟨v,o,h1,_⟩:=I.cell x c q;exact lt h1) (fun p hp=>lt (I.pin p hp).1)
   ⟨Heap.get?_push_of_some _ g1,⟨oc,Heap.get?_push_of_some _ g1⟩⟩
  have hlc:h'.objs.size≠c':=Nat.ne_of_gt hlt
  have hlP:h'.objs.size≠P:=fun z=>by rw [<- z] at hPs;exact absurd hPs (Nat.not_lt.mpr hsz)
  have up:∀ b o,b≠P->H b=some o->upd (upd H P (kO P (PySem.W.tabObj (ps++#[rawInt pos.line,rawInt pos.col,.ref c'])))) c' (zbA oc) b=some o:=fun b o hb q=>by
   rw [zd (fun z=>by rw [z,nw hge] at q;cases q),zd hb];exact q
  refine hQ h'.objs.size c' oc ctv _ _ I3 (Heap.get?_push_size _ rfl) (by rw [zd hlc,zd hlP];exact nw hsz) hsz zh ⟨vs,tq,g2,g3⟩ ⟨_,by rw [zd hPc.symm];exact zh,?_,fun pos' cv q=>?_⟩ up (fun b q hb=>by rw [zd (Nat.ne_of_lt (Nat.lt_of_lt_of_le hb hge)),zd (fun z=>by rw [z,hP] at q;cases q)];exact q) fun b o q n=>kp b o (fun z=>by rw [z,hP] at n;cases n) q
  ·rw [Array.toList_append]
   exact TriplesOk_snoc _ _ _ _ tr
  ·rw [Array.toList_append] at q
   rcases zaE tr q with q | q
   ·obtain ⟨c3,oc3,e3,h3,h4⟩:=known pos' cv q
    exact ⟨c3,oc3,e3,up c3 _ (fun z=>by rw [z,hP] at h3;cases h3) h3,h4⟩
   ·exact ⟨c',oc,q,zh,⟨vs,tq,g2,g3⟩⟩
end
section
variable {X:Cx}
theorem zdb:CallQ X (.builtin "isinstance") (fun xs H Q=>∃ e C d D b,xs=[.ref e,d]/\(∀ u,zX d u->u=D)/\H e=some (zde e C)/\ExcI X.K C/\PySem.W.kitOne X.K (.ref C) D=some b/\Q (.bl b) H):=⟨by
 intro pins s σ H xs us Q I r h
 obtain ⟨e,C,d,D,b,rfl,hd,he,ci,hb,q⟩:=h
 obtain ⟨u,c,rfl,ru,rc⟩:=zfJ r
 cases ru
 cases hd c rc
 exact PySem.W.kia_one (zex ci) I.kIn (I.hok e _ he).1 hb (fun z=>nomatch z) fun tk=>⟨.bl b,H,I.tok tk,rfl,q⟩⟩
theorem zft:∀ {cs:List Addr} {us:List Value},zY (cs.map V.ref) us->us=cs.map Value.ref
 | [],_,.nil=>rfl
 | c::cs,_,.cons r1 r2=>by cases r1;rw [zft r2];rfl
theorem zei:CallQ X (.builtin "isinstance") (fun xs H Q=>∃ (e C p:Addr) (cs:List Addr) (b:Bool),xs=[.ref e,.ref p]/\H p=some (.tup (cs.map V.ref))/\H e=some (zde e C)/\ExcI X.K C/\PySem.W.kitAny X.K (.ref C) (cs.map Value.ref)=some b/\Q (.bl b) H):=⟨by
 intro pins s σ H xs us Q I r h
 obtain ⟨e,C,p,cs,b,rfl,hp,he,ci,hb,q⟩:=h
 obtain ⟨u,c,rfl,ru,rc⟩:=zfJ r
 cases ru
 cases rc
 obtain ⟨its,r1,p1,_⟩:=I.tuple (.of hp)
 cases zft r1
 obtain ⟨⟨cls,dd,data,sl⟩,ho,hc,n,hd⟩:=id p1
 cases hc
 cases hd
 exact PySem.W.kia_tup (zex ci) I.kIn (I.hok e _ he).1 ho hb (fun z=>nomatch z) fun tk=>⟨.bl b,H,I.tok tk,rfl,q⟩⟩
end
theorem zkt {CX:CXT}{P:Program}{w:World}{K:PySem.W.Frag}{mg:Str->Option Value}{base:Heap}{k:Nat}{f:Addr}{name qual:Str}{params:Arguments}{body:List Stmt}{scope:Scope}{dV kV doc pm cdv ct oc:Value}{an od:Option Addr}
  {osl:Array (Option Value)} {N ps:List Str} {A:Around} {outer:List Env} {s:Shared} {H:Hp} {args:Args} {us:List Value} {vs:List V} {Q:VK} {E:XK} (lk:K.lookup f=some ⟨oc,od,.func (PySem.W.fnOf name qual params body scope dV kV doc pm an cdv ct),osl⟩) (hcd:PySem.W.codeIn K cdv qual=true) (S:FnScope N ps scope)
  (hl:vs.length=ps.length) (hr:Room (k+1) A) (e0:Env0 P w K mg base A outer s H) (hb:BindsTo s (PySem.W.fnOf name qual params body scope dV kV doc pm an cdv ct) args (ps.zip us)) (r:zY vs us)
  (hbody:Room k (A.deeper (envOfC qual scope s.heap.objs.size f cdv))->∃ t,PSs (uP CX P w K mg base N qual scope f cdv A outer s H E) body t/\t { nx:=fun _ H'=>Q .non H',rt:=Q } (yt N vs) H) :
  codeAny (model P w) A (.call (.ref f) args) (CR CX outer P w H s Q E) s:=by
 have KX:K.In s.heap:=e0.mod.kin.keeps fun b o e=>(e0.bs b o e).1
 have lim:s.heap.NoLimit:=e0.mod.nolimit.keeps fun b o e=>(e0.bs b o e).1
 have hkind:∀ y∈ps.zip us,scope.names.lookup y.1=some .local\/(scope.names.lookup y.1=some .cell/\((cellsFrom (s.heap.objs.size+1) scope.names []).lookup y.1).isSome=true):=by
  rintro ⟨n,v⟩ hy
  rcases S.par n (List.of_mem_zip hy).1 with q | q
  ·exact .inl q
  ·exact .inr ⟨q,PySem.W.cellsFrom_some _ _ _ (.inl q)⟩
 refine codeAny_call_function hr.depth (KX _ _ lk) rfl S.co S.gen rfl (PySem.W.codeRec_of KX hcd) (hb _ _ _ _ ?_)
 refine wpAny_newFunctionEnv_cells S.kind hkind fun env he s1 x=>?_
 subst he
 refine ⟨lim.keeps x.toInCall.keep,codeAny_func ?_⟩
 obtain ⟨t,ht,hq⟩:=hbody (hr.deeper _)
 have I:Inv (uP CX P w K mg base N qual scope f cdv A outer s H E) [] (yt N vs) H s1:=zbF S hr.hd e0 hl r x
 refine wpAny_mono (ht [] s1 (yt N vs) H _ I hq) (fun fl s' hs=>?_) fun e s' hs=>hs
 have fin:∀ {σ':St} {H':Hp} {v:V} {u:Value},Inv (uP CX P w K mg base N qual scope f cdv A outer s H E) [] σ' H' s'->zX v u->Q v H'->CE outer P w H s Q u s':=
  fun {σ' H' v u} J rv q=>⟨v,H',J.os,J.bare,J.base,J.hok,rv,q⟩
 cases fl with
 | ret u=>
  obtain ⟨v,σ',H',J,rv,q⟩:=hs
  exact fin J rv q
 | next=>
  obtain ⟨σ',H',J,q⟩:=hs
  exact fin (v:=V.non) (u:=Value.none) J rfl q
 | brk=>
  obtain ⟨_,_,_,q⟩:=hs
  exact False.elim q
 | cont=>
  obtain ⟨_,_,_,q⟩:=hs
  exact False.elim q
structure Errs (K:PySem.W.Frag)(mg:Str->Option Value)(cx wx:Str)(C W:Addr)(cs:List Addr):Prop where
 ci:ExcI K C
 wi:ExcI K W
 mc:mg cx=some (.ref C)
 mw:mg wx=some (.ref W)
 sub:PySem.W.subIn K (.ref C) (.ref W)=some true
 own:PySem.W.kitOne K (.ref C) (.ref C)=some true
 ve:PySem.W.kitOne K (.ref C) (.type "ValueError")=some true
 no:PySem.W.kitAny K (.ref C) (cs.map Value.ref)=some false
section
variable {X:Cx}{C W l:Addr}{cs:List Addr}{a c n cx wx:Str}{k k1 k2 k3:Nat}{es:List Expr}{ts:TA}{QH:Hp->Prop}
 {p1 p2 p3 ap cp ep wp q1 q2 q3 hp tp i1 i2 i3 i4 i5 i6 i7 i8 i9 j1 j2 j3 j4 j5 j6 j7 r1 r2 r3 r4 tq:Pos}
theorem zbY (stk:X.stack=X.env::X.outer)(frm:X.env.frame=some X.env.locals)(hex:X.ex=[])(hr:Room k X.A)(hN:X.N=[a,c])(hac:a≠c)(hva:X.env.scope.names.lookup a=some .local)(hvc:X.env.scope.names.lookup c=some .local)
  (hn:n∉X.N) (hnl:X.env.kindOf n=some .local) (er:Errs X.K X.mg cx wx C W cs) (gc:Gl X cx) (gw:Gl X wx) (gv:Gl X "ValueError") (gi:Gl X "isinstance") (mv:X.mg "ValueError" = none) (mi:X.mg "isinstance" = none)
  (hT:QA X es ts) (hTs:∀ σ H Q,Q (cs.map V.ref) H->ts σ H Q) (hcs:cs.length<=100)
  {ol:Obj} {fl:FuncData} (hl:X.s₀.heap.get? l=some ol) (hlH:X.H₀ l=none) (hlf:l∉frs X.stack) (hld:ol.data = .func fl) {fr0:List Addr} (hfr0:∀ b∈frs X.stack,b∈fr0\/X.s₀.heap.objs.size<=b) (hA:zj0 X.prog X.w X.K X.mg X.base C k l fr0 X.s₀ X.H₀ QH)
  {D:Ends} (hD:∀ e p H',QH H'->H' e=none->e≠p->H' p=none->D.rt (.bl true) (upd (upd H' e (zde e C)) p (.tup (cs.map V.ref)))) {σ:St} (hσ:σ=[some (.ref l),none])
  (hda:(a==("__debug__" : Str))=false:=by decide) (hca:(a==("__classdict__" : Str))=false:=by decide) (hdc:(c==("__debug__" : Str))=false:=by decide) (hcc:(c==("__classdict__" : Str))=false:=by decide) (hdw:(wx==("__debug__" : Str))=false:=by decide) (hdx:(cx==("__debug__" : Str))=false:=by decide) (hdn:(n==("__debug__" : Str))=false:=by decide) :
  ∃ t,PSs X [.Assign [.Name c p1] (.Constant .none k1 p2) p3,
   .Try [.Expr (.Call (.Name a ap) [] [] cp) ep] [.ExceptHandler (some (.Name wx wp)) (some n) [.Assign [.Name c q1] (.Name n q2) q3] hp] [] [] tq,
   .If (.BoolOp .Or [.UnaryOp .Not (.Call (.Name "isinstance" i1) [.Name c i2,.Name cx i3] [] i4) i5,.UnaryOp .Not (.Call (.Name "isinstance" i6) [.Name c i7,.Name "ValueError" i8] [] i9) j1] j2) [.Return (some (.Constant (.bool false) k2 j3)) j4] [] j5,
   .Return (some (.UnaryOp .Not (.Call (.Name "isinstance" j6) [.Name c j7,.Tuple es k3 r1] [] r2) r3)) r4] t/\t D σ X.H₀:=by
 have hi:X.N[0]?=some a:=by rw [hN];rfl
 have hj:X.N[1]?=some c:=by rw [hN];rfl
 have nd:X.N.Nodup:=by rw [hN];simp [hac]
 have vc:∀ {p:Pos},QE X (.Name c p) (zgW 1):=qv 1 hj (.inl hvc) hdc hcc
 have gC:QE X (.Name cx i3) (tC (.ref C)):=zbg (v:=.ref C) gc ⟨_,rfl,er.mc⟩ hdx
 have gV:QE X (.Name "ValueError" i8) (tC (.ty "ValueError")):=zbf (v:=.ty "ValueError") gv mv (by decide +kernel) rfl
 have c1:QE X (.Call (.Name "isinstance" i1) [.Name c i2,.Name cx i3] [] i4) _:=z0 zdb gi mi PyProof.Rows.boot_isinstance (zp vc (zp gC zZ))
 have c2:QE X (.Call (.Name "isinstance" i6) [.Name c i7,.Name "ValueError" i8] [] i9) _:=z0 zdb gi mi PyProof.Rows.boot_isinstance (zp vc (zp gV zZ))
 have c3:QE X (.Call (.Name "isinstance" j6) [.Name c j7,.Tuple es k3 r1] [] r2) _:=z0 zei gi mi PyProof.Rows.boot_isinstance (zp vc (zp (zhw hT) zZ))
 have s1:QS X (.Assign [.Name c p1] (.Constant .none k1 p2) p3) _:=yE (i:=1) nd hj (.inl hvc) zhv (hf:=.inr hvc)
 have s2:QS X (.Try [.Expr (.Call (.Name a ap) [] [] cp) ep] [.ExceptHandler (some (.Name wx wp)) (some n) [.Assign [.Name c q1] (.Name n q2) q3] hp] [] [] tq) _:=⟨zlB (ia:=0) (ic:=1) stk frm hex hr hi (.inl hva) hj (.inl hvc) nd (.inr hvc) hn hnl er.ci er.wi er.mw gw er.sub hl hlH hlf hld hfr0 hA hda hca hdw hdn⟩
 refine ⟨_,(zr s1 (zr s2 (zr (zdV (zlR (zfk (zfl c1)) (zhz (zfk (zfl c2)))).pt (ye (xt zlK)) zaf) (ye (xt (zlM c3)))))).run,?_⟩
 subst hσ
 change X.H₀=X.H₀/\_/\_
 refine ⟨rfl,rfl,fun e H' hQ he=>?_⟩
 have e1:([some (V.ref l),none].set 1 (some V.non)).set 1 (some (V.ref e))=[some (V.ref l),some (V.ref e)]:=rfl
 rw [e1]
 have hx:upd H' e (zde e C) e=some (zde e C):=zh
 refine ⟨.ref e,rfl,e,C,.ref C,.ref C,true,rfl,fun u z=>z,hx,er.ci,er.own,true,rfl,?_⟩
 refine ⟨.ref e,rfl,e,C,.ty "ValueError",.type "ValueError",true,rfl,fun u z=>z,hx,er.ci,er.ve,true,rfl,?_⟩
 refine ⟨.ref e,rfl,hTs _ _ _ ⟨by rw [List.length_map];exact Nat.le_trans hcs (by decide),fun p hp=>?_⟩⟩
 have hpe:e≠p:=fun z=>by rw [<- z,hx] at hp;cases hp
 have hp':H' p=none:=by rw [zd hpe.symm] at hp;exact hp
 exact ⟨e,C,p,cs,false,rfl,zh,by rw [zd hpe];exact hx,er.ci,er.no,false,rfl,hD e p H' hQ he hpe hp'⟩
end
def zfR (P:Program)(w:World)(K:PySem.W.Frag)(mg:Str->Option Value)(base:Heap)(C:Addr)(cs:List Addr)(k:Nat)(f:Addr):Prop:=
 ∀ (A:Around) (outer:List Env) (s:Shared) (H:Hp) (l:Addr) (ol:Obj) (fl:FuncData) (QH:Hp->Prop) (Q:VK),Room (k+1) A->Env0 P w K mg base A outer s H->s.heap.get? l=some ol->ol.data = .func fl->H l=none->l∉frs outer->
  zj0 P w K mg base C k l (frs outer) s H QH->(∀ e p H',QH H'->H' e=none->e≠p->H' p=none->Q (.bl true) (upd (upd H' e (zde e C)) p (.tup (cs.map V.ref))))->
  codeAny (model P w) A (.call (.ref f) ⟨[.ref l],[]⟩) (CR CX0 outer P w H s Q E0) s
def nms (xs:List (Str×Pos)):List Expr:=xs.map fun x=>.Name x.1 x.2
theorem zdp {X:Cx}:∀ {xs:List (Str×Pos)} {cs:List Addr},xs.map (fun x=>X.mg x.1)=cs.map (fun c=>some (Value.ref c))->(∀ x∈xs,Gl X x.1/\(x.1==("__debug__" : Str))=false)->QA X (nms xs) (fun σ H Q=>Q (cs.map V.ref) H)
 | [],[],_,_=>⟨fun _ _ _ _ H Q I h=>Calls.spliced_nil ⟨[],H,I,.nil,h⟩⟩
 | (x,p)::xs,c::cs,h,g=>by
  rw [List.map_cons,List.map_cons,List.cons.injEq] at h
  obtain ⟨h1,h2⟩:=g (x,p) List.mem_cons_self
  exact ⟨(zp (zbg (v:=.ref c) h1 ⟨_,rfl,h.1⟩ h2) (zdp (cs:=cs) h.2 fun y hy=>g y (List.mem_cons_of_mem _ hy))).run⟩
section
variable {P:Program}{w:World}{K:PySem.W.Frag}{mg:Str->Option Value}{base:Heap}{C W f:Addr}{cs:List Addr}{x a c n cx wx:Str}{st:Stmt}{fd:FuncData}{k k1 k2 k3:Nat}{xs:List (Str×Pos)}
 {p1 p2 p3 ap cp ep wp q1 q2 q3 hp tp i1 i2 i3 i4 i5 i6 i7 i8 i9 j1 j2 j3 j4 j5 j6 j7 r1 r2 r3 r4 tq:Pos}
theorem zgQ (F:Fun K x x st f fd)(b:zca K fd [a] [])(S:FnScope [a,c] [a] (zc st))(hac:a≠c)(hva:(zc st).names.lookup a=some .local)(hvc:(zc st).names.lookup c=some .local)
  (hn:n∉[a,c]) (hnl:(zc st).names.lookup n=some .local) (er:Errs K mg cx wx C W cs) (g:∀ y∈[cx,wx,"ValueError","isinstance"],(zc st).names.lookup y=some .globalImplicit) (mv:mg "ValueError" = none) (mi:mg "isinstance" = none)
  (hx:xs.map (fun x=>mg x.1)=cs.map (fun c=>some (Value.ref c))) (gx:∀ x∈xs,(zc st).names.lookup x.1=some .globalImplicit/\(x.1==("__debug__" : Str))=false) (hcs:cs.length<=100)
  (hbd:zH st=[.Assign [.Name c p1] (.Constant .none k1 p2) p3,
   .Try [.Expr (.Call (.Name a ap) [] [] cp) ep] [.ExceptHandler (some (.Name wx wp)) (some n) [.Assign [.Name c q1] (.Name n q2) q3] hp] [] [] tq,
   .If (.BoolOp .Or [.UnaryOp .Not (.Call (.Name "isinstance" i1) [.Name c i2,.Name cx i3] [] i4) i5,.UnaryOp .Not (.Call (.Name "isinstance" i6) [.Name c i7,.Name "ValueError" i8] [] i9) j1] j2) [.Return (some (.Constant (.bool false) k2 j3)) j4] [] j5,
   .Return (some (.UnaryOp .Not (.Call (.Name "isinstance" j6) [.Name c j7,.Tuple (nms xs) k3 r1] [] r2) r3)) r4])
  (hda:(a==("__debug__" : Str))=false:=by decide) (hca:(a==("__classdict__" : Str))=false:=by decide) (hdc:(c==("__debug__" : Str))=false:=by decide) (hcc:(c==("__classdict__" : Str))=false:=by decide) (hdw:(wx==("__debug__" : Str))=false:=by decide) (hdx:(cx==("__debug__" : Str))=false:=by decide) (hdn:(n==("__debug__" : Str))=false:=by decide) :
  zfR P w K mg base C cs k f:=by
 intro A outer s H l ol fl QH Q hr e0 hl hld hlH hlf hA hQ
 obtain ⟨oc,od,kV,doc,pm,an,cdv,ct,osl,rfl,lk,hcd⟩:=F.ex
 have KX:K.In s.heap:=e0.mod.kin.keeps fun b o e=>(e0.bs b o e).1
 refine zkt (vs:=[.ref l]) (us:=[.ref l]) (E:=E0) (N:=[a,c]) lk hcd S rfl hr e0 (b s [.ref l] KX rfl) (.cons rfl .nil) fun hr'=>?_
 rw [hbd]
 refine zbY (X:=uP CX0 P w K mg base [a,c] x (zc st) f cdv A outer s H E0) (fr0:=frs outer) rfl rfl rfl hr' rfl hac hva hvc hn hnl er (g _ (by simp)) (g _ (by simp)) (g _ (by simp)) (g _ (by simp)) mv mi (zdp hx gx) (fun _ _ _ z=>z) hcs hl hlH ?_ hld ?_ hA (fun e p H' z1 z2 z3 z4=>hQ e p H' z1 z2 z3 z4) rfl hda hca hdc hcc hdw hdx hdn
 ·intro z
  rcases List.mem_cons.mp (show l∈s.heap.objs.size::frs outer from z) with z | z
  ·exact absurd (Heap.lt_size hl) (by rw [z];exact Nat.lt_irrefl _)
  ·exact hlf z
 ·intro b z
  rcases List.mem_cons.mp (show b∈s.heap.objs.size::frs outer from z) with z | z
  ·exact .inr (Nat.le_of_eq z.symm)
  ·exact .inl z
end
def zj5 (P:Addr)(q:Str)(H H1:Hp):Prop:=zd7 P q H1/\(∀ b o,b≠P->H b=some o->H1 b=some o)/\∀ ps,H1 P=some (kO P (PySem.W.tabObj ps))->∃ h:Heap,h.get? P=some (PySem.W.tabObj ps)
section
variable {X:Cx}{C P cc f:Addr}{cs:List Addr}{x:Str}{k:Nat}{p pos lpos:Pos}{params:Arguments}{body:Expr}{scope:Scope}{N:List Str}{cix:List (Option Nat)}
theorem zdS (stk:X.stack=X.env::X.outer)(hfn:∀ y,X.fn y=true)(R:zfR X.prog X.w X.K X.mg X.base C cs (k+1) f)(hr:Room (k+2) X.A)(hg:Gl X x)(hm:X.mg x=some (.ref f))(hk:PySem.W.keepIn X.K (.ref f)=true)
  (c:CompOk X scope N cix) (hco:scope.isCoroutine=false) (hgen:scope.isGenerator=false) (T:LamT X.K X.mg cc P) (hB:X.base.BuiltinsAt X.mg P) (hcode:X.env.code = .ref cc) (hdef:defaultsOf params X.env=([],[]))
  (hp:∀ cl pm c' ctv,bindArgs (PySem.W.kla_fn "<lambda>" (X.env.qual ++ "<lambda>") params body scope cl pm (.ref c') ctv) ⟨[],[]⟩=pure [])
  (hdb:(x==("__debug__" : Str))=false:=by decide) :
  PE X (.Call (.Name x p) [.Lambda params body scope lpos] [] pos) (fun σ H Q=>zd7 P (X.env.qual ++ "<lambda>") H/\∀ H1,zj5 P (X.env.qual ++ "<lambda>") H H1->∃ QH:Hp->Prop,(∀ (l c':Addr) (cl:List (Str×Addr)) (A:Around) (outer:List Env) (s:Shared),Room k (A.deeper (PySem.W.envX (X.env.qual ++ "<lambda>") scope s.heap.objs.size l (.ref c') cl))->
    ∃ t:TE,PE (zdG X.prog X.w X.K X.mg X.base N (X.env.qual ++ "<lambda>") scope l (.ref c') cl A outer s H1 C (fun _ _ H'=>QH H')) body t/\t (uw σ cix) H1 fun _ _=>False)/\
   ∀ e p H',QH H'->H' e=none->e≠p->H' p=none->Q (.bl true) (upd (upd H' e (zde e C)) p (.tup (cs.map V.ref)))):=by
 intro pins s σ H Q I h
 obtain ⟨tab,h⟩:=h
 refine wpAny_Call_Name_kw (za0 I hg hm ?_ hdb)
 refine PySem.W.callWith_K (h₀:=X.base) I.ok.mod.kin hk ?_ rfl rfl
 show wpAny _ _ (spliced ((false,eval (.Lambda params body scope lpos) X.env)::backTo pos (starEach [] X.env))) _ _ s
 have hcl:=c.cells I.ok
 have back:∀ x a,(zar X.env scope.names []).lookup x=some a->X.env.cells.lookup x=some a:=fun x a e=>by
  rcases yJ hcl e with z | z
  ·exact z
  ·simp at z
 refine Calls.spliced_cons (zgn I hdef (zaH hcl) hcode T hB tab fun l c' oc ctv H1 s' I1 hl hl0 hge hc' hoc tab1 keep1 free1 kp=>?_)
 obtain ⟨QH,ht,hQ⟩:=h H1 ⟨tab1,keep1,fun ps e=>⟨s'.heap,(I1.hok P _ e).1⟩⟩
 refine Calls.spliced_nil ⟨I1.kIn,?_⟩
 have hlf:l∉frs X.stack:=fun z=>by
  obtain ⟨_,o,ho,_⟩:=I.stack.mem z
  exact absurd (Heap.lt_size ho) (Nat.not_lt.mpr hge)
 have hcf:∀ y a,X.env.cells.lookup y=some a->a∉frs X.stack:=fun y a e z=>by
  rcases List.mem_cons.mp (I1.stkSub a z) with q | q
  ·exact I1.cne y a e q
  ·obtain ⟨_,o,ho,_⟩:=I1.ok.funs.mem q
   exact absurd (Heap.lt_size ho) (Nat.not_lt.mpr (I1.ok.cab y a (hfn y) e))
 have asks:zj0 X.prog X.w X.K X.mg X.base C (k+1) l (frs X.stack) s' H1 QH:=by
  refine zfS (N:=N) (σ:=uw σ cix) (QH:=QH) (hp _ _ _ _) c.kind hco hgen c.cell hl hl0 hlf hc' hoc (fun y z a e1 e2=>I1.ok.inj y z a (back y a e1) (back z a e2)) (fun y hy=>?_) (fun y a e=>⟨I1.cell y a (back y a e),I1.freeC y a (back y a e),hcf y a (back y a e)⟩) (fun j y v h1 h2 h3=>?_) ?_ (fun A outer s2 hr2=>ht l c' _ A outer s2 hr2)
  ·rcases hy with hy | hy
   ·exact absurd rfl (c.cell _ (PySem.mem_of_lookup hy))
   ·exact yB hy
  ·unfold uw at h2
   rw [List.getElem?_map] at h2
   cases e:cix[j]? with
   | none=>rw [e] at h2;cases h2
   | some o=>
    rw [e] at h2
    cases o with
    | none=>cases h2
    | some i=>
     have h2':(σ[i]?).join=some v:=Option.some.inj h2
     have h2'':σ[i]?=some (some v):=by
      cases q:σ[i]? with
      | none=>rw [q] at h2';cases h2'
      | some z=>rw [q] at h2';have:z=some v:=h2';rw [this]
     obtain ⟨q1,q2,q3⟩:=c.cap h1 e
     obtain ⟨m0,hn0,hl0⟩:=I1.loc
     obtain ⟨u,ru,hu⟩:=hl0 i y v q1 h2'' (q3.elim (fun z=>.inr (.inl z)) fun z=>.inr (.inr z))
     refine ⟨q2,u,?_⟩
     rcases hu with ⟨z,_⟩ | ⟨_,a,ha,hcell⟩
     ·have z':X.env.scope.names.lookup y=some .local:=z
      simp_all
     ·obtain ⟨a',ha'⟩:=yB (env:=X.env) (cs:=[]) q2
      have:a'=a:=by have:=(back y a' ha').symm.trans ha;exact Option.some.inj this
      subst this
      exact ⟨a',ru,ha',hcell⟩
  ·unfold uw
   rw [List.length_map,c.len]
 refine wpAny_call (codeAny_mono (R X.A X.stack s' H1 l _ _ QH Q hr I1.env0 hl rfl hl0 hlf asks hQ) fun r s2 hq=>?_)
 cases r with
 | error e=>exact False.elim hq
 | ok fl=>
  cases fl with
  | ret u=>exact I1.after hq
  | next=>exact False.elim hq
  | brk=>exact False.elim hq
  | cont=>exact False.elim hq
end
end L2
namespace L3
open PySem PySem.Spec L2
def spX (k:Nat)(F:List W->Prop):Sp:=fun vs H _ E=>∃ Pn A ws n,Al A H/\zaD A H ws vs/\ws.length=k/\yX Pn A n H/\F ws/\∀ v H',Go Pn A H n H'->E v none H'
structure JX (X:Cx)(E:XK)(Pn:PN)(M:List Nat)(sts:List Stmt)(f:Ev->Nat->Prop):Prop where
 ex:∃ t,QSs X sts t/\∀ A σ H ρ n D,EnvR A M σ H ρ->yX Pn A n H->f ρ n->(∀ v H',Go Pn A H n H'->E v none H')->t D σ H
section
variable {X:Cx}{E:XK}{Pn:PN}{M:List Nat}{C:Addr}{e c:Expr}{es:List Expr}{b yy:List Stmt}{p pos p1 p2 np cpos:Pos}{x m:Str}{j:Nat}
theorem znD {f:Ev->Mo Bool}(F:FrX C E X)(hh:X.A.handled=none)(xc:ExcC X.K X.mg x C)(hc:JT X Pn M c f)(hg:Gl X x:=by rfl)(hdb:(x==("__debug__" : Str))=false:=by decide) :
  JX X E Pn M (.If c [.Raise (some (.Call (.Name x np) [.Constant (.str m) j p1] [] cpos)) none pos] b p2::yy) (fun ρ n=>f ρ n fun b m=>b=true/\m=n):=by
 obtain ⟨tc,q,r⟩:=hc.ex
 refine ⟨_,zr (zdV q (ye ⟨zgI F hh xc hg hdb⟩) ⟨zab⟩) ⟨zab⟩,fun A σ H ρ n D E P hf k=>r.run A σ H ρ n _ _ E P hf ?_⟩
 rintro b m H' ⟨rfl,rfl⟩ g
 exact iteT (fun e=>k _ _ g)
theorem zix {st:Stmt}{ps:List Str}{fA:Addr}{fd:FuncData}{k:Nat}{Fp:List W->Prop}{j kk:Nat}{fs:Ev->Mo (List W)}(F:FrX C E X)(D:Dfn X.K X.mg x st ps fA fd)(G:FnOk X.prog X.w X.K X.mg X.base (CX1 X.prog X.w C) j fA fd ps (spX k Fp))(hr:Room kk X.A)
  (ha:JA X Pn M (e::es) fs) (hjk:j<=kk:=by decide) (hg:Gl X x:=by rfl) (hdb:(x==("__debug__" : Str))=false:=by decide) (he:starEach (e::es) X.env=(false,eval e X.env)::starEach es X.env:=by rfl) (hpl:(backTo pos (starEach es X.env)).any (·.1)=false:=by rfl)
  (hs:swapsWith (.Call (.Name x p) (e::es) [] pos) none p2.line X.env=pure false:=by rfl) :
  JX X E Pn M (.Expr (.Call (.Name x p) (e::es) [] pos) p2::yy) (fun ρ n=>fs ρ n fun ws m=>m=n/\ws.length=k/\Fp ws):=by
 obtain ⟨ta,qa,ra⟩:=ha.ex
 refine ⟨_,zr ⟨zfd (zcO G (hr.mono hjk) hg D.m D.F.kp D.b .nil F.pass qa.run hdb he hpl) hs⟩ ⟨zab⟩,fun A σ H ρ n D E P hf k=>?_⟩
 refine ra.run A σ H ρ n _ _ E P hf ?_
 rintro ws m vs H1 ⟨rfl,hk,hF⟩ b g
 rw [List.append_nil]
 exact ⟨Pn,A,ws,m,(E.stay g.st).al,b,hk,g.pn,hF,fun v H' g2=>k v H' (g.trans g2)⟩
end
theorem okX {P:Program}{w:World}{K:PySem.W.Frag}{mg:Str->Option Value}{base:Heap}{C:Addr}{x qual:Str}{st:Stmt}{f:Addr}{fd:FuncData}{N ps:List Str}{k m:Nat}{F:List W->Prop}(Fu:Fun K x qual st f fd)(S:FnScope N ps (zc st))(hm:m=ps.length)
  (hbody:∀ (cdv:Value) (A:Around) (outer:List Env) (s:Shared) (H:Hp) (E:XK) (Pn:PN),Room k (A.deeper (PyProof.Rows.envOfC qual (zc st) s.heap.objs.size f cdv))->
   ∃ fs,JX (uP (CX1 P w C) P w K mg base N qual (zc st) f cdv A outer s H E) E Pn [] (zH st) fs/\∀ ws n,ws.length=m->F ws->fs (xj N ws) n):FnOk P w K mg base (CX1 P w C) (k+1) f fd ps (spX m F):=by
 obtain ⟨oc,od,kV,doc,pm,an,cdv,ct,osl,rfl,lk,hcd⟩:=Fu.ex
 refine zhX lk hcd S (fun vs H Q E h=>?_) (fun A outer s H vs Q E hr h=>?_)
 ·obtain ⟨Pn,A,ws,n,_,hv,hl,_⟩:=h
  rw [hv.len,hl,hm]
 ·obtain ⟨Pn,A3,ws,n,al,hv,hl,hp,hF,q⟩:=h
  obtain ⟨fs,⟨t,qs,rs⟩,hfs⟩:=hbody cdv A outer s H E Pn hr
  exact ⟨t,qs.run,rs A3 (L2.yt N vs) H (xj N ws) n _ (zbD al hv (fun i hi=>by cases hi)) hp (hfs ws n hl hF) q⟩
theorem ze1 {P:Addr}{ob:Obj}(h:∃ h:Heap,h.get? P=some ob):¬ NP (kO P ob):=fun n=>by
 have:=n [(Sum.inr "at",.non)] (by unfold kO pnK;dsimp only;rw [if_pos ⟨P,ob,h,rfl⟩])
 cases this
def zd0 (P:Addr)(q:Str)(A:Addr->Prop)(H:Hp):Prop:=¬ A P/\∃ ps:Array Value,H P=some (kO P (PySem.W.tabObj ps))/\(∃ h:Heap,h.get? P=some (PySem.W.tabObj ps))/\TriplesOk ps.toList/\
 ∀ pos cv,codeAmong pos ps.toList=some cv->∃ c' oc,cv = .ref c'/\H c'=some (zbA oc)/\zc4 oc q/\¬ A c'
theorem zcE {oc:Obj}:¬ Mt (zbA oc):=fun z=>by cases z
theorem zd0.ch {P:Addr}{q:Str}{A A':Addr->Prop}{H H':Hp}(h:zd0 P q A H)(h1:¬ A P->(∃ ob,H P=some (kO P ob)/\∃ h:Heap,h.get? P=some ob)->¬ A' P/\H' P=H P)(h2:∀ c oc,¬ A c->H c=some (zbA oc)->¬ A' c/\H' c=H c):zd0 P q A' H':=by
 obtain ⟨n,ps,g1,g2,g3,g4⟩:=h
 obtain ⟨n',e⟩:=h1 n ⟨_,g1,g2⟩
 refine ⟨n',ps,by rw [e];exact g1,g2,g3,fun pos cv z=>?_⟩
 obtain ⟨c',oc,z1,z2,z3,z4⟩:=g4 pos cv z
 obtain ⟨y1,y2⟩:=h2 c' oc z4 z2
 exact ⟨c',oc,z1,by rw [y2];exact z2,z3,y1⟩
def zdX (P:Addr)(q:Str):Jv where
 K:=zd0 P q
 same:=fun h s=>h.ch (fun n ⟨ob,e,_⟩=>⟨n,by rw [s _ _ e,e]⟩) fun c oc n e=>⟨n,by rw [s _ _ e,e]⟩
 grow:=fun h g=>h.ch (fun n ⟨ob,e,w⟩=>⟨fun z=>(g _ z).elim n fun ⟨o,e1,e2,_⟩=>by rw [e] at e1;cases e1;exact ze1 w e2,rfl⟩) fun c oc n e=>⟨fun z=>(g _ z).elim n fun ⟨o,e1,_,e2⟩=>by rw [e] at e1;cases e1;exact zcE e2,rfl⟩
 upd:=fun h a=>h.ch (fun n _=>⟨n,zd fun z=>n (z ▸ a)⟩) fun c oc n e=>⟨n,zd fun z=>n (z ▸ a)⟩
 frz:=fun h e1 e2 e3=>h.ch (fun n ⟨ob,e,w⟩=>⟨n,zd fun z=>by subst z;rw [e] at e1;cases e1;exact ze1 w e2⟩) fun c oc n e=>⟨n,zd fun z=>by subst z;rw [e] at e1;cases e1;exact zcE e3⟩
theorem zd0.tab {P:Addr}{q:Str}{A:Addr->Prop}{H:Hp}(h:zd0 P q A H):zd7 P q H:=by
 obtain ⟨n,ps,g1,g2,g3,g4⟩:=h
 exact ⟨ps,g1,g3,fun pos cv z=>let ⟨c',oc,z1,z2,z3,_⟩:=g4 pos cv z;⟨c',oc,z1,z2,z3⟩⟩
theorem zd0.grown {P:Addr}{q:Str}{A:Addr->Prop}{H H1:Hp}(h:zd0 P q A H)(al:Al A H)(g:zj5 P q H H1):zd0 P q A H1/\zn H H1:=by
 obtain ⟨n,ps0,k1,k2,_⟩:=h
 obtain ⟨⟨ps,g1,g3,g4⟩,kp,wt⟩:=g
 refine ⟨⟨n,ps,g1,wt ps g1,g3,fun pos cv z=>?_⟩,fun b o e np=>kp b o (fun z=>?_) e⟩
 ·obtain ⟨c',oc,z1,z2,z3⟩:=g4 pos cv z
  refine ⟨c',oc,z1,z2,z3,fun y=>?_⟩
  obtain ⟨o,e1,_,e3⟩:=al c' y
  have:=kp c' o (fun z=>n (z ▸ y)) e1
  rw [z2] at this
  cases this
  exact zcE e3
 ·subst z
  rw [k1] at e
  cases e
  exact ze1 k2 np
section
variable {X:Cx}{Pn:PN}{M:List Nat}{C P cc f:Addr}{cs:List Addr}{x y:Str}{k kk m:Nat}{p pos lpos p1 p2:Pos}{params:Arguments}{e:Expr}{es:List Expr}{scope:Scope}{N:List Str}{cix:List (Option Nat)}
 {st:Stmt} {ps:List Str} {fA:Addr} {fd:FuncData} {Fp:List W->Prop} {fs:Ev->Mo (List W)} {j:Nat}
def mRef (Pn:PN)(P:Addr)(q:Str)(m:Nat)(Fp:List W->Prop)(cix:List (Option Nat))(fs:Ev->Mo (List W)):Ev->Mo W:=fun ρ n Q=>Pn.J=zdX P q/\(fs (zdD ρ cix) n fun ws m'=>m'=n/\ws.length=m/\Fp ws)/\Q (.d (.bl true)) n
theorem zeM (stk:X.stack=X.env::X.outer)(hfn:∀ y,X.fn y=true)(R:zfR X.prog X.w X.K X.mg X.base C cs (k+1) f)(hr:Room kk X.A)(hkk:k+2<=kk)(hm:X.mg x=some (.ref f))(hk:PySem.W.keepIn X.K (.ref f)=true)
  (c:CompOk X scope N cix) (hnd:(cix.filterMap id).Nodup) (hco:scope.isCoroutine=false) (hgen:scope.isGenerator=false) (T:LamT X.K X.mg cc P) (hB:X.base.BuiltinsAt X.mg P) (hcode:X.env.code = .ref cc) (hdef:defaultsOf params X.env=([],[]))
  (hp:∀ cl pm c' ctv,bindArgs (PySem.W.kla_fn "<lambda>" (X.env.qual ++ "<lambda>") params (.Call (.Name y p1) (e::es) [] p2) scope cl pm (.ref c') ctv) ⟨[],[]⟩=pure [])
  (D:Dfn X.K X.mg y st ps fA fd) (G:FnOk X.prog X.w X.K X.mg X.base (CX1 X.prog X.w C) j fA fd ps (spX m Fp)) (hjk:j<=k) (hgy:scope.names.lookup y=some .globalImplicit)
  (ha:∀ (l c':Addr) (cl:List (Str×Addr)) (QH:Hp->Prop) (A:Around) (outer:List Env) (s:Shared) (H:Hp),Room k (A.deeper (PySem.W.envX (X.env.qual ++ "<lambda>") scope s.heap.objs.size l (.ref c') cl))->
   JA (zdG X.prog X.w X.K X.mg X.base N (X.env.qual ++ "<lambda>") scope l (.ref c') cl A outer s H C (fun _ _ H'=>QH H')) Pn (xL M cix) (e::es) fs)
  (hg:Gl X x:=by rfl) (hdb:(x==("__debug__" : Str))=false:=by decide) (hdy:(y==("__debug__" : Str))=false:=by decide)
  (he:∀ env,starEach (e::es) env=(false,eval e env)::starEach es env:=by intro _;rfl) (hpl:∀ env,(backTo p2 (starEach es env)).any (·.1)=false:=by intro _;rfl) :
  JE X Pn M false (.Call (.Name x p) [.Lambda params (.Call (.Name y p1) (e::es) [] p2) scope lpos] [] pos) (mRef Pn P (X.env.qual ++ "<lambda>") m Fp cix fs):=by
 refine ⟨_,⟨zdS (k:=k) (cs:=cs) (N:=N) (cix:=cix) (P:=P) stk hfn R (hr.mono hkk) hg hm hk c hco hgen T hB hcode hdef hp hdb⟩,⟨fun A σ H ρ n Q R E Pp hf kq=>?_⟩⟩
 obtain ⟨hJ,hf,hR⟩:=hf
 have tj:zd0 P (X.env.qual ++ "<lambda>") A H:=by have:=Pp.2;rw [hJ] at this;exact this
 refine ⟨tj.tab,fun H1 g=>?_⟩
 obtain ⟨tj1,st1⟩:=tj.grown E.al g
 have E1:=E.stay st1
 have P1:yX Pn A n H1:=by
  refine ⟨?_,by rw [hJ];exact tj1⟩
  have:=Pp.1
  split at this
  ·trivial
  ·obtain ⟨_,ps0,k1,_⟩:=tj
   obtain ⟨⟨⟨a,l,h1,h2,h3,h4⟩,⟨ob,h5⟩,h6⟩,h7⟩:=this
   exact ⟨⟨⟨a,l,g.2.1 _ _ (fun z=>by rw [z,k1] at h1;cases h1) h1,h2,h3,h4⟩,⟨ob,g.2.1 _ _ (fun z=>by rw [z,k1] at h5;cases h5) h5⟩,h6⟩,h7⟩
 refine ⟨fun H'=>Go Pn A H1 n H',fun l c' cl A' outer s hr'=>?_,fun e p H' g2 z1 z2 z3=>?_⟩
 ·obtain ⟨ta,qa,ra⟩:=(ha l c' cl (fun H'=>Go Pn A H1 n H') A' outer s H1 hr').ex
  refine ⟨_,zcO (E:=fun _ _ H'=>Go Pn A H1 n H') G (hr'.mono hjk) hgy D.m D.F.kp D.b .nil zh1.pass qa.run hdy (he _) (hpl _),?_⟩
  refine ra.run A _ H1 _ n _ _ (E1.cap hnd) P1 hf ?_
  rintro ws m' vs H2 ⟨rfl,hk2,hF⟩ b g3
  rw [List.append_nil]
  exact ⟨Pn,A,ws,m',((E1.stay g3.st)).al,b,hk2,g3.pn,hF,fun v H' g4=>g3.trans g4⟩
 ·have s1:yk H' (upd H' e (zde e C)):=yk.upd z1
  have s2:yk (upd H' e (zde e C)) (upd (upd H' e (zde e C)) p (.tup (cs.map V.ref))):=yk.upd (by rw [zd z2.symm];exact z3)
  have g5:Go Pn A H1 n (upd (upd H' e (zde e C)) p (.tup (cs.map V.ref))):=(g2.trans (Go.same g2.pn s1)).trans (Go.same ((Go.same g2.pn s1).pn) s2)
  exact kq _ n _ _ hR (Val.of rfl) ⟨st1.trans g5.st,g5.pn⟩ fun z=>by cases z
end
end L3
namespace L2
open PySem PySem.Spec PyProof.Rows
def zfQ (T:Addr)(H:Hp):Prop:=(∀ b,b≠T->H b=none\/∃ o xs,H b=some (.frz o (.lst xs)))/\H T=some (kO T (PySem.W.tabObj #[]))/\∃ h:Heap,h.get? T=some (PySem.W.tabObj #[])
theorem zeR {P:Program}{w:World}{K:PySem.W.Frag}{mg mb:Str->Option Value}{CX:CXT}{k:Nat}{fa a T:Addr}{fd:FuncData}{x:Str}{sp:Sp}{s₁:Shared}{vs:List Value}{ns:List Int}
  (KX:K.In s₁.heap) (hT:s₁.heap.get? T=some (PySem.W.tabObj #[])) (hKT:K.lookup T=none) (hct:isCodeTable s₁.heap T) (hns:s₁.heap.Ns mainGlobals mg) (hb:s₁.heap.Ns builtinsNs mb) (hbb:∀ x:Str,x ≠ "__name__" -> mb x=bootBuiltins x) (hlim:s₁.heap.NoLimit) (hg:s₁.gens = #[])
  (ha:s₁.heap.get? a=some { cls:=.type "list",data:=.seq vs.toArray }) (hi:IntsAre vs ns) (hl:ns.length<=sizeLine) (hr:Room k callerA)
  (hbm:s₁.heap.BuiltinsAt mg T) (F:∀ base:Heap,K.In base->base.Ns mainGlobals mg->base.BuiltinsAt mg T->FnOk P w K mg base CX k fa fd [x] sp) (hbind:∀ (s:Shared) (u:Value),BindsTo s fd ⟨[u],[]⟩ [(x,u)])
  (hsp:∀ H:Hp,zfQ T H->SqL K H a (ns.map V.int)->sp [.ref a] H (fun v H'=>v = .bl true/\∃ ps,H' T=some (kO T (PySem.W.tabObj ps))) fun _ _ _=>False)
  (hCX:∀ H e s',CX [] H s₁ (fun _ _ _=>False) e s'->False) :
  codeAny (model P w) callerA (.call (.ref fa) ⟨[.ref a],[]⟩) (fun r s'=>r = .ok (.ret (.bool true))/\OldK s₁.heap s'.heap/\s'.os=s₁.os/\AllBare s'.gens) s₁:=by
 have rv:=zb7 hi
 have lenV:=hi.length
 have haT:a≠T:=fun z=>by rw [z,hT] at ha;cases ha
 have core:∀ H:Hp,zfQ T H->SqL K H a (ns.map V.int)->HOk P w H s₁.heap->(∀ b,H b≠none->b=a\/b=T)->(H a≠none->K.lookup a=none)->
   codeAny (model P w) callerA (.call (.ref fa) ⟨[.ref a],[]⟩) (fun r s'=>r = .ok (.ret (.bool true))/\OldK s₁.heap s'.heap/\s'.os=s₁.os/\AllBare s'.gens) s₁:=by
  intro H hO hS hok hA hK
  have base_of:∀ {b:Addr} {o:Obj},s₁.heap.get? b=some o->H b=none->(zfN s₁.heap H).get? b=some o:=fun e n=>zgc e n
  have noA:∀ {b:Addr} {o:Obj} {es:Array DictEntry} {ep:Nat},s₁.heap.get? b=some o->o.data = .dict es ep->H b=none:=fun {b o es ep} e d=>by
   cases q:H b with
   | none=>rfl
   | some u=>
    rcases hA b (by rw [q];simp) with z | z
    ·rw [z,ha] at e;cases e;cases d
    ·rw [z,hT] at e;cases e;cases d
  have nsK:∀ {b:Addr} {m:Str->Option Value},s₁.heap.Ns b m->(zfN s₁.heap H).Ns b m:=fun {b m} ⟨o,es,ep,e,d,r⟩=>⟨o,es,ep,base_of e (noA e d),d,r⟩
  have hKb:K.In (zfN s₁.heap H):=fun b o e=>base_of (KX b o e) (by
   cases q:H b with
   | none=>rfl
   | some u=>
    rcases hA b (by rw [q];simp) with z | z
    ·have:=hK (by rw [<- z,q];simp);rw [z,this] at e;cases e
    ·rw [z,hKT] at e;cases e)
  have hM:Mod K mg (zfN s₁.heap H):=⟨hKb,nsK hns,⟨mb,nsK hb,hbb⟩,let ⟨mc,h1,h2⟩:=hlim;⟨mc,nsK h1,h2⟩⟩
  have e0:Env0 P w K mg (zfN s₁.heap H) callerA [] s₁ H:=⟨rfl,hM,fun b o e=>ziQ e,Nat.le_of_eq (zeD _ _),trivial,fun b hb=>absurd (show b∈([]:List Addr) from hb) (by simp),hok,.of_eq hg⟩
  have hB:(zfN s₁.heap H).BuiltinsAt mg T:=by
   obtain ⟨bm,o,b1,b2,b3,b4,b5,b6,b7,b8⟩:=hbm
   refine ⟨bm,o,b1,b2,b3,b4,base_of b5 ?_,b6,b7,b8⟩
   cases q:H bm with
   | none=>rfl
   | some u=>
    rcases hA bm (by rw [q];simp) with z | z
    ·rw [z,ha] at b5;cases b5;cases b8
    ·exact absurd z b4
  refine codeAny_mono ((F _ hKb (nsK hns) hB).run callerA [] s₁ H ⟨[.ref a],[]⟩ [.ref a] [.ref a] _ _ hr e0 (hbind s₁ (.ref a)) (.cons rfl .nil) (hsp H hO hS)) fun r s' h=>?_
  cases r with
  | error e=>exact (hCX H e s' h).elim
  | ok fl=>
   cases fl with
   | next=>exact False.elim h
   | brk=>exact False.elim h
   | cont=>exact False.elim h
   | ret u=>
    obtain ⟨v,H',os,bare,un,hok',r',q⟩:=h
    obtain ⟨q',ps,hps⟩:v = .bl true/\∃ ps,H' T=some (kO T (PySem.W.tabObj ps)):=q
    subst q'
    obtain rfl:u=Value.bool true:=r'
    have gT:s'.heap.get? T=some (PySem.W.tabObj ps):=(hok' T _ hps).1
    have keep:∀ b o,b≠T->s₁.heap.get? b=some o->s'.heap.get? b=some o:=fun b o hb e=>by
     cases q:H b with
     | none=>exact un.keep b o e q (by intro z;exact absurd (show b∈([]:List Addr) from z) (by simp)) (by simp)
     | some u=>
      rcases hO.1 b hb with z | ⟨ob,xs,z⟩
      ·rw [z] at q;cases q
      ·have z2:=un.frzs b ob _ z
       obtain ⟨e1,_⟩:=hok b _ z
       obtain ⟨e2,_⟩:=hok' b _ z2
       grind
    refine ⟨rfl,⟨fun b o e=>?_,fun b o e=>?_⟩,os,bare⟩
    ·by_cases hb:b=T
     ·subst hb
      rw [hT] at e
      cases e
      exact .inr (.inl ⟨hct,rfl,#[],ps,rfl,by rw [gT,Array.empty_append]⟩)
     ·exact .inl (keep b o hb e)
    ·by_cases hb:b=T
     ·exact ⟨_,by rw [hb];exact gT⟩
     ·exact ⟨_,keep b o hb e⟩
 have okT:∀ H:Hp,zG P w H s₁.heap T (kO T (PySem.W.tabObj #[])):=fun H=>⟨hT,⟨_,hT⟩,fun h1 h2 p k=>k _ p⟩
 cases hk:K.lookup a with
 | some o=>
  have e:=KX a o hk
  rw [ha] at e
  cases e
  refine core (fun b=>if b=T then some (kO T (PySem.W.tabObj #[])) else none) ⟨fun b hb=>.inl (if_neg hb),if_pos rfl,_,hT⟩ (.inr ⟨_,vs.toArray,_,hk,rfl,rfl,rfl,by simp_all,by simpa using rv⟩) (fun b u z=>?_) (fun b z=>?_) fun z=>absurd (if_neg haT) z
  ·by_cases hb:b=T
   ·have z':=(if_pos hb).symm.trans z
    cases z'
    subst hb
    exact okT _
   ·simp_all
  ·by_cases hb:b=T
   ·exact .inr hb
   ·exact absurd (if_neg hb) z
 | none=>
  refine core (fun b=>if b=a then some (.frz { cls:=.type "list",data:=.seq vs.toArray } (.lst (ns.map V.int))) else if b=T then some (kO T (PySem.W.tabObj #[])) else none) ⟨fun b hb=>?_,?_,_,hT⟩ (.inl (.inr ⟨{ cls:=.type "list",data:=.seq vs.toArray },if_pos rfl⟩)) (fun b u z=>?_) (fun b z=>?_) fun _=>hk
  ·by_cases hb2:b=a
   ·exact .inr ⟨_,_,if_pos hb2⟩
   ·exact .inl (by show (if b=a then _ else _)=none;rw [if_neg hb2,if_neg hb])
  ·show (if T=a then _ else _)=some _
   rw [if_neg haT.symm,if_pos rfl]
  ·by_cases hb:b=a
   ·have z':=(if_pos hb).symm.trans z
    cases z'
    subst hb
    exact ⟨ha,by simp_all,vs,_,rv,ha⟩
   ·have z':(if b=T then some (kO T (PySem.W.tabObj #[])) else none)=some u:=(if_neg hb).symm.trans z
    by_cases hb2:b=T
    ·rw [if_pos hb2] at z'
     cases z'
     subst hb2
     exact okT _
    ·rw [if_neg hb2] at z';cases z'
  ·by_cases hb:b=a
   ·exact .inl hb
   ·by_cases hb2:b=T
    ·exact .inr hb2
    ·exact absurd (show (if b=a then _ else _)=none by rw [if_neg hb,if_neg hb2]) z
theorem zgY {l:PySem.W.OpenLaw}{n k:Nat}{q:Program}{loose:List Str}{XP:(Str->Option Value)->Heap->Prop}{YP:World->Heap->Prop}{d:DefRec}{K:Params->PySem.W.Frag}{CX:World->CXT}{sp:World->Sp}{x:Str}{T:Addr}
  (hn:l.most=some n) (hn2:n<=sizeLine) (hdf:d.params.defaults=[]) (hr:Room k callerA)
  (hY:∀ (w:World) (h:Heap),YP w h->(K w.params).In h/\h.get? T=some (PySem.W.tabObj #[])) (hKT:∀ w:World,(K w.params).lookup T=none)
  (F:∀ (w:World) (mg:Str->Option Value) (fa:Addr) (h:Heap),(K w.params).In h->h.Ns mainGlobals mg->mg d.name=some (.ref fa)->
   ∃ fd:FuncData,(∀ (s:Shared) (u:Value),BindsTo s fd ⟨[u],[]⟩ [(x,u)])/\(∀ h:Heap,(K w.params).In h->∃ c,PySem.W.CodeHd h c T)/\
    ∀ base:Heap,(K w.params).In base->base.Ns mainGlobals mg->base.BuiltinsAt mg T->FnOk l.prog w (K w.params) mg base (CX w) k fa fd [x] (sp w))
  (hsp:∀ (w:World) (H:Hp) (a:Addr) (ns:List Int),ns.length<=n->zfQ T H->SqL (K w.params) H a (ns.map V.int)->sp w [.ref a] H (fun v H'=>v = .bl true/\∃ ps,H' T=some (kO T (PySem.W.tabObj ps))) fun _ _ _=>False)
  (hCX:∀ (w:World) (H:Hp) (s:Shared) (e:Value) (s':Shared),CX w [] H s (fun _ _ _=>False) e s'->False) :
  PySem.W.WalkO q loose XP YP l.row.toRowW d [] (fun f vs=>PySem.call f vs):=by
 refine Att.attach_call hn hdf fun w s₀ s₁ mg mb fa o pm cd doc a vs ns G Y ho hd hcd hmg hobj hints hlen hg=>?_
 obtain ⟨KX,hT⟩:=hY w _ Y
 obtain ⟨fd,hb,hC,hF⟩:=F w mg fa _ KX G.T.g hmg
 obtain ⟨c,hC⟩:=hC _ KX
 have hbm:s₁.heap.BuiltinsAt mg T:=by
  obtain ⟨bm,ob,b1,b2,b3,b4,b5,b6⟩:=G.T.bmain
  refine ⟨bm,ob,b1,b2,fun z=>?_,fun z=>?_,b3,b4,b5,b6⟩
  ·obtain ⟨o,es,ep,e,hd,_⟩:=G.T.g
   rw [<- z,b3] at e;cases e;rw [b6] at hd;cases hd
  ·rw [z,hT] at b3;cases b3;cases b4
 exact zeR KX hT (hKT w) (hC.tab hT).isCodeTable G.T.g G.T.b G.T.builtins G.T.nolimit hg hobj hints (Nat.le_trans hlen hn2) hr hbm hF hb (fun H hO hS=>hsp w H a ns hlen hO hS) fun H e s'=>hCX w H s₁ e s'
def zb4 (K:PySem.W.Frag)(T:Addr):Sp:=fun vs H Q _=>∃ (a:Addr) (ns:List Int),vs=[.ref a]/\SqL K H a (ns.map V.int)/\ns.length<=63/\zfQ T H/\∀ H',(∃ ps,H' T=some (kO T (PySem.W.tabObj ps)))->Q (.bl true) H'
end L2
namespace L3
open PySem PySem.Spec L2
theorem zkX {P:Program}{w:World}{K:PySem.W.Frag}{mg:Str->Option Value}{base:Heap}{x qual:Str}{st:Stmt}{f T:Addr}{fd:FuncData}{N ps:List Str}{k r:Nat}{S:List Nat}{lq:Str}(M:List Nat)(Fu:Fun K x qual st f fd)(Sc:FnScope N ps (zc st))(hps:ps.length=1)(hN:N.length=r+2)(hM:∀ i∈M,2<=i)
  (hbody:∀ (cdv:Value) (A:Around) (outer:List Env) (s:Shared) (H:Hp) (E:XK) (Pn:PN),Room k (A.deeper (PyProof.Rows.envOfC qual (zc st) s.heap.objs.size f cdv))->fd.code=cdv->
   ∃ s1 yy fs,zH st=s1::yy/\QS (uP CX0 P w K mg base N qual (zc st) f cdv A outer s H E).nox s1 (zd2 (zc1 (zgU K) [] E0 (zc2 (zgW 0) zjZ)) (uy 1))/\
    JSs (uP CX0 P w K mg base N qual (zc st) f cdv A outer s H E).nox Pn S M false yy fs/\∀ p c ns,Pn=⟨some (p,c,ns),zdX T lq⟩->fs (none::some (.pen p)::List.replicate r none) 0 { nx:=fun _ _=>False,rt:=fun w _=>w = .d (.bl true) }):FnOk P w K mg base CX0 (k+1) f fd ps (zb4 K T):=by
 obtain ⟨oc,od,kV,doc,pm,an,cdv,ct,osl,rfl,lk,hcd⟩:=Fu.ex
 refine zhX lk hcd Sc (fun vs H Q E h=>?_) (fun A outer s H vs Q E hr h=>?_)
 ·obtain ⟨a,ns,rfl,_⟩:=h
  exact hps.symm
 ·obtain ⟨a,ns,rfl,hS,hl,hO,q⟩:=h
  suffices hh:∃ t,QSs (uP CX0 P w K mg base N qual (zc st) f cdv A outer s H E).nox (zH st) t/\t { nx:=fun _ H'=>Q .non H',rt:=Q } (L2.yt N [.ref a]) H by
   obtain ⟨t,h1,h2⟩:=hh
   exact ⟨t,h1.run.nox,h2⟩
  have ctx:=fun (Pn:PN)=>hbody cdv A outer s H E Pn hr rfl
  have hN1:L2.yt N [.ref a]=some (.ref a)::none::List.replicate r none:=by
   unfold L2.yt
   rw [hN]
   rfl
  have hd:∃ s1 yy,zH st=s1::yy:=let ⟨s1,yy,_,e,_⟩:=ctx ⟨none,zdX T lq⟩;⟨s1,yy,e⟩
  obtain ⟨s1,yy,e0⟩:=hd
  rw [e0]
  have c2:∀ Pn,∃ fs,JSs (uP CX0 P w K mg base N qual (zc st) f cdv A outer s H E).nox Pn S M false yy fs/\∀ p c ns,Pn=⟨some (p,c,ns),zdX T lq⟩->fs (none::some (.pen p)::List.replicate r none) 0 { nx:=fun _ _=>False,rt:=fun w _=>w = .d (.bl true) }:=fun Pn=>by
   obtain ⟨s1',rest',fs,e,_,h1,h2⟩:=ctx Pn
   rw [e0] at e
   cases e
   exact ⟨fs,h1,h2⟩
  have q1:QS (uP CX0 P w K mg base N qual (zc st) f cdv A outer s H E).nox s1 (zd2 (zc1 (zgU K) [] E0 (zc2 (zgW 0) zjZ)) (uy 1)):=by
   obtain ⟨s1',rest',fs,e,h0,_⟩:=ctx ⟨none,zdX T lq⟩
   simp_all
  refine ⟨_,zr q1 (u:=fun D σ H=>∃ Pn,(c2 Pn).choose_spec.1.ex.choose D σ H) ⟨fun pins s' σ H D I ⟨Pn,z⟩=>(c2 Pn).choose_spec.1.ex.choose_spec.1.run pins s' σ H D I z⟩,?_⟩
  refine ⟨.ref a,by rw [hN1];rfl,a,ns,rfl,hS,hl,fun p c H1 P1 S1=>⟨⟨some (p,c,ns),zdX T lq⟩,?_⟩⟩
  have hs:=(c2 ⟨some (p,c,ns),zdX T lq⟩).choose_spec.2 p c ns rfl
  have e1:(L2.yt N [.ref a]).set 1 (some (.ref p))=some (.ref a)::some (.ref p)::List.replicate r none:=by rw [hN1];rfl
  rw [e1]
  have hnone:∀ i (u:W),(none::some (.pen p)::List.replicate r none:Ev)[i]?=some (some u)->i=1/\u = .pen p:=fun i u e=>by
   match i,e with
   | 0,e=>simp at e
   | 1,e=>exact ⟨rfl,by simpa using e.symm⟩
   | i+2,e=>
    simp only [List.getElem?_cons_succ] at e
    obtain ⟨_,q⟩:=List.getElem?_eq_some_iff.mp e
    simp_all
  have tj:zd0 T lq (fun _=>False) H1:=⟨fun z=>z,#[],S1 _ _ hO.2.1,hO.2.2,trivial,fun pos cv z=>by cases z⟩
  refine (c2 ⟨some (p,c,ns),zdX T lq⟩).choose_spec.1.ex.choose_spec.2.run { A0:=fun _=>False,H0:=fun _=>none,G0:=fun _=>none,σ0:=some (.ref a)::some (.ref p)::List.replicate r none } (fun _=>False) _ H1 _ 0 _ _ ⟨⟨?_,?_,?_,fun _ z=>z.elim⟩,⟨fun _ z=>z,fun _ z=>z.elim,(fun b o (z:(none:Option HO)=some o)=>nomatch z),fun _ z=>z.elim,fun _ z=>z.elim,fun _ z=>z.elim⟩,⟨⟨P1,fun z=>z,fun z=>z⟩,tj⟩,(fun b o (z:(none:Option HO)=some o)=>nomatch z),⟨fun i hi=>rfl,fun _=>⟨fun b xs (z:(none:Option HO)=some (.lst xs))=>(nomatch z),fun b xs (z:(none:Option HO)=some (.lst xs))=>(nomatch z)⟩⟩,?_⟩ ⟨?_,?_,?_,fun _ z=>z,?_⟩ hs
  ·simp
  ·intro i u e
   obtain ⟨rfl,rfl⟩:=hnone i u e
   exact ⟨.ref p,rfl,fun _=>rfl,fun z=>absurd (hM 1 z) (by lia)⟩
  ·intro i j u u' b hi hj hne e1
   obtain ⟨rfl,rfl⟩:=hnone i u e1
   exact absurd (hM 1 hi) (by lia)
  ·intro i u b hi e
   obtain ⟨rfl,rfl⟩:=hnone i u e
   exact absurd (hM 1 hi) (by lia)
  ·intro _ _ _ _ _ _ z;exact z.elim
  ·intro _ _ _ _ _ _ z;exact z.elim
  ·intro _ _ _ _ _ _ z;exact z.elim
  ·intro w n' v H' hv st pn _ r
   have r':w = .d (.bl true):=r
   subst r'
   have:v = .bl true:=hv
   subst this
   obtain ⟨_,ps,h1,_⟩:=pn.2
   exact q H' ⟨ps,h1⟩
end L3
namespace L2
open PySem PySem.Spec PyProof.Rows
def zhD:Sp:=fun vs H Q _=>∃ (p c:Addr) (ns:List Int) (n:Nat) (zE:Int),vs=[.ref p,.int zE]/\Pen H p c ns n/\n<=1000000/\1<=zE/\zE<1073741824/\
 ∀ (r:Int) (H':Hp),0<=r->r<zE->Pen H' p c ns (n+1)->(∀ b o,b≠p->H b=some o->H' b=some o)->Q (.int r) H'
theorem zcg {H:Hp}{p:Addr}{o:HO}:∀ b u,b≠p->H b=some u->upd H p o b=some u:=fun b u hb e=>by rw [zd hb];exact e
section
variable {X:Cx}
theorem zfV (hc:X.calm=true):zaS X (.builtin "any") (fun xs H Q=>∃ (p:Addr) (bs:List Bool),xs=[.ref p]/\H p=some (.lst (bs.map V.bl))/\Q (.bl (bs.any id)) H):=by
 intro pins s σ H xs us Q I r h
 obtain ⟨p,bs,rfl,hp,q⟩:=h
 obtain ⟨u,rfl,ru⟩:=zb6 r
 cases ru
 obtain ⟨its,rv,pl,hz⟩:=I.list (.of hp)
 have hlen:=rv.length
 rw [List.length_map] at hlen
 have W:Walks X.prog X.w X.A.in1 s.heap.objs.size [s.heap.objs.size,p] [s.heap.objs.size] its.toArray.size (fun i v=>its.toArray[i]?=some v) (fun i h=>h.IsListIter s.heap.objs.size p i/\h.IsList p its.toArray):=by
  refine Walks.list (A:=X.A.in1) (I.ok.hd hc) s.heap.objs.size p ?_ its.toArray
  obtain ⟨o,_,ho,_⟩:=pl
  exact Nat.ne_of_lt (Heap.lt_size ho)
 refine call_any_walk (wpAny_pyIter_list pl.isList ⟨s.heap.objs.size,_,_,_,_,_,fun i=>bs.getD i false,rfl,W,⟨?_,?_⟩,?_,?_⟩)
 ·exact ⟨_,Heap.get?_push_size _ rfl,rfl,rfl⟩
 ·exact pl.isList.at fun o e=>Heap.get?_push_of_some _ e
 ·intro i v s' Q' E' hP hQ
  have hP':its[i]?=some v:=by simpa using hP
  have hi:i<bs.length:=by
   grind
  have hb:(bs.map V.bl)[i]?=some (V.bl bs[i]):=by simp [hi]
  obtain ⟨u',hu',rb⟩:=rv.get hb
  rw [hP'] at hu'
  cases hu'
  cases rb
  have:bs.getD i false=bs[i]:=by simp [hi]
  dsimp only at hQ
  rw [this] at hQ
  exact wpAny_truthy_bool hQ
 ·intro h' tk hk
  have e:(List.range its.toArray.size).any (fun i=>bs.getD i false)=bs.any id:=by
   rw [List.size_toArray,<- hlen]
   exact zfq
  rw [e]
  exact ⟨.bl _,H,I.kept (t':=tk) fun b o eb=>hk b o (by simp;exact Nat.ne_of_lt (Heap.lt_size eb)) (Heap.get?_push_of_some _ eb),rfl,q⟩
theorem zke (hc:X.calm=true):CallQ X (.builtin "any") (fun xs H Q=>∃ (p:Addr) (bs:List Bool),xs=[.ref p]/\H p=some (.lst (bs.map V.bl))/\Q (.bl (bs.any id)) H):=⟨zfV hc⟩
end
end L2
namespace L3
open PySem L2
def PenJ (J:Jv):Prop:=∀ A H H' p c a l,J.K A H->H p=some (.dK (xT c a l))->(∀ b o,b≠p->H b=some o->H' b=some o)->J.K A H'
theorem zgD {P:Addr}{q:Str}:PenJ (zdX P q):=fun A H H' p c a l h hp k=>zd0.ch h (fun n ⟨ob,e,_⟩=>⟨n,by rw [k _ _ (fun z=>by rw [z,hp] at e;cases e) e,e]⟩) fun c oc n e=>⟨n,by rw [k _ _ (fun z=>by rw [z,hp] at e;cases e) e,e]⟩
def IsQ (Pn:PN)(p:Addr):Prop:=(∃ c ns,Pn.pn=some (p,c,ns))/\PenJ Pn.J
def zd4:FV:=fun Pn ws n R=>∃ p zE,IsQ Pn p/\ws=[.pen p,.d (.int zE)]/\n<=1000000/\1<=zE/\zE<1073741824/\∀ r,0<=r->r<zE->R (.d (.int r)) (n+1)
theorem zeT:zmC 2 false zd4 zhD:=by
 rintro vs H Q E ⟨Pn,A,ws,n,R,al,hv,hl,hp,⟨p,zE,⟨⟨c,ns,hPn⟩,hJ⟩,rfl,h1,h2,h3,h4⟩,q⟩
 obtain ⟨v,y,rfl,b1,b2⟩:=zoN hv
 have e1:v = .ref p:=b1
 have e2:y = .int zE:=b2
 subst e1 e2
 obtain ⟨hp1,hp2⟩:=hp
 rw [hPn] at hp1
 obtain ⟨P1,nc,np⟩:=hp1
 obtain ⟨a,l,g1,_⟩:=P1.ob
 refine ⟨p,c,ns,n,zE,rfl,P1,h1,h2,h3,fun r H' r0 r1 P' S'=>q _ (n+1) _ H' (h4 r r0 r1) (Val.of rfl) ⟨fun b o e n'=>S' b o (fun z=>?_) e,⟨?_,hJ _ _ _ _ _ _ _ hp2 g1 S'⟩⟩ fun z=>by cases z⟩
 ·subst z
  rw [g1] at e
  cases e
  have:=n' _ rfl
  rw [zi9] at this
  cases this
 ·rw [hPn]
  exact ⟨P',nc,np⟩
theorem tk {Pn:PN}{p:Addr}{zE:Int}{n:Nat}{Q:W->Nat->Prop}(hP:IsQ Pn p)(h:∀ r,0<=r->r<zE->Q (.d (.int r)) (n+1))(hn:n<=1000000:=by lia)(h1:1<=zE:=by lia)(h2:zE<1073741824:=by lia):zd4 Pn [.pen p,.d (.int zE)] n Q:=⟨p,zE,hP,rfl,hn,h1,h2,h⟩
def znl:List W->Mo W:=fun ws n Q=>∃ bs:List Bool,ws=[.d (.lst (bs.map .bl))]/\Q (.d (.bl (bs.any id))) n
@[reducible] def zm4:List W->Mo W:=fun ws n Q=>on1 ws fun x=>onL x fun l=>∃ bs:List Bool,l=bs.map .bl/\Q (.d (.bl (bs.any id))) n
theorem zhQ:znl=zm4:=by
 funext ws n Q
 simp only [znl,zm4,ui,u6]
 exact propext ⟨by rintro ⟨x,e,h⟩;exact ⟨_,e,_,rfl,x,rfl,h⟩,by simp_all⟩
theorem zoE {Pn:PN}:FL Pn false (fun xs H Q=>∃ (p:Addr) (bs:List Bool),xs=[.ref p]/\H p=some (.lst (bs.map V.bl))/\Q (.bl (bs.any id)) H) znl:=⟨by
 rintro A H xs ws n Q R al b P ⟨bs,e1,h⟩ k
 subst e1
 obtain ⟨v,rfl,bb⟩:=zbz b
 obtain ⟨a,ys,rfl,ha,hl⟩:=xU bb
 obtain rfl:=zcu hl
 exact ⟨a,bs,rfl,ha,k _ n _ H h (Val.of rfl) (Go.refl P) fun z=>by cases z⟩⟩
theorem zox {Pn:PN}:FL Pn false (fun xs H Q=>∃ (p:Addr) (bs:List Bool),xs=[.ref p]/\H p=some (.lst (bs.map V.bl))/\Q (.bl (bs.any id)) H) zm4:=zhQ ▸ zoE
end L3
namespace L2
open PySem PySem.Spec PyProof.Rows
theorem zml {X:Cx}{pins:List (Addr×Obj)}{σ:St}{H:Hp}{s:Shared}{x:V}{u t:Value}(I:Inv X pins σ H s)(rx:zX x u)(ty:TyOf X.K H x t)(ht:∃ T,t = .type T):∃ Hh,PySem.W.KitX X.K u t Hh/\Hh s.heap/\u≠.builtin "__main__.__loader__#opaque" := by
 cases ty with
 | non=>cases (show u=Value.none from rx);exact ⟨_,PySem.W.kitx_none,True.intro,fun z=>nomatch z⟩
 | bl y=>cases (show u=Value.bool y from rx);exact ⟨_,PySem.W.kitx_bool,True.intro,fun z=>nomatch z⟩
 | int i=>obtain ⟨t,q⟩:=(show ∃ t,u=Value.int i t from rx);cases q;exact ⟨_,PySem.W.kitx_int,True.intro,fun z=>nomatch z⟩
 | str y=>obtain ⟨t,q⟩:=(show ∃ t,u=Value.str y t from rx);cases q;exact ⟨_,PySem.W.kitx_str,True.intro,fun z=>nomatch z⟩
 | flt y=>obtain ⟨t,q⟩:=(show ∃ t,u=Value.float y t from rx);cases q;exact ⟨_,PySem.W.kitx_float,True.intro,fun z=>nomatch z⟩
 | @lst a xs ea=>
  cases (show u=Value.ref a from rx)
  obtain ⟨_,_,n,_,h1⟩:=(show zG X.prog X.w H s.heap a (.lst xs) from I.hok a _ ea)
  exact ⟨_,PySem.W.kitx_list,⟨_,h1,rfl⟩,fun z=>nomatch z⟩
 | @frz a ob xs ea=>
  cases (show u=Value.ref a from rx)
  obtain ⟨_,_,_,n,_,h1⟩:=(show zG X.prog X.w H s.heap a (.frz ob (.lst xs)) from I.hok a _ ea)
  exact ⟨_,PySem.W.kitx_list,⟨_,h1,rfl⟩,fun z=>nomatch z⟩
 | @tup a xs ea=>
  cases (show u=Value.ref a from rx)
  obtain ⟨_,_,_,p⟩:=(show zG X.prog X.w H s.heap a (.tup xs) from I.hok a _ ea)
  obtain ⟨o,h1,h2,_⟩:=p
  exact ⟨_,PySem.W.kitx_tuple,⟨o,h1,h2⟩,fun z=>nomatch z⟩
 | @dK a kvs ea=>
  cases (show u=Value.ref a from rx)
  obtain ⟨_,_,vs,_,p⟩:=(show zG X.prog X.w H s.heap a (.dK kvs) from I.hok a _ ea)
  obtain ⟨o,es,ep,h1,h2,_⟩:=p
  exact ⟨_,PySem.W.kitx_dict,⟨o,h1,h2.1⟩,fun z=>nomatch z⟩
 | @dT a kvs ea=>
  cases (show u=Value.ref a from rx)
  obtain ⟨_,_,xs,_,o,es,ep,h1,h2,_⟩:=(show zG X.prog X.w H s.heap a (.dT kvs) from I.hok a _ ea)
  exact ⟨_,PySem.W.kitx_dict,⟨o,h1,h2.1⟩,fun z=>nomatch z⟩
 | @ins a C dx fs ea cl ha hn htk hm=>obtain ⟨T,z⟩:=ht;cases z
theorem zhL {X:Cx}:CallQ X (.builtin "isinstance") (fun xs H Q=>∃ x p T1 T2 T b,xs=[x,.ref p]/\H p=some (.tup [.ty T1,.ty T2])/\TyOf X.K H x (.type T)/\PySem.W.kitAny X.K (.type T) [.type T1,.type T2]=some b/\Q (.bl b) H):=⟨by
 intro pins s σ H xs us Q I r h
 obtain ⟨x,p,T1,T2,T,b,rfl,hp,ty,hb,q⟩:=h
 obtain ⟨u,c,rfl,ru,rc⟩:=zfJ r
 cases rc
 obtain ⟨its,r1,p1,_⟩:=I.tuple (.of hp)
 obtain ⟨c1,c2,rfl,z1,z2⟩:=zfJ r1
 cases z1
 cases z2
 obtain ⟨⟨cls,dd,data,sl⟩,ho,hc,n,hd⟩:=id p1
 cases hc
 cases hd
 obtain ⟨Hh,kx,hh,ne⟩:=zml I ru ty ⟨T,rfl⟩
 exact PySem.W.kia_tup kx I.kIn hh ho hb ne fun tk=>⟨.bl b,H,I.tok tk,rfl,q⟩⟩
end L2
namespace L3
open PySem PySem.Spec L2
section
variable {X:Cx}{Pn:PN}{M:List Nat}{e:Expr}{f:Ev->Mo W}{pos p p1 p2 p3:Pos}
@[reducible] def zhg:Dt->Bool
 | .tup _=>true
 | .lst _=>true
 | _=>false
theorem zgl (K:PySem.W.Frag)(d:Dt):PySem.W.kitAny K (.type d.ty) [.type "tuple",.type "list"]=some (zhg d):=by cases d <;> rfl
theorem zbH {k:Nat}(h:JB X Pn M e f)(hm:X.mg "isinstance" = none)(hm1:X.mg "tuple" = none)(hm2:X.mg "list" = none)(hg:Gl X "isinstance" := by rfl)(hg1:Gl X "tuple" := by rfl)(hg2:Gl X "list" := by rfl)
  (hs1:starEach (e::[.Tuple [.Name "tuple" p1,.Name "list" p2] k p3]) X.env=(false,eval e X.env)::starEach [.Tuple [.Name "tuple" p1,.Name "list" p2] k p3] X.env:=by rfl) (hpl:(backTo pos (starEach [.Tuple [.Name "tuple" p1,.Name "list" p2] k p3] X.env)).any (·.1)=false:=by rfl) :
  JE X Pn M false (.Call (.Name "isinstance" p) [e,.Tuple [.Name "tuple" p1,.Name "list" p2] k p3] [] pos) (zhj zhg f):=by
 obtain ⟨te,q,r⟩:=h.ex
 refine ⟨_,z0 zhL hg hm PyProof.Rows.boot_isinstance (zp q (zp (zhw (zp (zbf (v:=.ty "tuple") hg1 hm1 PyProof.Rows.boot_tuple rfl) (zp (zbf (v:=.ty "list") hg2 hm2 PyProof.Rows.boot_list rfl) zZ))) zZ) hs1) (by decide) (by decide) hs1 hpl,⟨fun A σ H ρ n Q R E P hf k=>?_⟩⟩
 refine r.run A σ H ρ n _ _ E P hf ?_
 rintro w m v H' ⟨d,e,rr⟩ bb g
 subst e
 refine ⟨by show 2<=sizeLine;decide,fun a ha=>?_⟩
 have s1:yk H' (upd H' a (.tup [.ty "tuple",.ty "list"])):=yk.upd ha
 exact ⟨v,a,"tuple","list",_,_,rfl,zh,(bb.is.stay (zn.same s1)).ty,zgl _ d,k _ m _ _ rr (Val.of rfl) (g.trans (Go.same g.pn s1)) fun z=>by cases z⟩
end
section
variable {X:Cx}{Pn:PN}{M:List Nat}{ow:Bool}{tg it a b:Expr}{f1 f2:Ev->Mo (List W)}{p pos:Pos}
theorem znB (h1:JI X Pn M ow tg it f1)(h2:JI X Pn M ow tg it f2):JI X Pn M ow tg it (fun ρ n Q=>f1 ρ n Q\/f2 ρ n Q):=by
 obtain ⟨w1,q1,r1⟩:=h1.ex
 obtain ⟨w2,q2,r2⟩:=h2.ex
 exact ⟨fun σ H Q=>w1 σ H Q\/w2 σ H Q,⟨fun pins s σ H Q I h=>h.elim (q1.run pins s σ H Q I) (q2.run pins s σ H Q I)⟩,⟨fun A σ H ρ n Q R E P hf k=>hf.elim (fun z=>.inl (r1.run A σ H ρ n Q R E P z k)) fun z=>.inr (r2.run A σ H ρ n Q R E P z k)⟩⟩
theorem zis {elts:List Expr}{x1}{tpos:Pos}{fs:Ev->Mo (List W)}(hg:Gl X "zip")(hm:X.mg "zip" = none)(ha:JA X Pn M [a,b] fs)(hs:starEach [a,b] X.env=[(false,eval a X.env),(false,eval b X.env)]:=by rfl)(hs2:starEach [b] X.env=[(false,eval b X.env)]:=by rfl) :
  JI X Pn M false (.Tuple elts x1 tpos) (.Call (.Name "zip" p) [a,b] [] pos) (fun ρ n Q=>mItZ fs ρ n Q\/zkU fs ρ n Q):=znB (zkG hg hm ha hs hs2) (zir hg hm ha hs hs2)
end
theorem zmx {P:Program}{w:World}{K:PySem.W.Frag}{mg:Str->Option Value}{base:Heap}{CX:CXT}{k m:Nat}{f:Addr}{fd:FuncData}{ps:List Str}{fr:Bool}{F:FV}(h:∀ Pn ws n R,¬ F Pn ws n R):FnOk P w K mg base CX k f fd ps (spV m fr F):=
 ⟨fun _ _ _ _ ⟨_,_,_,_,_,_,_,_,_,z,_⟩=>absurd z (h _ _ _ _),fun _ _ _ _ _ _ _ _ _ _ _ _ _ ⟨_,_,_,_,_,_,_,_,_,z,_⟩=>absurd z (h _ _ _ _)⟩
end L3
local macro_rules | `(tactic| walk_at "st")=>`(tactic| ((try (with_reducible conv=>whnf));repeat (with_reducible refine L3.zkb ?_;try (with_reducible conv=>whnf)));try dsimp only)
local macro_rules | `(tactic| walk_at "ct")=>`(tactic| (with_reducible refine L3.ziS ?_ ?_;(first | decide | assumption | rfl));walk_at "st")
local macro_rules | `(tactic| walk_at "cf")=>`(tactic| (with_reducible refine L3.ziR ?_ ?_;(first | decide | assumption | rfl));walk_at "st")
namespace Law
open PySem L2 L3
def top (i:Nat):Stmt:=PySem.Challenge.pw_allelse_k46_grounds_told.main.body.getD i (.Pass ⟨0,0,0,0⟩)
abbrev zaN:Stmt:=top 24
abbrev zan:Stmt:=top 25
abbrev uu:Stmt:=top 14
abbrev zaP:Stmt:=top 15
abbrev xh:Stmt:=top 16
abbrev xw:Stmt:=top 36
abbrev zaO:Stmt:=top 17
abbrev zfw:Stmt:=top 19
abbrev zb0:Stmt:=top 20
abbrev zbZ:Stmt:=top 22
abbrev uq:Stmt:=top 27
abbrev zal:Stmt:=top 26
abbrev zaj:Stmt:=top 30
abbrev uo:Stmt:=top 31
abbrev zaM:Stmt:=top 28
abbrev ur:Stmt:=top 29
abbrev xu:Stmt:=top 34
abbrev zak:Stmt:=top 32
abbrev zai:Stmt:=top 33
abbrev zam:Stmt:=top 35
abbrev ut:Stmt:=top 37
abbrev zcY:Stmt:=top 38
theorem zcZ:FnScope ["_law_script"] ["_law_script"] (zc zaN):=⟨rfl,rfl,rfl,by decide +kernel,rfl,by decide +kernel,by decide +kernel⟩
theorem zV:FnScope ["_law_pen_here","_law_many","_law_found","_law_at","_law_cell","_law_mixed"] ["_law_pen_here","_law_many"] (zc zan):=⟨rfl,rfl,rfl,by decide +kernel,rfl,by decide +kernel,by decide +kernel⟩
theorem yr:FnScope ["room","many","worths"] ["room"] (zc uu):=⟨rfl,rfl,rfl,by decide +kernel,rfl,by decide +kernel,by decide +kernel⟩
theorem zc0:FnScope ["room"] ["room"] (zc zaP):=⟨rfl,rfl,rfl,by decide +kernel,rfl,by decide +kernel,by decide +kernel⟩
theorem yY:FnScope ["room"] ["room"] (zc xh):=⟨rfl,rfl,rfl,by decide +kernel,rfl,by decide +kernel,by decide +kernel⟩
theorem zao:FnScope ["_law_asked","_law_caught"] ["_law_asked"] (zc xw):=⟨rfl,rfl,rfl,by decide +kernel,rfl,by decide +kernel,by decide +kernel⟩
theorem yV:FnScope ["choices","rows","worths"] ["choices"] (zc zaO):=⟨rfl,rfl,rfl,by decide +kernel,rfl,by decide +kernel,by decide +kernel⟩
theorem zbj:FnScope ["standing","given","box","worth"] ["standing","given"] (zc zfw):=⟨rfl,rfl,rfl,by decide +kernel,rfl,by decide +kernel,by decide +kernel⟩
theorem zaQ:FnScope ["room","given","fixed"] ["room","given"] (zc zb0):=⟨rfl,rfl,rfl,by decide +kernel,rfl,by decide +kernel,by decide +kernel⟩
theorem ua:FnScope ["room","book","box","better","worse","givens"] ["room","book","box","better","worse"] (zc zbZ):=⟨rfl,rfl,rfl,by decide +kernel,rfl,by decide +kernel,by decide +kernel⟩
theorem xS:FnScope ["_law_pen_here","_law_some"] ["_law_pen_here"] (zc uq):=⟨rfl,rfl,rfl,by decide +kernel,rfl,by decide +kernel,by decide +kernel⟩
theorem zU:FnScope ["_law_pen_here","_law_most","_law_room_here","_law_size","_law_k","_law_many"] ["_law_pen_here","_law_most"] (zc zal):=⟨rfl,rfl,rfl,by decide +kernel,rfl,by decide +kernel,by decide +kernel⟩
theorem xi:FnScope ["_law_pen_here","_law_room_here","_law_box","_law_better"] ["_law_pen_here","_law_room_here"] (zc zaj):=⟨rfl,rfl,rfl,by decide +kernel,rfl,by decide +kernel,by decide +kernel⟩
theorem yU:FnScope ["_law_pen_here","_law_room_here","_law_box","_law_few","_law_given_here","_law_at"] ["_law_pen_here","_law_room_here","_law_box","_law_few"] (zc uo):=⟨rfl,rfl,rfl,by decide +kernel,rfl,by decide +kernel,by decide +kernel⟩
theorem yf:FnScope ["_law_room_here","_law_found","_law_many","_law_longer","_law_one"] ["_law_room_here"] (zc zaM):=⟨rfl,rfl,rfl,by decide +kernel,rfl,by decide +kernel,by decide +kernel⟩
theorem zbi:FnScope ["_law_one","_law_given_here"] ["_law_one","_law_given_here"] (zc ur):=⟨rfl,rfl,rfl,by decide +kernel,rfl,by decide +kernel,by decide +kernel⟩
theorem z8:FnScope ["_law_room_here","_law_book_here","_law_box","_law_better","_law_worse","_law_givens","_law_found","_law_one"] ["_law_room_here","_law_book_here","_law_box","_law_better","_law_worse"] (zc xu):=⟨rfl,rfl,rfl,by decide +kernel,rfl,by decide +kernel,by decide +kernel⟩
theorem yj:FnScope ["_law_pen_here","_law_room_here","_law_box","_law_given_here","_law_at","_law_way","_law_where","_law_worth"] ["_law_pen_here","_law_room_here","_law_box","_law_given_here"] (zc zak):=⟨rfl,rfl,rfl,by decide +kernel,rfl,by decide +kernel,by decide +kernel⟩
theorem zy:FnScope ["_law_pen_here","_law_room_here","_law_kind_here","_law_few","_law_book_here","_law_k","_law_given_here","_law_other","_law_wish"] ["_law_pen_here","_law_room_here"] (zc zai):=⟨rfl,rfl,rfl,by decide +kernel,rfl,by decide +kernel,by decide +kernel⟩
theorem zb1:FnScope ["_law_found","_law_due"] ["_law_found","_law_due"] (zc zam):=⟨rfl,rfl,rfl,by decide +kernel,rfl,by decide +kernel,by decide +kernel⟩
theorem yq:FnScope ["_law_room_here","_law_book_here","_law_box","_law_better","_law_worse","_law_due","_law_found","_law_other"] ["_law_room_here","_law_book_here","_law_box","_law_better","_law_worse"] (zc ut):=⟨rfl,rfl,rfl,by decide +kernel,rfl,by decide +kernel,by decide +kernel⟩
theorem yz:FnScope ["_law_script","_law_pen_here","_law_turn","_law_room_here","_law_book_here","_law_kind_here","_law_box","_law_better","_law_worse","_law_one","_law_great_here","_law_more"] ["_law_script"] (zc zcY):=⟨rfl,rfl,rfl,by decide +kernel,rfl,by decide +kernel,by decide +kernel⟩
set_option genInjectivity false in
structure Ad where
 f0:Addr
 d0:FuncData
 f1:Addr
 d1:FuncData
 f2:Addr
 d2:FuncData
 f3:Addr
 d3:FuncData
 f4:Addr
 d4:FuncData
 f5:Addr
 d5:FuncData
 f6:Addr
 d6:FuncData
 f7:Addr
 d7:FuncData
 f8:Addr
 d8:FuncData
 f9:Addr
 d9:FuncData
 f10:Addr
 d10:FuncData
 f11:Addr
 d11:FuncData
 f12:Addr
 d12:FuncData
 f13:Addr
 d13:FuncData
 f14:Addr
 d14:FuncData
 f15:Addr
 d15:FuncData
 f16:Addr
 d16:FuncData
 f17:Addr
 d17:FuncData
 f18:Addr
 d18:FuncData
 f19:Addr
 d19:FuncData
 f20:Addr
 d20:FuncData
 f21:Addr
 d21:FuncData
 C_TooMany:Addr
 C_WishError:Addr
 C_HasRing:Addr
 C_IsBetter:Addr
 C_NotSettled:Addr
 C_NotKept:Addr
 C_NoWish:Addr
 C_NoBook:Addr
 C_NoText:Addr
 C_Full:Addr
 C_NoStanding:Addr
 cc:Addr
 PT:Addr
structure Txt (K:PySem.W.Frag)(mg:Str->Option Value)(t:Ad):Prop where
 q0:Dfn K mg "_law_pen" zaN ["_law_script"] t.f0 t.d0
 q1:Dfn K mg "_law_take" zan ["_law_pen_here","_law_many"] t.f1 t.d1
 q2:Dfn K mg "multiplied" uu ["room"] t.f2 t.d2
 q3:Dfn K mg "is_small" zaP ["room"] t.f3 t.d3
 q4:Dfn K mg "must_be_small" xh ["room"] t.f4 t.d4
 q5:Dfn K mg "_law_refused" xw ["_law_asked"] t.f5 t.d5
 q6:Dfn K mg "combined" zaO ["choices"] t.f6 t.d6
 q7:Dfn K mg "keeps" zfw ["standing","given"] t.f7 t.d7
 q8:Dfn K mg "keeping" zb0 ["room","given"] t.f8 t.d8
 q9:Dfn K mg "grounds" zbZ ["room","book","box","better","worse"] t.f9 t.d9
 q10:Dfn K mg "_law_great" uq ["_law_pen_here"] t.f10 t.d10
 q11:Dfn K mg "_law_room" zal ["_law_pen_here","_law_most"] t.f11 t.d11
 q12:Dfn K mg "_law_kind" zaj ["_law_pen_here","_law_room_here"] t.f12 t.d12
 q13:Dfn K mg "_law_given" uo ["_law_pen_here","_law_room_here","_law_box","_law_few"] t.f13 t.d13
 q14:Dfn K mg "_law_all" zaM ["_law_room_here"] t.f14 t.d14
 q15:Dfn K mg "_law_keeps" ur ["_law_one","_law_given_here"] t.f15 t.d15
 q16:Dfn K mg "_law_grounds" xu ["_law_room_here","_law_book_here","_law_box","_law_better","_law_worse"] t.f16 t.d16
 q17:Dfn K mg "_law_near" zak ["_law_pen_here","_law_room_here","_law_box","_law_given_here"] t.f17 t.d17
 q18:Dfn K mg "_law_book" zai ["_law_pen_here","_law_room_here"] t.f18 t.d18
 q19:Dfn K mg "_law_same" zam ["_law_found","_law_due"] t.f19 t.d19
 q20:Dfn K mg "_law_right" ut ["_law_room_here","_law_book_here","_law_box","_law_better","_law_worse"] t.f20 t.d20
 q21:Dfn K mg "law" zcY ["_law_script"] t.f21 t.d21
 b_ValueError:mg "ValueError" = none
 b_dict:mg "dict" = none
 b_range:mg "range" = none
 b_all:mg "all" = none
 b_tuple:mg "tuple" = none
 b_isinstance:mg "isinstance" = none
 b_len:mg "len" = none
 b_list:mg "list" = none
 b_bool:mg "bool" = none
 b_any:mg "any" = none
 b_abs:mg "abs" = none
 b_str:mg "str" = none
 b_enumerate:mg "enumerate" = none
 b_zip:mg "zip" = none
 m_TooMany:mg "TooMany" = some (.ref t.C_TooMany)
 m_WishError:mg "WishError" = some (.ref t.C_WishError)
 m_HasRing:mg "HasRing" = some (.ref t.C_HasRing)
 m_IsBetter:mg "IsBetter" = some (.ref t.C_IsBetter)
 m_NotSettled:mg "NotSettled" = some (.ref t.C_NotSettled)
 m_NotKept:mg "NotKept" = some (.ref t.C_NotKept)
 m_NoWish:mg "NoWish" = some (.ref t.C_NoWish)
 m_NoBook:mg "NoBook" = some (.ref t.C_NoBook)
 m_NoText:mg "NoText" = some (.ref t.C_NoText)
 m_Full:mg "Full" = some (.ref t.C_Full)
 m_NoStanding:mg "NoStanding" = some (.ref t.C_NoStanding)
 er:Errs K mg "TooMany" "WishError" t.C_TooMany t.C_WishError [t.C_HasRing,t.C_IsBetter,t.C_NotSettled,t.C_NotKept,t.C_NoWish,t.C_NoBook,t.C_NoText,t.C_Full,t.C_NoStanding]
 X_TooMany:ExcC K mg "TooMany" t.C_TooMany
 lam:LamT K mg t.cc t.PT
 lamc:t.d21.code = .ref t.cc
 c_MOST_OF_SMALL:∃ u,zX (.int 64) u/\mg "MOST_OF_SMALL" = some u
section
variable {P:Program}{w:World}{K:PySem.W.Frag}{mg:Str->Option Value}{base:Heap}{t:Ad}
theorem zcG (T:Txt K mg t):FnOk P w K mg base CX0 1 t.f0 t.d0 ["_law_script"] (zgU K):=by
 refine T.q0.F.okQ zcZ (fun vs H Q E h=>?_) (fun cdv A outer s H vs Q E hr h=>?_)
 ·obtain ⟨a,ns,rfl,_⟩:=h
  rfl
 ·obtain ⟨a,ns,rfl,hS,hl,k⟩:=h
  refine ⟨_,(ye (xt (zjs (zbh yD ⟨zi4 (zdq zjM (qv 0) zfh (zfi zW)).run⟩ (zbh yD zW (zbh yD zW zjC))) rfl rfl (by simp) (by decide)))),?_⟩
  intro p hp
  refine ⟨_,rfl,_,rfl,a,_,rfl,(yk.upd hp).seq hS,fun c hc=>⟨c,_,rfl,zh,fun ob=>?_⟩⟩
  have npc:p≠c:=fun e=>by subst e;rw [zh] at hc;cases hc
  have hc0:H c=none:=by rw [zd (Ne.symm npc)] at hc;exact hc
  refine ⟨by rw [zd npc,zd npc,zh],xT c 0 0,rfl,(by show 3<=15;decide),?_⟩
  rw [zlr]
  have ecut:zd1 (ns.map V.int) none (some 63)=ns.map V.int:=by
   unfold zd1
   rw [HT.sIx_none]
   have e63:HT.sIx (ns.map V.int).length (ns.map V.int).length (some 63)=(ns.map V.int).length:=by
    have:=HT.sIx_nat (ns.map V.int).length (ns.map V.int).length 63
    rw [List.length_map] at this ⊢
    rw [Nat.min_eq_right hl] at this
    exact this
   rw [e63,List.drop_zero,Nat.sub_zero,List.take_length]
  refine k p c _ ⟨⟨0,0,zh,by lia,by lia,by lia⟩,?_,hl⟩ ?_
  ·refine ⟨ob,?_⟩
   rw [zd (Ne.symm npc),zh]
   exact congrArg (fun z=>some (HO.frz ob (HO.lst z))) ecut
  ·intro b o e
   rw [zd (zb e hp),zd (zb e hc0),zd (zb e hc0),zd (zb e hp)]
   exact e
theorem zbT (T:Txt K mg t):FnOk P w K mg base CX0 1 t.f1 t.d1 ["_law_pen_here","_law_many"] zhD:=by
 refine T.q1.F.okQ zV (fun vs H Q E h=>?_) (fun cdv A outer s H vs Q E hr h=>?_)
 ·obtain ⟨p,c,ns,n,zE,rfl,_⟩:=h
  rfl
 ·obtain ⟨p,c,ns,n,zE,rfl,hP,hn,h1,h2,k⟩:=h
  have hu:=zh9 hr
  obtain ⟨⟨a,l,hp,ha0,han,hl0⟩,⟨ob,hc⟩,hlen⟩:=id hP
  have npc:c≠p:=zkW hc hp (by intro z;cases z)
  refine ⟨_,(zr (zdV (zag zgz (yT hu (qv 0) yD (fun _ _=>rfl)) zW (zL _)) (zr (yE (i:=2) zV.nd rfl (Or.inl rfl) (yi xR (yT hu (qv 0) yD (fun _ _=>rfl)) (qv 1)))
   (zr (zcS hu (qv 0) yD (yi zcN (yT hu (qv 0) yD (fun _ _=>rfl)) (qv 1)) rfl)
   (ye (xt (qv 2))))) zaf)
   (zr (yE (i:=3) zV.nd rfl (Or.inl rfl) (yT hu (qv 0) yD (fun _ _=>rfl)))
   (zr (zcS hu (qv 0) yD (yi yx (qv 3) zW) rfl)
   (zr (yE (i:=4) zV.nd rfl (Or.inl rfl) (yi yx (yi zaa zW (qv 3)) zW))
   (zr (zdV (zag zgz (z0 xo (by rfl) T.b_len PySem.boot_len (zp (yT hu (qv 0) yD (fun _ _=>rfl)) zZ)) zW (zL _)) (ye (yE (i:=4) zV.nd rfl (Or.inl rfl) (zlL zbp (yT hu (qv 0) yD (fun _ _=>rfl)) (yi xR (qv 3) (z0 xo (by rfl) T.b_len PySem.boot_len (zp (yT hu (qv 0) yD (fun _ _=>rfl)) zZ))) (fun _ _=>rfl)))) zaf)
   (zr (zdV (QW.pt (zhy (zag zn7 (qv 3) (z0 xo (by rfl) T.b_len PySem.boot_len (zp (yT hu (qv 0) yD (fun _ _=>rfl)) zZ)) (zL _)) (zfm (zag zn6 (z0 zeh (by rfl) T.b_abs PyProof.Rows.boot_abs (zp (qv 4) zZ)) (yi ze7 zW zW) (zL _))))) (zr (zcS hu (qv 0) yD (yi zcN (z0 zeh (by rfl) T.b_abs PyProof.Rows.boot_abs (zp (qv 4) zZ)) (qv 1)) rfl)
   (ye (xt (yi xR (z0 zeh (by rfl) T.b_abs PyProof.Rows.boot_abs (zp (qv 4) zZ)) (qv 1))))) zaf)
   (zr (yE (i:=5) zV.nd rfl (Or.inl rfl) (yi xR (yi ze7 (yi yx (yi yx (yi xR (qv 4) zW) (yi zaa zW (qv 3))) zW) zW) zW))
   (zr (yE (i:=5) zV.nd rfl (Or.inl rfl) (yi xR (yi ze7 (yi yx (yi yx (qv 5) (yi zaa (yi zaa zW (qv 3)) (qv 3))) zW) zW) zW))
   (ye (xt (yi xR (yi zcN (qv 5) zW) (qv 1)))))))))))),?_⟩
  refine ⟨_,rfl,p,_,rfl,ze9 hp,_,_,rfl,rfl,_,rfl,zmF (fun hl=>?_) (fun hl=>?_)⟩
  ·have hl':0<l:=of_decide_eq_true hl
   refine ⟨_,rfl,p,_,rfl,ze9 hp,_,rfl,_,_,rfl,rfl,(by show (0:Int)<zE;lia),?_⟩
   refine ⟨_,rfl,p,_,rfl,ze9 hp,_,rfl,_,_,rfl,rfl,⟨by show (0:Int)<zE;lia,h2⟩,_,rfl,p,_,rfl,zhs hp _,?_⟩
   refine ⟨_,rfl,k _ _ (Int.emod_nonneg _ (by lia)) (Int.emod_lt_of_pos _ (by lia)) ⟨⟨a,_,zh,ha0,by lia,Int.ediv_nonneg hl0 (by lia)⟩,⟨ob,by rw [zd npc];exact hc⟩,hlen⟩ zcg⟩
  ·refine ⟨_,rfl,p,_,rfl,zlq hp,?_⟩
   refine ⟨_,rfl,_,_,rfl,rfl,_,rfl,p,_,rfl,zlu hp _,?_⟩
   have hp1:upd H p (.dK (xT c (a+1) l)) p=some (.dK (xT c (a+1) l)):=zh
   have hc1:upd H p (.dK (xT c (a+1) l)) c=some (.frz ob (.lst (ns.map V.int))):=by rw [zd npc];exact hc
   generalize hH1:upd H p (.dK (xT c (a+1) l))=H1 at hp1 hc1 ⊢
   have st1:∀ b o,b≠p->H b=some o->H1 b=some o:=hH1 ▸ zcg
   refine ⟨_,rfl,_,_,rfl,rfl,.inl ⟨by lia,by lia⟩,_,_,rfl,rfl,?_⟩
   refine' meet (α:=Int) _ (fun yy=>?_) ?_
   rotate_left
   ·
    refine ⟨_,rfl,p,_,rfl,zdo hp1,_,_,rfl,.inl ⟨_,.inl (.inr ⟨ob,hc1⟩),rfl⟩,_,_,rfl,rfl,_,rfl,zmF (fun hz=>?_) (fun hz=>?_)⟩
    have hz':0<((ns.map V.int).length:Int):=of_decide_eq_true hz
    obtain ⟨cell,hget⟩:=zka ns a hz'
    refine ⟨_,rfl,p,_,rfl,zdo hp1,_,rfl,_,rfl,p,_,rfl,zdo hp1,_,_,rfl,.inl ⟨_,.inl (.inr ⟨ob,hc1⟩),rfl⟩,_,_,rfl,rfl,hz',c,_,_,_,rfl,rfl,.inl (.inr ⟨ob,hc1⟩),hget,?_⟩
    exact yy cell
    exact yy (101 * a+7)
   ·intro cell
    have nqp:∀ {q:Addr},H1 q=none->p≠q:=fun hq=>zb hp1 hq
    refine' znZ _ (fun yy=>?_) ?_
    rotate_left
    ·refine ⟨_,rfl,_,rfl,p,_,rfl,zdo hp1,_,_,rfl,.inl ⟨_,.inl (.inr ⟨ob,hc1⟩),rfl⟩,_,_,rfl,rfl,_,rfl,zmF (fun h3=>?_) (fun h3=>?_)⟩
     rotate_left
     ·refine iteF ?_
      exact yy
     refine ⟨_,rfl,_,rfl,_,_,rfl,rfl,⟨by decide,by decide,by decide⟩,_,_,rfl,rfl,_,rfl,zmF (fun h4=>?_) (fun h4=>?_)⟩
     rotate_left
     ·exact yy
     have ha:0<=(if cell<0 then -cell else cell):=by split <;> lia
     refine ⟨_,rfl,_,rfl,_,rfl,_,_,rfl,rfl,⟨by show (0:Int)<zE;lia,h2⟩,_,rfl,p,_,rfl,zhs hp1 _,?_⟩
     refine ⟨_,rfl,_,rfl,_,rfl,_,_,rfl,rfl,(by show (0:Int)<zE;lia),k _ _ (Int.emod_nonneg _ (by lia)) (Int.emod_lt_of_pos _ (by lia)) ⟨⟨a+1,_,zh,by lia,by lia,Int.ediv_nonneg ha (by lia)⟩,⟨ob,by rw [zd npc];exact hc1⟩,hlen⟩ (fun b o z e=>zcg b o z (st1 b o z e))⟩
    ·obtain ⟨sq0,sq1⟩:=zgV ha0 han hn
     have mm0:=Int.emod_nonneg cell (show (2147483629:Int)≠0 by decide)
     have mm1:=Int.emod_lt_of_pos cell (show (0:Int)<2147483629 by decide)
     refine ⟨_,rfl,_,_,rfl,rfl,(by show (0:Int)<2147483629;decide),_,rfl,_,_,rfl,rfl,.inl ⟨by decide,by decide⟩,_,_,rfl,rfl,_,_,rfl,rfl,_,_,rfl,rfl,⟨by decide,by decide,?_⟩,_,_,rfl,rfl,(by show (0:Int)<2147483647;decide),?_⟩
     ·show (cell % 2147483629+30011 * a+977).natAbs<2 ^ 64
      lia
     ·generalize hw1:((cell % 2147483629+30011 * a+977) ^ (3:Int).toNat:Int)=w1
      have w0:=Int.emod_nonneg w1 (show (2147483647:Int)≠0 by decide)
      have w2:=Int.emod_lt_of_pos w1 (show (0:Int)<2147483647 by decide)
      refine ⟨_,rfl,_,rfl,_,_,rfl,rfl,.inl ⟨by decide,by decide⟩,_,rfl,_,_,rfl,rfl,.inr ⟨by lia,by lia⟩,_,_,rfl,rfl,_,_,rfl,rfl,_,_,rfl,rfl,⟨by decide,by decide,?_⟩,_,_,rfl,rfl,(by show (0:Int)<2147483587;decide),?_⟩
      ·show (w1 % 2147483647+69621 * a * a+13).natAbs<2 ^ 64
       have e1:69621 * a * a=69621 * (a * a):=Int.mul_assoc _ _ _
       have e2:60013 * a * a=60013 * (a * a):=Int.mul_assoc _ _ _
       rw [e2] at sq0 sq1
       rw [e1]
       lia
      ·refine ⟨_,rfl,_,_,rfl,rfl,⟨by decide,by decide⟩,_,rfl,_,_,rfl,rfl,(by show (0:Int)<zE;lia),?_⟩
       exact k _ _ (Int.emod_nonneg _ (by lia)) (Int.emod_lt_of_pos _ (by lia)) ⟨⟨a+1,l,hp1,by lia,by lia,hl0⟩,⟨ob,hc1⟩,hlen⟩ st1
theorem zJ (T:Txt K mg t):FnOk P w K mg base CX0 1 t.f1 t.d1 ["_law_pen_here","_law_many"] (spV 2 false zd4):=FnOk.lift (FnOk.mono (zbT T) (by decide)) zeT
theorem za8 (T:Txt K mg t):FnOk P w K mg base CX0 1 t.f2 t.d2 ["room"] zhC:=by
 refine T.q2.F.okQ yr (fun vs H Q E h=>?_) (fun cdv A outer s H vs Q E hr h=>?_)
 ·obtain ⟨a,ns,rfl,_⟩:=h
  rfl
 ·obtain ⟨a,ns,rfl,ha,hb,k⟩:=h
  refine ⟨_,(zr (yE (i:=1) yr.nd rfl (Or.inl rfl) zW)
   (zr (zfj PassesOwn.never rfl (zhx (qv 0)) (zad (i:=2) yr.nd rfl (Or.inl rfl)) (ye (yE (i:=1) yr.nd rfl (Or.inl rfl) (yi zaa (qv 1) (qv 2)))))
   (ye (xt (qv 1))))),?_⟩
  refine ⟨_,rfl,a,rfl,⟨_,.of ha⟩,zh0 (K:=K) (xs:=ns.map V.int) (fun i σ H2=>H2=H/\∃ v,σ=[some (.ref a),some (.int (yp (ns.take i))),v]) ⟨rfl,none,rfl⟩ (fun i σ H2 _ ⟨e,_⟩=>e ▸ .of ha) ?_ ?_⟩
  ·rintro i y σ H2 hi ⟨rfl,v,rfl⟩
   rw [List.getElem?_map] at hi
   obtain ⟨z,hz,rfl⟩:=Option.map_eq_some_iff.mp hi
   have hm:=hb z (List.mem_of_getElem? hz)
   refine ⟨_,rfl,_,rfl,_,_,rfl,rfl,.inr ⟨by lia,by lia⟩,rfl,some (.int z),?_⟩
   rw [zo hz,yN]
   rfl
  ·rintro σ H2 ⟨rfl,v,rfl⟩
   refine ⟨_,rfl,?_⟩
   rw [List.length_map,List.take_length]
   exact k
theorem zaA (T:Txt K mg t):FnOk P w K mg base CX0 1 t.f2 t.d2 ["room"] (spV 1 false zg2):=FnOk.lift (FnOk.mono (za8 T) (by decide)) zeS
@[reducible] def zhG:FV:=fun _ ws n R=>∃ rm:List Int,ws=[.d (stD rm)]/\(∀ r∈rm,2<=r/\r<=4)/\R (.d (.bl (decide (yp rm<=64)))) n
theorem uh (T:Txt K mg t):FnOk P w K mg base CX0 2 t.f3 t.d3 ["room"] (spV 1 false zhG):=by
 have G2:=zaA (P:=P) (w:=w) (base:=base) T
 refine Fun.okW (k:=1) (fr:=false) [] 0 T.q3.F zc0 rfl (by decide) rfl fun cdv A outer s H E Pn hr=>⟨_,(zi (zF (zdM zlc u_le (JE.bo (wE zl <| yA T.q2 G2 hr (za (kv 0) ze))) (JE.bo (zil rfl T.c_MOST_OF_SMALL)) (zL _)))),fun ws n R hF=>?_⟩
 obtain ⟨rm,rfl,hb,r⟩:=hF
 walk_at "st"
 exact ⟨rm,rfl,hb,r⟩
@[reducible] def zj3:FV:=fun _ ws n R=>∃ rm:List Int,ws=[.d (stD rm)]/\(∀ r∈rm,2<=r/\r<=4)/\yp rm<=64/\R (.d .non) n
theorem x8 (T:Txt K mg t):FnOk P w K mg base CX0 3 t.f4 t.d4 ["room"] (spV 1 false zj3):=by
 have G3:=uh (P:=P) (w:=w) (base:=base) T
 refine Fun.okW (k:=2) (fr:=false) [] 0 T.q4.F yY rfl (by decide) rfl fun cdv A outer s H E Pn hr=>⟨_,(zi (wS zS <| xf (wT x5 <| uV (wT zv <| xg (JE.bo (wE zl <| yA T.q3 G3 hr (za (kv 0) ze))))) (zi znC) zR)),fun ws n R hF=>?_⟩
 obtain ⟨rm,rfl,hb,hp,r⟩:=hF
 walk_at "st"
 refine ⟨rm,rfl,hb,?_⟩
 rw [decide_eq_true hp]
 walk_at "st"
 exact r
def zj7 (ws:List W):Prop:=∃ rm:List Int,ws=[.d (stD rm)]/\(∀ r∈rm,2<=r/\r<=4)/\64<yp rm
theorem x9 (T:Txt K mg t):FnOk P w K mg base (CX1 P w t.C_TooMany) 3 t.f4 t.d4 ["room"] (spX 1 zj7):=by
 have G3:=uh (P:=P) (w:=w) (base:=base) T
 refine okX (k:=2) T.q4.F yY rfl fun cdv A outer s H E Pn hr=>⟨_,(znD zhd hr.hd T.X_TooMany (uV (xg (JE.bo (yA T.q3 G3 hr (za (zio 0) ze)))))),fun ws n hl hF=>?_⟩
 obtain ⟨rm,rfl,hb,hp⟩:=hF
 exact ⟨_,rfl,rfl,rm,rfl,hb,_,rfl,by rw [decide_eq_false (by lia)];rfl,rfl⟩
theorem zat (T:Txt K mg t){k:Nat}:zfR P w K mg base t.C_TooMany [t.C_HasRing,t.C_IsBetter,t.C_NotSettled,t.C_NotKept,t.C_NoWish,t.C_NoBook,t.C_NoText,t.C_Full,t.C_NoStanding] k t.f5:=by
 refine zgQ (a := "_law_asked") (c := "_law_caught") (n := "error") (cx := "TooMany") (wx := "WishError") (xs:=[("HasRing",⟨158,40,158,47⟩),("IsBetter",⟨158,49,158,57⟩),("NotSettled",⟨158,59,158,69⟩),("NotKept",⟨158,71,158,78⟩),("NoWish",⟨158,80,158,86⟩),("NoBook",⟨158,88,158,94⟩),("NoText",⟨158,96,158,102⟩),("Full",⟨158,104,158,108⟩),("NoStanding",⟨158,110,158,120⟩)]) T.q5.F T.q5.b zao (by decide) rfl rfl (by decide) rfl T.er (by decide +kernel) T.b_ValueError T.b_isinstance ?_ (by decide +kernel) (Nat.le_of_ble_eq_true rfl) rfl
 show [mg "HasRing",mg "IsBetter",mg "NotSettled",mg "NotKept",mg "NoWish",mg "NoBook",mg "NoText",mg "Full",mg "NoStanding"]=[some (.ref t.C_HasRing),some (.ref t.C_IsBetter),some (.ref t.C_NotSettled),some (.ref t.C_NotKept),some (.ref t.C_NoWish),some (.ref t.C_NoBook),some (.ref t.C_NoText),some (.ref t.C_Full),some (.ref t.C_NoStanding)]
 rw [T.m_HasRing,T.m_IsBetter,T.m_NotSettled,T.m_NotKept,T.m_NoWish,T.m_NoBook,T.m_NoText,T.m_Full,T.m_NoStanding]
theorem zcH (T:Txt K mg t):FnOk P w K mg base CX0 1 t.f6 t.d6 ["choices"] (zaR K):=by
 refine T.q6.F.okQ yV (fun vs H Q E h=>?_) (fun cdv A outer s H vs Q E hr h=>?_)
 ·obtain ⟨ca,xs,cs,rfl,_⟩:=h
  rfl
 ·obtain ⟨ca,xs,cs,rfl,hca,hL,hc8,hc4,k⟩:=h
  have hall:=zaT hc8 hc4
  refine ⟨_,(zr (yE (i:=1) yV.nd rfl (Or.inl rfl) (zff (zp (zcQ zZ) zZ)))
   (zr (zfj PassesOwn.never rfl (zcR (qv 0)) (zad (i:=2) yV.nd rfl (Or.inr rfl)) (ye (zgN (ix:=1) yV.nd rfl rfl (N:=["row","worth","worths"]) (cix:=[none,none,some 2]) rfl ⟨rfl,by decide +kernel,rfl⟩ (zcR (qv 1)) (fun _ _ _ _=>(zad (i:=0) (show (["row","worth","worths"]:List Str).Nodup by decide +kernel) rfl (Or.inl rfl))) (fun _ _ _ _=>zcT) (fun _ _ _ _=>(zdr K rfl (qv 2))) (fun _ _ _ _=>(zad (i:=1) (show (["row","worth","worths"]:List Str).Nodup by decide +kernel) rfl (Or.inl rfl))) (fun _ _ _ _=>zcT) (fun _ _ _ _=>(yi (zgy K rfl) (qv 0) (zcQ (zp (qv 1) zZ)))))))
   (ye (xt (qv 1))))),?_⟩
  refine ⟨(by show 0<=sizeLine;decide),fun e0 H1 _ g1 S1=>⟨(by show 1<=sizeLine;decide),fun r0 H2 n2 g2 S2=>?_⟩⟩
  have S02:yk H H2:=fun b o e=>S2 _ _ (S1 _ _ e)
  have nr0:H r0=none:=by
   cases e:H r0 with
   | none=>rfl
   | some o=>rw [S1 _ _ e] at n2;cases n2
  refine ⟨_,rfl,ca,rfl,⟨xs,.of (S02 _ _ hca)⟩,zgb (K:=K) (xs:=xs) (fun i σ H3=>∃ (ra:Addr) (ys:List V) (v2:Option V),σ=[some (.ref ca),some (.ref ra),v2]/\H ra=none/\H3 ra=some (.lst ys)/\IsL H3 ((y4 (cs.take i)).map stD) ys/\yk H H3)
   ⟨r0,_,none,rfl,nr0,g2,⟨_,_,rfl,⟨e0,_,rfl,S2 _ _ g1,rfl⟩,rfl⟩,S02⟩ (fun i σ H3 _ ⟨_,_,_,_,_,_,_,S⟩=>.of (S _ _ hca)) ?_ ?_⟩
  ·rintro i x σ H3 hi ⟨ra,ys,v2,rfl,nra,hra,hys,S3⟩
   have hil:=(List.getElem?_eq_some_iff.mp hi).1
   have hicl:i<cs.length:=by rw [<- hL.1];exact hil
   obtain ⟨wa,hwa,hwl⟩:=hL.2 i cs[i] (List.getElem?_eq_getElem hicl)
   rw [hi] at hwa
   cases hwa
   have hws4:=hc4 cs[i] (List.getElem_mem hicl)
   have htk:cs.take (i+1)=cs.take i++[cs[i]]:=zo (List.getElem?_eq_getElem hicl)
   have hl1:=hall i
   have hl2:=hall (i+1)
   rw [htk,yg] at hl2
   have hyl:=hys.length
   rw [List.length_map] at hyl
   have hrow:∀ row∈y4 (cs.take i),row.length<=8:=fun row hr=>by
    rw [xJ _ _ hr,List.length_take]
    lia
   generalize cs[i]=ws at hwl hws4 htk hl2
   generalize hrows:y4 (cs.take i)=rows at hys hl1 hl2 hyl hrow
   have hwl3:=S3 _ _ hwl
   refine ⟨_,rfl,ra,rfl,⟨_,.of hra⟩,fun acc hacc=>?_⟩
   refine zdF (xs:=ys) hacc (fun j σ' H'=>(∃ v0 v1,σ'=[v0,v1,some (.ref wa)])/\(∃ zs,H' acc=some (.lst zs)/\IsL H' ((yK (rows.take j) ws).map stD) zs)/\yk H3 H') (fun H' z1 z2=>⟨⟨_,_,rfl⟩,⟨[],z1,rfl⟩,z2⟩) (fun _ _ _ _ ⟨_,_,S⟩=>.of (S _ _ hra)) ?_ ?_
   ·rintro j y σ' H4 hy ⟨⟨v0,v1,rfl⟩,⟨zs,hac,hzs⟩,S4⟩
    obtain ⟨d,hd,his⟩:=(hys.stay (zn.same S4)).get hy
    rw [List.getElem?_map] at hd
    obtain ⟨row,hrw,rfl⟩:=Option.map_eq_some_iff.mp hd
    obtain ⟨rwa,rv,rfl,hrwa,hrv⟩:=his
    obtain rfl:=hrv.of_ints
    have hjl:=(List.getElem?_eq_some_iff.mp hrw).1
    have hr8:=hrow row (List.mem_of_getElem? hrw)
    show zed _ ub _ _ _ _ _ _ _ _ _
    refine zhn ?_
    refine ⟨_,rfl,wa,rfl,⟨_,.of (S4 _ _ hwl3)⟩,?_⟩
    refine zdK (xs:=ws.map V.int) (fun m σ' H'=>(∃ v1,σ'=[some (.ref rwa),v1,some (.ref wa)])/\(∃ zs,H' acc=some (.lst zs)/\IsL H' ((yK (rows.take j) ws++(ws.take m).map fun w=>row++[w]).map stD) zs)/\yk H3 H'/\H' rwa=some (.tup (row.map V.int))) ⟨⟨_,rfl⟩,⟨zs,hac,by simpa using hzs⟩,S4,hrwa⟩ (fun _ _ _ _ ⟨_,_,S,_⟩=>.of (S _ _ hwl3)) ?_ ?_
    ·rintro m u σ' H5 hu ⟨⟨v1,rfl⟩,⟨zs,hac,hzs⟩,S5,hrw5⟩
     rw [List.getElem?_map] at hu
     obtain ⟨wv,hwv,rfl⟩:=Option.map_eq_some_iff.mp hu
     have hml:=(List.getElem?_eq_some_iff.mp hwv).1
     refine zkd ⟨_,rfl,_,rfl,(by show 1<=sizeLine;decide),fun t1 H6 _ g6 S6=>?_⟩
     refine ⟨rwa,t1,_,_,rfl,rfl,S6 _ _ hrw5,g6,Nat.le_of_lt (zb3 (by rw [List.length_map];show row.length+1<=1000;lia)),fun t2 H7 g7 S7=>?_⟩
     have S57:yk H5 H7:=fun b o e=>S7 _ _ (S6 _ _ e)
     have hzl:=hzs.length
     rw [List.length_map,List.length_append,xk,List.length_map,List.length_take,List.length_take] at hzl
     have hcr:=xk rows ws
     have hprod:(min j rows.length) * ws.length<=65536 * 4:=Nat.mul_le_mul (by lia) hws4
     refine ⟨zs,S57 _ _ hac,Nat.lt_of_le_of_lt (show zs.length<=500000 by lia) (by decide),⟨_,rfl⟩,⟨_,zh,?_⟩,zgT hacc fun b o e=>S57 _ _ (S5 _ _ e),?_⟩
     ·refine IsL.stayT (zd6.app (S57 _ _ hac)) (uF _) ?_
      rw [zo hwv,List.map_append (l₁:=ws.take m),<- List.append_assoc,List.map_append]
      refine (hzs.stay (zn.same S57)).append (IsL.one ⟨t2,_,rfl,g7,?_⟩)
      rw [List.map_append]
      exact IsL.ints.append (IsL.ints (ns:=[wv]))
     ·rw [zd (zkW (S57 _ _ hrw5) (S57 _ _ hac) (by intro z;cases z))]
      exact S57 _ _ hrw5
    ·rintro σ' H5 ⟨⟨v1,rfl⟩,⟨zs,hac,hzs⟩,S5,hrw5⟩
     rw [List.length_map,List.take_length] at hzs
     refine ⟨⟨_,_,rfl⟩,⟨zs,hac,?_⟩,S5⟩
     rw [zo hrw,zcl]
     exact hzs
   ·rintro σ' H4 ⟨⟨v0,v1,rfl⟩,⟨zs,hac,hzs⟩,S4⟩
    rw [hyl,List.take_length] at hzs
    refine ⟨acc,zs,_,rfl,?_,hac,?_,fun b o e=>S4 _ _ (S3 _ _ e)⟩
    ·cases e:H acc with
     | none=>rfl
     | some o=>rw [S3 _ _ e] at hacc;cases hacc
    ·rw [htk,yg,hrows]
     exact hzs
  ·rintro σ H3 ⟨ra,ys,v2,rfl,nra,hra,hys,S3⟩
   rw [hL.1,List.take_length] at hys
   exact ⟨_,rfl,k ra ys H3 nra hra hys S3⟩
theorem zbV (T:Txt K mg t):FnOk P w K mg base CX0 1 t.f6 t.d6 ["choices"] (spV 1 true zaC):=FnOk.lift (FnOk.mono (zcH T) (by decide)) za1
inductive F_kps  (Pn:PN):List W->Nat->(W->Nat->Prop)->Prop
 | i {n:Nat} {R:W->Nat->Prop} {st:List Int} {g:List (Int×Int)} (hg:∀ q∈g,0<=q.1/\q.1<st.length) (h:R (.d (.bl (zx st g))) n)  : F_kps Pn [.d (stD st),.d (zbs g)] n R
theorem ze3 (T:Txt K mg t):FnOk P w K mg base CX0 1 t.f7 t.d7 ["standing","given"] (spV 2 false F_kps):=by
 refine Fun.okW (k:=0) (fr:=false) [] 2 T.q7.F zbj rfl (by decide) rfl fun cdv A outer s H E Pn hr=>⟨_,(zf (xb PassesOwn.never rfl (wI uZ <| zbI K rfl (kv 1)) (wG ue <| ug (n:=2) K rfl rfl (wH ya <| zA (wG zN <| zk (i:=2) zbj.nd) (wH ya <| zA (wG zN <| zk (i:=3) zbj.nd) (wH ud xa)))) (zi (wS zS <| xf (wT zv <| yw ziY zoz (JE.bo (zav yb y6 (kb 0) (kb 2) (fun _ _=>rfl))) (kb 3) (zL _)) (zi (zF zfP)) zR)))
   (zi (zF zfP))),fun ws n R hF=>?_⟩
 obtain @⟨_,_,st,g,hg,r⟩:=hF
 walk_at "st"
 refine xl g (fun q=>.d (yI q)) (by rw [List.map_map];rfl) (fun i ρ m=>m=n/\(∃ v2 v3,ρ=[some (.d (stD st)),some (.d (zbs g)),v2,v3])/\zx st (g.take i)=true) ⟨rfl,⟨_,_,rfl⟩,rfl⟩ ?_ ?_
 ·rintro i q ρ m hq ⟨rfl,⟨v2,v3,rfl⟩,hk⟩ C B E hC _ hE
  have hb:=hg q (List.mem_of_getElem? hq)
  walk_at "st"
  refine onA hb.1 hb.2 ?_
  walk_at "st"
  refine zk3 (fun h=>?_) (fun h=>?_)
  ·walk_at "st"
   refine hE ?_
   have e:zx st g=false:=by
    unfold zx
    exact List.all_eq_false.mpr ⟨q,List.mem_of_getElem? hq,fun z=>h (of_decide_eq_true z)⟩
   rw [e] at r
   exact r
  ·walk_at "st"
   refine hC ⟨rfl,⟨_,_,rfl⟩,?_⟩
   unfold zx at hk ⊢
   rw [zo hq,List.all_append,hk]
   simp [h]
 ·rintro ρ m ⟨rfl,⟨v2,v3,rfl⟩,hk⟩
  rw [List.take_length] at hk
  rw [hk] at r
  walk_at "st"
  exact r
inductive F_keeping  (Pn:PN):List W->Nat->(W->Nat->Prop)->Prop
 | i {n:Nat} {R:W->Nat->Prop} {rm:List Int} {g:List (Int×Int)} (hR:RoomOk rm) (hG:Giv rm g) (h:R (.d (uC (zaY rm g))) n)  : F_keeping Pn [.d (stD rm),.d (zbs g)] n R
theorem zcJ (T:Txt K mg t):FnOk P w K mg base CX0 2 t.f8 t.d8 ["room","given"] (spV 2 true F_keeping):=by
 have G6:=zbV (P:=P) (w:=w) (base:=base) T
 refine Fun.okW (k:=1) (fr:=true) [] 1 T.q8.F zaQ rfl (by decide) rfl fun cdv A outer s H E Pn hr=>⟨_,(zf (wS zw <| zQ (i:=2) zaQ.nd (zaX (zfY rfl) zjS (by rfl) T.b_dict PyProof.Rows.boot_dict (zq (kb 1) zD)))
   (zi (zF (wE zl <| yA T.q6 G6 hr (za (uT (N:=["box","worths","fixed"]) (cix:=[none,none,some 2]) rfl ⟨rfl,by decide +kernel,rfl⟩ (wI ziJ <| ziq rfl T.b_enumerate (za (kv 0) ze)) (fun _ _ _ _=>(wG ue <| ug (n:=2) K rfl rfl (wH ya <| zA (wG zN <| zk (i:=0) (show (["box","worths","fixed"]:List Str).Nodup by decide +kernel)) (wH ya <| zA (wG zN <| zk (i:=1) (show (["box","worths","fixed"]:List Str).Nodup by decide +kernel)) (wH ud xa))))) (fun _ _ _ _=>xZ) (fun _ _ _ _=>(wE zkT <| j_if (wT zgu <| zkJ (zh9 hr) (kb 0) (kb 2)) (uU (za (wE zgq <| zkE (zh9 hr) (kb 2) (kb 0) (fun _ _=>rfl)) ze)) (wE zcA <| zeL T.b_list T.b_range (zq (kb 1) zD))))) ze))))),fun ws n R hF=>?_⟩
 obtain @⟨_,_,rm,g,hR,hG,r⟩:=hF
 walk_at "st"
 have hps:g.map yI=(g.map fun q=>(q.1,Dt.int q.2)).map prD:=by rw [List.map_map];rfl
 have hfew:=zcq hG hR.few
 have hnd:(g.map (·.1)).Nodup:=List.Pairwise.map (fun q:Int×Int=>q.1) (fun a b h e=>by lia) hG.up
 refine ⟨g.map fun q=>(q.1,Dt.int q.2),hps,?_,by rw [List.length_map];lia,?_⟩
 ·rw [List.map_map]
  exact hnd
 generalize hkv:List.map kvD (List.map (fun q:Int×Int=>(q.1,Dt.int q.2)) g)=kvs
 have hlook:∀ i:Nat,ym kvs (Sum.inl (i:Int))=(gw g i).map Dt.int:=fun i=>by
  rw [<- hkv]
  exact ziB g i
 walk_at "st"
 refine uN (List.range rm.length) (fun i=>W.d (.tup [.int (i:Int),.int (rm.getD i 0)])) (zhN rm) (fun ρ=>∃ a b,ρ=[a,b,some (.dk kvs)]) (fun i=>lsD (cho rm g i)) (Nat.le_trans (by rw [List.length_range];exact hR.few) (by decide)) ⟨_,_,rfl⟩ ?_ ?_
 ·rintro i hi ρ' ⟨a,b,rfl⟩ C hC
  have hi':=List.mem_range.mp hi
  have hb:=hR.box _ (List.getElem_mem hi')
  have e:rm.getD i 0=rm[i]:=by simp [hi']
  have hC':C [some (.d (.int (i:Int))),some (.d (.int (rm.getD i 0))),some (.dk kvs)] n (lsD (cho rm g i)):=hC ⟨_,_,rfl⟩
  unfold cho at hC'
  walk_at "st"
  cases hg:gw g i with
  | some v=>
   rw [hg] at hC'
   have hl:=hlook i
   rw [hg] at hl
   refine ziS (by rw [hl];rfl) ?_
   walk_at "st"
   exact zgw hl hC'
  | none=>
   rw [hg] at hC'
   have hl:=hlook i
   rw [hg] at hl
   refine ziR (by rw [hl];rfl) ?_
   walk_at "st"
   refine ⟨⟨by lia,by lia⟩,?_⟩
   have e2:lsD (zt (rm.getD i 0))=Dt.lst (zgR (rm.getD i 0).toNat):=by unfold lsD zt zgR;rw [List.map_map];rfl
   rw [<- e2]
   exact hC'
 ·walk_at "st"
  refine ⟨chs rm g,by unfold chs;rw [List.map_map];rfl,by unfold chs;rw [List.length_map,List.length_range];exact hR.few,fun c hc=>?_,r⟩
  obtain ⟨i,hi,rfl⟩:=List.mem_map.mp hc
  have hi':=List.mem_range.mp hi
  have hb:=hR.box _ (List.getElem_mem hi')
  have e:rm.getD i 0=rm[i]:=by simp [hi']
  unfold cho
  cases gw g i with
  | some v=>simp
  | none=>rw [yu];lia
def uA (b x y:Int)(w:Wi):Bool:=decide (w.b=b/\w.r=x/\w.w=y)
def zbt (rm:List Int)(bk:List Wi)(b x y:Int):List (List Int):=(zaY rm [(b,y)]).filter fun st=>(bk.filter (uA b x y)).any fun w=>zx st w.g
inductive F_grounds  (Pn:PN):List W->Nat->(W->Nat->Prop)->Prop
 | i {n:Nat} {R:W->Nat->Prop} {rm:List Int} {bk:List Wi} {b x y:Int} (hR:RoomOk rm) (hp:yp rm<=64) (hB:∀ w∈bk,Giv rm w.g) (hl:bk.length<=100) (b0:0<=b) (b1:b<rm.length) (y0:0<=y) (y1:y<zE rm b) (h:R (.d (uC (zbt rm bk b x y))) n)  : F_grounds Pn [.d (stD rm),.d (zau bk),.d (.int b),.d (.int x),.d (.int y)] n R
theorem zcI (T:Txt K mg t):FnOk P w K mg base CX0 4 t.f9 t.d9 ["room","book","box","better","worse"] (spV 5 true F_grounds):=by
 have G4:=x8 (P:=P) (w:=w) (base:=base) T
 have G7:=ze3 (P:=P) (w:=w) (base:=base) T
 have G8:=zcJ (P:=P) (w:=w) (base:=base) T
 refine Fun.okW (k:=3) (fr:=true) [] 1 T.q9.F ua rfl (by decide) rfl fun cdv A outer s H E Pn hr=>⟨_,(zf (zit (wE zl <| yA T.q4 G4 hr (za (kv 0) ze)))
   (zf (wS zw <| zQ (i:=5) ua.nd (uT (N:=["wish","box","better","worse"]) (cix:=[none,some 2,some 3,some 4]) rfl ⟨rfl,by decide +kernel,rfl⟩ (wI uZ <| zbI K rfl (kv 1)) (fun _ _ _ _=>(wG zN <| zk (i:=0) (show (["wish","box","better","worse"]:List Str).Nodup by decide +kernel))) (fun _ _ _ _=>(zcx (wT zv <| yw (zbW hr.units) zfG (JE.bo (wE xG <| zcw (kb 0) (wO yR <| xD (JE.bo zg)) xC)) (JE.bo (z7 (za (kv 1) (za (kv 2) (za (kv 3) ze))))) (zL _)))) (fun _ _ _ _=>(zav yb y6 (kb 0) (JE.bo zg) (fun _ _=>rfl)))))
   (zi (zF (zik (z := "standing") (N:=["standing","givens"]) (cix:=[none,some 5]) rfl ⟨rfl,by decide +kernel,rfl⟩ (wI xF <| xB K rfl (wE zl <| yA T.q8 G8 hr (za (kv 0) (za (z7 (za (z7 (za (kv 2) (za (kv 4) ze))) ze)) ze)))) (fun _ _ _ _ _=>(wG zN <| zk (i:=0) (show (["standing","givens"]:List Str).Nodup by decide +kernel))) (fun _ _ _ _ _=>(zcx (wT zv <| xg (JE.bo (yG (zke rfl) zox (by rfl) T.b_any PyProof.Rows.boot_any (zq (JE.bo (uT (N:=["given","standing"]) (cix:=[none,some 0]) rfl ⟨rfl,by decide +kernel,rfl⟩ (wI xF <| xB K rfl (kv 1)) (fun _ _ _ _=>(wG zN <| zk (i:=0) (show (["given","standing"]:List Str).Nodup by decide +kernel))) (fun _ _ _ _=>xZ) (fun _ _ _ _=>(wE zl <| yA T.q7 G7 hr (za (kv 1) (za (kv 0) ze)))))) zD)))))) (fun _ _ _ _ _=>(kv 0))))))),fun ws n R hF=>?_⟩
 obtain @⟨_,_,rm,bk,b,x,y,hR,hp,hB,hl,b0,b1,y0,y1,r⟩:=hF
 walk_at "st"
 refine ⟨rm,rfl,hR.box,hp,?_⟩
 walk_at "st"
 refine zci bk (fun w=>.d (xI w)) (by rw [List.map_map];rfl) (fun ρ=>∃ v,ρ=[v,some (.d (.int b)),some (.d (.int x)),some (.d (.int y))]) (uA b x y) (fun w=>zbs w.g) (Nat.le_trans hl (by decide)) ⟨_,rfl⟩ ?_ ?_
 ·rintro w hw ρ' ⟨v,rfl⟩ C hC hN
  walk_at "st"
  have e1:zb9 [Dt.tup (w.g.map yI),.int w.b,.int w.r,.int w.w] (some 1) none=[w.b,w.r,w.w].map Dt.int:=rfl
  rw [e1]
  refine ⟨yL,yL (ns:=[b,x,y]),fun c hc=>?_⟩
  have hs:uA b x y w=c:=by
   unfold uA
   rw [Bool.eq_iff_iff,hc,decide_eq_true_iff]
   simp
  walk_at "st"
  cases c with
  | true=>
   walk_at "st"
   exact hC hs ⟨_,rfl⟩
  | false=>
   walk_at "st"
   exact hN hs ⟨_,rfl⟩
 ·walk_at "st"
  have hG:Giv rm [(b,y)]:=⟨fun q hq=>by rw [List.mem_singleton.mp hq];exact ⟨b0,b1,y0,y1⟩,List.pairwise_singleton _ _⟩
  refine F_keeping.i (g:=[(b,y)]) hR hG ?_
  walk_at "st"
  refine zci (zaY rm [(b,y)]) (fun so=>.d (stD so)) (by rw [List.map_map];rfl) (fun ρ=>∃ v,ρ=[v,some (.d (.lst ((bk.filter (uA b x y)).map fun w=>zbs w.g)))]) (fun so=>(bk.filter (uA b x y)).any fun w=>zx so w.g) (fun so=>stD so) (Nat.le_trans (uW hR) (by decide)) ⟨_,rfl⟩ ?_ ?_
  ·rintro so hso ρ' ⟨v,rfl⟩ C hC hN
   have hlen:=zbL hG so hso
   walk_at "st"
   refine uN (bk.filter (uA b x y)) (fun w=>.d (zbs w.g)) (by rw [List.map_map];rfl) (fun ρ=>∃ v,ρ=[v,some (.d (stD so))]) (fun w=>.bl (zx so w.g)) (Nat.le_trans (List.length_filter_le _ _) (Nat.le_trans hl (by decide))) ⟨_,rfl⟩ ?_ ?_
   ·rintro w hw ρ' ⟨v,rfl⟩ C hC
    have hg:=hB w (List.mem_filter.mp hw).1
    walk_at "st"
    refine F_kps.i (fun q hq=>?_) (hC ⟨_,rfl⟩)
    have:=hg.ok q hq
    rw [hlen]
    lia
   ·walk_at "st"
    refine ⟨(bk.filter (uA b x y)).map fun w=>zx so w.g,by rw [List.map_map];rfl,?_⟩
    have ea:((bk.filter (uA b x y)).map fun w=>zx so w.g).any id=(bk.filter (uA b x y)).any fun w=>zx so w.g:=by rw [List.any_map];rfl
    rw [ea]
    cases hc:(bk.filter (uA b x y)).any fun w=>zx so w.g with
    | true=>
     walk_at "st"
     exact hC hc ⟨_,rfl⟩
    | false=>
     walk_at "st"
     exact hN hc ⟨_,rfl⟩
  ·walk_at "st"
   exact r
def uI (ws:List W):Prop:=∃ (rm:List Int) (w1 w2 w3 w4:W),ws=[.d (stD rm),w1,w2,w3,w4]/\(∀ r∈rm,2<=r/\r<=4)/\64<yp rm
theorem zcK (T:Txt K mg t):FnOk P w K mg base (CX1 P w t.C_TooMany) 4 t.f9 t.d9 ["room","book","box","better","worse"] (spX 5 uI):=by
 have X_must_be_small:=x9 (P:=P) (w:=w) (base:=base) T
 refine okX (k:=3) T.q9.F ua rfl fun cdv A outer s H E Pn hr=>⟨_,(zix zhd T.q4 X_must_be_small hr (za (zio 0) ze)),fun ws n hl hF=>?_⟩
 obtain ⟨rm,w1,w2,w3,w4,rfl,hb,hp⟩:=hF
 exact ⟨_,rfl,rfl,rfl,rm,rfl,hb,hp⟩
inductive F_great  (Pn:PN):List W->Nat->(W->Nat->Prop)->Prop
 | i {n:Nat} {R:W->Nat->Prop} {p:Addr} (hP:IsQ Pn p) (h:∀ rm,RoomOk rm->64<yp rm->R (.d (stD rm)) (n+1)) (hn:n+5<=1000000:=by lia):F_great Pn [.pen p] n R
theorem zax (T:Txt K mg t):FnOk P w K mg base CX0 2 t.f10 t.d10 ["_law_pen_here"] (spV 1 false F_great):=by
 have G1:=zJ (P:=P) (w:=w) (base:=base) T
 refine Fun.okW (k:=1) (fr:=false) [] 1 T.q10.F xS rfl (by decide) rfl fun cdv A outer s H E Pn hr=>⟨_,(zf (wS zw <| zQ (i:=1) xS.nd (uU (za (z7 (za zg (za zg (za zg (za zg (za zg (za zg (za zg ze)))))))) (za (z7 (za zg (za zg (za zg (za zg (za zg (za zg (za zg (za zg ze))))))))) (za (z7 (za zg (za zg (za zg (za zg ze))))) (za (z7 (za zg (za zg (za zg (za zg ze))))) (za (z7 (za zg (za zg (za zg (za zg ze))))) (za (z7 (za zg (za zg (za zg (za zg ze))))) ze))))))))
   (zi (zF (zav zbp zjU (kb 1) (JE.bo (wE zl <| yA T.q1 G1 hr (za (kv 0) (za zg ze)))) (fun _ _=>rfl))))),fun ws n R hF=>?_⟩
 obtain @⟨_,_,p,hP,r,hn⟩:=hF
 walk_at "st"
 refine tk hP fun x x0 x1=>?_
 walk_at "st"
 refine zk2 (L:=[_,_,_,_,_,_]) x0 x1 fun y hy=>?_
 simp only [List.mem_cons,List.not_mem_nil,or_false] at hy
 walk_at "st"
 rcases hy with rfl | rfl | rfl | rfl | rfl | rfl
 ·exact r [2,2,2,2,2,2,2] ⟨by decide,by decide,by decide⟩ (by decide)
 ·exact r [2,2,2,2,2,2,2,2] ⟨by decide,by decide,by decide⟩ (by decide)
 ·exact r [4,4,4,4] ⟨by decide,by decide,by decide⟩ (by decide)
 ·exact r [3,3,3,3] ⟨by decide,by decide,by decide⟩ (by decide)
 ·exact r [4,2,4,4] ⟨by decide,by decide,by decide⟩ (by decide)
 ·exact r [3,3,2,4] ⟨by decide,by decide,by decide⟩ (by decide)
inductive F_mkR  (Pn:PN):List W->Nat->(W->Nat->Prop)->Prop
 | i {n:Nat} {R:W->Nat->Prop} {p:Addr} {most:Int} (hP:IsQ Pn p) (hm:most=64) (h:∀ rm m,RoomOk rm->yp rm<=64->m<=n+20->R (.d (stD rm)) m) (hn:n+30<=1000000:=by lia):F_mkR Pn [.pen p,.d (.int most)] n R
theorem zbc (T:Txt K mg t):FnOk P w K mg base CX0 2 t.f11 t.d11 ["_law_pen_here","_law_most"] (spV 2 false F_mkR):=by
 have G1:=zJ (P:=P) (w:=w) (base:=base) T
 refine Fun.okW (k:=1) (fr:=false) [] 4 T.q11.F zU rfl (by decide) rfl fun cdv A outer s H E Pn hr=>⟨_,(zf (wS zS <| xf (wT zv <| yw zcM zjT (JE.bo (wE zl <| yA T.q1 G1 hr (za (kv 0) (za zg ze)))) (JE.bo zg) (zL _)) (zi (zF (zav zbp zjU (JE.bo (uU (za (z7 (za zg (za zg (za zg (za zg (za zg (za zg ze))))))) (za (z7 (za zg (za zg (za zg ze)))) (za (z7 (za zg (za zg (za zg (za zg ze))))) (za (z7 (za zg (za zg (za zg (za zg ze))))) (za (z7 (za zg (za zg (za zg (za zg (za zg ze)))))) ze))))))) (JE.bo (wE zl <| yA T.q1 G1 hr (za (kv 0) (za zg ze)))) (fun _ _=>rfl)))) zR)
   (zf (wS zw <| zQ (i:=2) zU.nd (z7 ze))
   (zf (wS zw <| zQ (i:=3) zU.nd zg)
   (zf (xb PassesOwn.never rfl (wI x4 <| yM rfl T.b_range (zq (JE.bo (zas yx zbo (JE.bo zg) (JE.bo (wE zl <| yA T.q1 G1 hr (za (kv 0) (za zg ze)))))) zD)) (wG zN <| zk (i:=4) zU.nd) (zf (wS zw <| zQ (i:=5) zU.nd (zas yx zbo (JE.bo zg) (JE.bo (wE zl <| yA T.q1 G1 hr (za (kv 0) (za zg ze))))))
   (zi (wS zS <| xf (wT zv <| yw zlc u_le (JE.bo (zas zaa zmo (kb 3) (kb 5))) (kb 1) (zL _)) (zf (wS zw <| zQ (i:=2) zU.nd (zas yS uv (kb 2) (JE.bo (z7 (za (kv 5) ze)))))
   (zi (wS zw <| zQ (i:=3) zU.nd (zas zaa zmo (kb 3) (kb 5))))) zR))))
   (zi (zF (kv 2))))))),fun ws n R hF=>?_⟩
 obtain @⟨_,_,p,most,hP,hm,r,hn⟩:=hF
 walk_at "st"
 subst hm
 refine tk hP fun way w0 w1=>?_
 walk_at "st"
 refine zcL (fun _=>?_) (fun _=>?_)
 ·walk_at "st"
  refine tk hP fun x x0 x1=>?_
  walk_at "st"
  refine zk2 (L:=[_,_,_,_,_]) x0 x1 fun y hy=>?_
  simp only [List.mem_cons,List.not_mem_nil,or_false] at hy
  walk_at "st"
  rcases hy with rfl | rfl | rfl | rfl | rfl
  ·exact r [2,2,2,2,2,2] _ ⟨by decide,by decide,by decide⟩ (by decide) (by lia)
  ·exact r [4,4,4] _ ⟨by decide,by decide,by decide⟩ (by decide) (by lia)
  ·exact r [2,4,2,4] _ ⟨by decide,by decide,by decide⟩ (by decide) (by lia)
  ·exact r [3,3,3,2] _ ⟨by decide,by decide,by decide⟩ (by decide) (by lia)
  ·exact r [4,2,2,2,2] _ ⟨by decide,by decide,by decide⟩ (by decide) (by lia)
 walk_at "st"
 refine tk hP fun t t0 t1=>?_
 walk_at "st"
 refine ⟨⟨by lia,by lia⟩,zbE (fun i ρ m=>m=n+2+i/\i<=5/\∃ rs v4 v5,ρ=[some (.pen p),some (.d (.int 64)),some (.d (stD rs)),some (.d (.int (yp rs))),v4,v5]/\(∀ r∈rs,2<=r/\r<=4)/\yp rs<=64/\(0<i->rs≠[])) ⟨by lia,by lia,[],none,none,rfl,by simp,by decide,by lia⟩ ?_ ?_⟩
 ·rintro i ρ m hi ⟨rfl,hi5,rs,v4,v5,rfl,hrs,hp,hne⟩ C B E hC _ _
  have hpp:=zfc (ns:=rs) fun r hr=>by have:=hrs r hr;lia
  have h8:rs.length<=8:=um hrs (by lia)
  walk_at "st"
  refine tk hP fun x x0 x1=>?_
  walk_at "st"
  refine ⟨.inr ⟨by lia,by lia⟩,?_⟩
  walk_at "st"
  refine zcL (fun h=>?_) (fun h=>?_)
  ·walk_at "st"
   refine ⟨len1 (Nat.le_trans h8 (by decide)),?_⟩
   rw [cat1]
   walk_at "st"
   refine ⟨.inr ⟨by lia,by lia⟩,?_⟩
   walk_at "st"
   rw [<- yN]
   exact hC ⟨by lia,by lia,rs++[2+x],_,_,rfl,fun r hr=>by
    rcases List.mem_append.mp hr with z | z
    ·exact hrs r z
    ·rw [List.mem_singleton.mp z];lia,by rw [yN];exact h,fun _=>by simp⟩
  ·walk_at "st"
   refine hC ⟨by lia,by lia,rs,_,_,rfl,hrs,hp,fun _ z=>?_⟩
   subst z
   have e1:yp ([]:List Int)=1:=rfl
   rw [e1] at h
   lia
 ·rintro ρ m ⟨rfl,hi5,rs,v4,v5,rfl,hrs,hp,hne⟩
  walk_at "st"
  exact r rs _ ⟨hne (by lia),um hrs (by lia),hrs⟩ hp (by lia)
inductive F_kind  (Pn:PN):List W->Nat->(W->Nat->Prop)->Prop
 | i {n:Nat} {R:W->Nat->Prop} {p:Addr} {rm:List Int} (hP:IsQ Pn p) (hR:RoomOk rm) (h:∀ b x y:Int,0<=b->b<rm.length->0<=x->x<zE rm b->0<=y->y<zE rm b->R (.d (.tup [.int b,.int x,.int y])) (n+3)) (hn:n+10<=1000000:=by lia):F_kind Pn [.pen p,.d (stD rm)] n R
theorem xP (T:Txt K mg t):FnOk P w K mg base CX0 2 t.f12 t.d12 ["_law_pen_here","_law_room_here"] (spV 2 false F_kind):=by
 have G1:=zJ (P:=P) (w:=w) (base:=base) T
 refine Fun.okW (k:=1) (fr:=false) [] 2 T.q12.F xi rfl (by decide) rfl fun cdv A outer s H E Pn hr=>⟨_,(zf (wS zw <| zQ (i:=2) xi.nd (wE zl <| yA T.q1 G1 hr (za (kv 0) (za (yG xo zc3 (by rfl) T.b_len PySem.boot_len (zq (kb 1) zD)) ze))))
   (zf (wS zw <| zQ (i:=3) xi.nd (wE zl <| yA T.q1 G1 hr (za (kv 0) (za (zav yb y6 (kb 1) (kb 2) (fun _ _=>rfl)) ze))))
   (zi (zF (z7 (za (kv 2) (za (kv 3) (za (zas xR zmn (JE.bo (zas yx zbo (JE.bo (zas yx zbo (kb 3) (JE.bo zg))) (JE.bo (wE zl <| yA T.q1 G1 hr (za (kv 0) (za (zas zle zoB (JE.bo (zav yb y6 (kb 1) (kb 2) (fun _ _=>rfl))) (JE.bo zg)) ze)))))) (JE.bo (zav yb y6 (kb 1) (kb 2) (fun _ _=>rfl)))) ze)))))))),fun ws n R hF=>?_⟩
 obtain @⟨_,_,p,rm,hP,hR,r,hn⟩:=hF
 walk_at "st"
 have h8:=hR.few
 have h0:=List.length_pos_iff.mpr hR.ne
 walk_at "st"
 rw [List.length_map]
 refine tk hP fun b b0 b1=>?_
 have hb:=zah hR.box (b:=b) b0 b1
 walk_at "st"
 refine onA b0 b1 ?_
 walk_at "st"
 refine tk hP fun x x0 x1=>?_
 walk_at "st"
 refine onA b0 b1 ?_
 walk_at "st"
 refine tk hP fun y y0 y1=>?_
 walk_at "st"
 refine onA b0 b1 ?_
 walk_at "st"
 refine ⟨by lia,?_⟩
 walk_at "st"
 exact r b x _ b0 b1 x0 x1 (Int.emod_nonneg _ (by lia)) (Int.emod_lt_of_pos _ (by lia))
inductive F_mkGv  (Pn:PN):List W->Nat->(W->Nat->Prop)->Prop
 | i {n:Nat} {R:W->Nat->Prop} {p:Addr} {rm:List Int} {box few:Int} (hP:IsQ Pn p) (hR:RoomOk rm) (hf:1<=few) (hf2:few<=10) (h:∀ g m,Giv rm g->(∀ q∈g,q.1≠box)->m<=n+20->R (.d (zbs g)) m) (hn:n+40<=1000000:=by lia):F_mkGv Pn [.pen p,.d (stD rm),.d (.int box),.d (.int few)] n R
theorem xq (T:Txt K mg t):FnOk P w K mg base CX0 2 t.f13 t.d13 ["_law_pen_here","_law_room_here","_law_box","_law_few"] (spV 4 false F_mkGv):=by
 have G1:=zJ (P:=P) (w:=w) (base:=base) T
 refine Fun.okW (k:=1) (fr:=false) [4] 2 T.q13.F yU rfl (by decide) rfl fun cdv A outer s H E Pn hr=>⟨_,(zf (wS u3 <| zbJ (i:=4) yU.nd (uU ze))
   (zf (xb PassesOwn.never rfl (wI x4 <| yM rfl T.b_range (zq (JE.bo (yG xo zc3 (by rfl) T.b_len PySem.boot_len (zq (kb 1) zD))) zD)) (wG zN <| zk (i:=5) yU.nd) (zi (wS zS <| xf (JW.t (wW zcz <| zeN (wT zv <| yw ziY zoz (kb 5) (kb 2) (zL _)) (zbK (.inl rfl) (wT zv <| yw zgz u_gt (JE.bo (wE zl <| yA T.q1 G1 hr (za (kv 0) (za (kv 3) ze)))) (JE.bo zg) (zL _))))) (zi (wS za3 <| zdj 4 (z7 (za (kv 5) (za (wE zl <| yA T.q1 G1 hr (za (kv 0) (za (zav yb y6 (kb 1) (kb 5) (fun _ _=>rfl)) ze))) ze))))) zR)))
   (zi (zF (zaX uc zfH (by rfl) T.b_tuple PyProof.Rows.boot_tuple (zq (kb 4) zD)))))),fun ws n R hF=>?_⟩
 obtain @⟨_,_,p,rm,box,few,hP,hR,hf,hf2,r,hn⟩:=hF
 walk_at "st"
 have h8:=hR.few
 rw [List.length_map]
 refine ⟨⟨by lia,by lia⟩,zbE (fun i ρ m=>m<=n+2 * i/\i<=rm.length/\∃ g v5,ρ=[some (.pen p),some (.d (stD rm)),some (.d (.int box)),some (.d (.int few)),some (.d (.lst (g.map yI))),v5]/\Giv rm g/\(∀ q∈g,q.1≠box)/\(∀ q∈g,q.1<(i:Int))/\g.length<=i) ⟨by lia,Nat.zero_le _,[],_,rfl,⟨by simp,.nil⟩,by simp,by simp,by simp⟩ ?_ ?_⟩
 ·rintro i ρ m hi ⟨hm,hil,g,v5,rfl,hG,hap,hlt,hgl⟩ C B E hC _ _
  have hmb:=zah hR.box (b:=(i:Int)) (by lia) (by lia)
  walk_at "st"
  refine zk3 (fun hb=>?_) (fun _=>?_)
  rotate_left
  ·walk_at "st"
   exact hC ⟨by lia,by lia,g,_,rfl,hG,hap,fun q hq=>by have:=hlt q hq;lia,by lia⟩
  walk_at "st"
  refine tk hP fun t t0 t1=>?_
  walk_at "st"
  refine zcL (fun _=>?_) (fun _=>?_)
  rotate_left
  ·walk_at "st"
   exact hC ⟨by lia,by lia,g,_,rfl,hG,hap,fun q hq=>by have:=hlt q hq;lia,by lia⟩
  walk_at "st"
  refine onA (by lia) (by lia) ?_
  walk_at "st"
  refine tk hP fun u u0 u1=>?_
  walk_at "st"
  refine ⟨by rw [List.length_map];exact Nat.lt_of_le_of_lt (by lia:_<=8) (by decide),hC ⟨by lia,by lia,g++[((i:Int),u)],_,by rw [List.map_append];rfl,hG.snoc hlt (by lia) (by lia) u0 u1,fun q hq=>?_,fun q hq=>?_,by rw [List.length_append];simp;lia⟩⟩
  ·rcases List.mem_append.mp hq with z | z
   ·exact hap q z
   ·rw [List.mem_singleton.mp z];exact hb
  ·rcases List.mem_append.mp hq with z | z
   ·have:=hlt q z;lia
   ·rw [List.mem_singleton.mp z];show (i:Int)<((i+1:Nat):Int);lia
 ·rintro ρ m ⟨hm,hil,g,v5,rfl,hG,hap,hlt,hgl⟩
  walk_at "st"
  exact r g m hG hap (by lia)
inductive F_allR  (Pn:PN):List W->Nat->(W->Nat->Prop)->Prop
 | i {n:Nat} {R:W->Nat->Prop} {rm:List Int} (hR:RoomOk rm) (h:R (.d (uC (y4 (rm.map zt)))) n)  : F_allR Pn [.d (stD rm)] n R
theorem zbU (T:Txt K mg t):FnOk P w K mg base CX0 1 t.f14 t.d14 ["_law_room_here"] (spV 1 false F_allR):=by
 refine Fun.okW (k:=0) (fr:=false) [3] 4 T.q14.F yf rfl (by decide) rfl fun cdv A outer s H E Pn hr=>⟨_,(zf (wS zw <| zQ (i:=1) yf.nd (uU (za (z7 ze) ze)))
   (zf (xb PassesOwn.never rfl (wI uZ <| zbI K rfl (kv 0)) (wG zN <| zk (i:=2) yf.nd) (zf (wS u3 <| zbJ (i:=3) yf.nd (uU ze))
   (zf (xb PassesOwn.never rfl (wI xF <| xB K rfl (kv 1)) (wG zN <| zk (i:=4) yf.nd) (zi (wS ziG <| zkH 3 (uT (N:=["_law_worth","_law_one"]) (cix:=[none,some 4]) rfl ⟨rfl,by decide +kernel,rfl⟩ (wI x4 <| yM rfl T.b_range (zq (kb 2) zD)) (fun _ _ _ _=>(wG zN <| zk (i:=0) (show (["_law_worth","_law_one"]:List Str).Nodup by decide +kernel))) (fun _ _ _ _=>xZ) (fun _ _ _ _=>(zas yS uv (kb 1) (JE.bo (z7 (za (kv 0) ze)))))))))
   (zi (wS zgr <| ziu (i:=1) 3 yf.nd rfl (Or.inl rfl))))))
   (zi (zF (kv 1))))),fun ws n R hF=>?_⟩
 obtain @⟨_,_,rm,hR,r⟩:=hF
 walk_at "st"
 have hb:=hR.box
 refine xl rm (fun i=>.d (.int i)) (by rw [List.map_map];rfl) (fun i ρ m=>m=n/\∃ v2 v3 v4,ρ=[some (.d (stD rm)),some (.d (uC (y4 ((rm.take i).map zt)))),v2,v3,v4]) ⟨rfl,none,none,none,rfl⟩ ?_ ?_
 ·rintro i a ρ m ha ⟨rfl,v2,v3,v4,rfl⟩ C B E hC _ _
  have hm:=hb a (List.mem_of_getElem? ha)
  obtain ⟨w,rfl⟩:∃ w:Nat,a=(w:Int):=⟨a.toNat,by lia⟩
  have hfew:=zc6 hR.few hb i
  have hrow:∀ so∈y4 ((rm.take i).map zt),so.length<=8:=fun so hso=>by rw [xJ _ _ hso,List.length_map,List.length_take];have:=hR.few;lia
  have hall:y4 ((rm.take (i+1)).map zt)=(y4 ((rm.take i).map zt)).flatMap fun so=>(zt (w:Int)).map fun x=>so++[x]:=by
   rw [zo ha,List.map_append,List.map_cons,List.map_nil,yg]
   rfl
  generalize y4 ((rm.take i).map zt)=rows at hfew hall hrow
  walk_at "st"
  refine xl rows (fun so=>.d (stD so)) (by rw [List.map_map];rfl) (fun j ρ m'=>m'=m/\∃ v4,ρ=[some (.d (stD rm)),some (.d (uC rows)),some (.d (.int (w:Int))),some (.d (uC ((rows.take j).flatMap fun so=>(zt (w:Int)).map fun x=>so++[x]))),v4]) ⟨rfl,_,rfl⟩ ?_ ?_
  ·rintro j so ρ m' hso ⟨rfl,v4,rfl⟩ C2 B2 E2 hC2 _ _
   have h8:=hrow so (List.mem_of_getElem? hso)
   walk_at "st"
   refine ⟨⟨by lia,by lia⟩,?_⟩
   have hr2:(List.range w).map (fun k:Nat=>so++[(k:Int)])=(zt (w:Int)).map fun x=>so++[x]:=by unfold zt;rw [List.map_map,Int.toNat_natCast];rfl
   have hw4:w<=4:=by lia
   have hz:((rows.take j).flatMap fun so=>(zt (w:Int)).map fun x=>so++[x]).length<=262144:=by
    rw [List.length_flatMap]
    have e0:∀ l:List (List Int),((l.map fun so=>((zt (w:Int)).map fun x=>so++[x]).length).sum)=l.length * w:=fun l=>by
     induction l with
     | nil=>simp
     | cons y l ih=>rw [List.map_cons,List.sum_cons,ih,List.length_map,yu,List.length_cons,Nat.succ_mul,Int.toNat_natCast,Nat.add_comm]
    rw [e0,List.length_take]
    exact Nat.le_trans (Nat.mul_le_mul (Nat.le_trans (Nat.min_le_right _ _) hfew) hw4) (by decide)
   rw [Int.toNat_natCast,zgS]
   refine uN (List.range w) (fun k:Nat=>W.d (.int (k:Int))) rfl (fun ρ=>∃ v,ρ=[v,some (.d (stD so))]) (fun k=>stD (so++[(k:Int)])) (by rw [List.length_range];exact Nat.le_trans hw4 (by decide)) ⟨_,rfl⟩ ?_ ?_
   ·rintro k hk ρ' ⟨v,rfl⟩ C hC
    walk_at "st"
    refine ⟨len1 (Nat.le_trans h8 (by decide)),?_⟩
    rw [cat1]
    exact hC ⟨_,rfl⟩
   ·walk_at "st"
    refine ⟨by rw [List.length_map,List.length_map,List.length_range];exact Nat.le_trans (Nat.add_le_add hz hw4) (by decide),?_⟩
    refine hC2 ⟨rfl,some (.d (stD so)),?_⟩
    rw [zo hso,List.flatMap_append,List.flatMap_singleton,<- hr2]
    simp only [uC,List.map_append,List.map_map]
    rfl
  ·rintro ρ m' ⟨rfl,v4,rfl⟩
   rw [List.take_length,<- hall]
   walk_at "st"
   exact hC ⟨rfl,_,_,_,rfl⟩
 ·rintro ρ m ⟨rfl,v2,v3,v4,rfl⟩
  rw [List.take_length]
  walk_at "st"
  exact r
inductive F_keepsL  (Pn:PN):List W->Nat->(W->Nat->Prop)->Prop
 | i {n:Nat} {R:W->Nat->Prop} {st:List Int} {g:List (Int×Int)} (hg:∀ q∈g,0<=q.1/\q.1<st.length) (hl:g.length<=100) (h:R (.d (.bl (zx st g))) n)  : F_keepsL Pn [.d (stD st),.d (zbs g)] n R
theorem zay (T:Txt K mg t):FnOk P w K mg base CX0 1 t.f15 t.d15 ["_law_one","_law_given_here"] (spV 2 false F_keepsL):=by
 refine Fun.okW (k:=0) (fr:=false) [] 0 T.q15.F zbi rfl (by decide) rfl fun cdv A outer s H E Pn hr=>⟨_,(zi (zF (yG (zg7 rfl) zmm (by rfl) T.b_all PyProof.Rows.boot_all (zq (JE.bo (uT (N:=["_law_box","_law_worth","_law_one"]) (cix:=[none,none,some 0]) rfl ⟨rfl,by decide +kernel,rfl⟩ (wI uZ <| zbI K rfl (kv 1)) (fun _ _ _ _=>(wG ue <| ug (n:=2) K rfl rfl (wH ya <| zA (wG zN <| zk (i:=0) (show (["_law_box","_law_worth","_law_one"]:List Str).Nodup by decide +kernel)) (wH ya <| zA (wG zN <| zk (i:=1) (show (["_law_box","_law_worth","_law_one"]:List Str).Nodup by decide +kernel)) (wH ud xa))))) (fun _ _ _ _=>xZ) (fun _ _ _ _=>(zdM zcM zjT (JE.bo (zav yb y6 (kb 2) (kb 0) (fun _ _=>rfl))) (kb 1) (zL _))))) zD)))),fun ws n R hF=>?_⟩
 obtain @⟨_,_,st,g,hg,hl,r⟩:=hF
 walk_at "st"
 refine uN g (fun q=>.d (yI q)) (by rw [List.map_map];rfl) (fun ρ=>∃ a b,ρ=[a,b,some (.d (stD st))]) (fun q=>.bl (decide (zE st q.1=q.2))) (Nat.le_trans hl (by decide)) ⟨_,_,rfl⟩ ?_ ?_
 ·rintro q hq ρ' ⟨a,b,rfl⟩ C hC
  have hb:=hg q hq
  walk_at "st"
  refine onA hb.1 hb.2 ?_
  walk_at "st"
  exact hC ⟨_,_,rfl⟩
 ·walk_at "st"
  refine ⟨g.map fun q=>decide (zE st q.1=q.2),by rw [List.map_map];rfl,?_⟩
  have ea:(g.map fun q=>decide (zE st q.1=q.2)).all id=zx st g:=by unfold zx;rw [List.all_map];rfl
  rw [ea]
  exact r
theorem zkx {rm:List Int}{bk:List Wi}{b x y:Int}(hG:Giv rm [(b,y)]):zbt rm bk b x y=(y4 (rm.map zt)).filter fun so=>decide (zE so b=y)&&(bk.filter (uA b x y)).any fun w=>zx so w.g:=by
 unfold zbt
 rw [<- zcy hG,List.filter_filter]
 refine List.filter_congr fun so _=>?_
 have:zx so [(b,y)]=decide (zE so b=y):=by unfold zx;simp
 rw [this,Bool.and_comm]
inductive F_lgrounds  (Pn:PN):List W->Nat->(W->Nat->Prop)->Prop
 | i {n:Nat} {R:W->Nat->Prop} {rm:List Int} {bk:List Wi} {b x y:Int} (hR:RoomOk rm) (hB:∀ w∈bk,Giv rm w.g) (hl:bk.length<=100) (b0:0<=b) (b1:b<rm.length) (y0:0<=y) (y1:y<zE rm b) (h:R (.d (uC (zbt rm bk b x y))) n)  : F_lgrounds Pn [.d (stD rm),.d (zau bk),.d (.int b),.d (.int x),.d (.int y)] n R
theorem uz (T:Txt K mg t):FnOk P w K mg base CX0 2 t.f16 t.d16 ["_law_room_here","_law_book_here","_law_box","_law_better","_law_worse"] (spV 5 true F_lgrounds):=by
 have G14:=zbU (P:=P) (w:=w) (base:=base) T
 have G15:=zay (P:=P) (w:=w) (base:=base) T
 refine Fun.okW (k:=1) (fr:=true) [6] 3 T.q16.F z8 rfl (by decide) rfl fun cdv A outer s H E Pn hr=>⟨_,(zf (wS zw <| ziw (i:=5) (zgk (ix:=5) z8.nd rfl rfl (N:=["_law_wish","_law_box","_law_better","_law_worse"]) (cix:=[none,some 2,some 3,some 4]) rfl ⟨rfl,by decide +kernel,rfl⟩ (wI uZ <| zbI K rfl (kv 1)) (fun _ _ _ _=>(wG zN <| zk (i:=0) (show (["_law_wish","_law_box","_law_better","_law_worse"]:List Str).Nodup by decide +kernel))) (fun _ _ _ _=>(zcx (wT zv <| yw (zbW hr.units) zfG (JE.bo (wE xG <| zcw (kb 0) (wO yR <| xD (JE.bo zg)) xC)) (JE.bo (z7 (za (kv 1) (za (kv 2) (za (kv 3) ze))))) (zL _)))) (fun _ _ _ _=>(zav yb y6 (kb 0) (JE.bo zg) (fun _ _=>rfl)))))
   (zf (wS u3 <| zbJ (i:=6) z8.nd (uU ze))
   (zf (xb PassesOwn.never rfl (wI xF <| xB K rfl (wE zl <| yA T.q14 G14 hr (za (kv 0) ze))) (wG zN <| zk (i:=7) z8.nd) (zi (wS zS <| xf (JW.t (wW zcz <| zeN (wT zv <| yw zcM zjT (JE.bo (zav yb y6 (kb 7) (kb 2) (fun _ _=>rfl))) (kb 4) (zL _)) (zbK (.inl rfl) (wT zv <| yw ze6 zoy (JE.bo zfP) (JE.bo (uT (N:=["_law_given_here","_law_one"]) (cix:=[none,some 7]) rfl ⟨rfl,by decide +kernel,rfl⟩ (wI xF <| xB K rfl (kv 5)) (fun _ _ _ _=>(wG zN <| zk (i:=0) (show (["_law_given_here","_law_one"]:List Str).Nodup by decide +kernel))) (fun _ _ _ _=>xZ) (fun _ _ _ _=>(wE zl <| yA T.q15 G15 hr (za (kv 1) (za (kv 0) ze)))))) (by with_unfolding_all rfl))))) (zi (wS za3 <| zdj 6 (kv 7))) zR)))
   (zi (wS zgs <| ziv 6))))),fun ws n R hF=>?_⟩
 obtain @⟨_,_,rm,bk,b,x,y,hR,hB,hl,b0,b1,y0,y1,r⟩:=hF
 walk_at "st"
 have hG:Giv rm [(b,y)]:=⟨fun q hq=>by rw [List.mem_singleton.mp hq];exact ⟨b0,b1,y0,y1⟩,List.pairwise_singleton _ _⟩
 refine zci bk (fun w=>.d (xI w)) (by rw [List.map_map];rfl) (fun ρ=>∃ v,ρ=[v,some (.d (.int b)),some (.d (.int x)),some (.d (.int y))]) (uA b x y) (fun w=>zbs w.g) (Nat.le_trans hl (by decide)) ⟨_,rfl⟩ ?_ ?_
 ·rintro w hw ρ' ⟨v,rfl⟩ C hC hN
  walk_at "st"
  have e1:zb9 [Dt.tup (w.g.map yI),.int w.b,.int w.r,.int w.w] (some 1) none=[w.b,w.r,w.w].map Dt.int:=rfl
  rw [e1]
  refine ⟨yL,yL (ns:=[b,x,y]),fun c hc=>?_⟩
  have hs:uA b x y w=c:=by
   unfold uA
   rw [Bool.eq_iff_iff,hc,decide_eq_true_iff]
   simp
  walk_at "st"
  cases c with
  | true=>
   walk_at "st"
   exact hC hs ⟨_,rfl⟩
  | false=>
   walk_at "st"
   exact hN hs ⟨_,rfl⟩
 ·walk_at "st"
  refine F_allR.i hR ?_
  walk_at "st"
  refine xl (y4 (rm.map zt)) (fun so=>.d (stD so)) (by rw [List.map_map];rfl) (fun i ρ m=>m=n/\∃ v7,ρ=[some (.d (stD rm)),some (.d (zau bk)),some (.d (.int b)),some (.d (.int x)),some (.d (.int y)),some (.d (.lst ((bk.filter (uA b x y)).map fun w=>zbs w.g))),some (.d (uC (((y4 (rm.map zt)).take i).filter fun so=>decide (zE so b=y)&&(bk.filter (uA b x y)).any fun w=>zx so w.g))),v7]) ⟨rfl,_,rfl⟩ ?_ ?_
  ·rintro i so ρ m hso ⟨rfl,v7,rfl⟩ C B E hC _ _
   have hmem:=List.mem_of_getElem? hso
   have hlen:so.length=rm.length:=by rw [xJ _ _ hmem,List.length_map]
   have hfew:(y4 (rm.map zt)).length<=65536:=by have:=zc6 hR.few hR.box rm.length;rw [List.take_length] at this;exact this
   have nxt:∀ {c:Bool},(decide (zE so b=y)&&(bk.filter (uA b x y)).any fun w=>zx so w.g)=c->((y4 (rm.map zt)).take (i+1)).filter (fun so=>decide (zE so b=y)&&(bk.filter (uA b x y)).any fun w=>zx so w.g)=((y4 (rm.map zt)).take i).filter (fun so=>decide (zE so b=y)&&(bk.filter (uA b x y)).any fun w=>zx so w.g)++(if c then [so] else []):=fun {c} hc=>by
    rw [zo hso,List.filter_append,List.filter_cons,List.filter_nil,hc]
   walk_at "st"
   refine onA b0 (by lia) ?_
   walk_at "st"
   refine zcL (fun h=>?_) (fun h=>?_)
   rotate_left
   ·walk_at "st"
    have e:=nxt (c:=false) (by rw [decide_eq_false h];rfl)
    rw [if_neg (by decide),List.append_nil] at e
    exact hC ⟨rfl,_,by rw [e]⟩
   walk_at "st"
   refine uN (bk.filter (uA b x y)) (fun w=>.d (zbs w.g)) (by rw [List.map_map];rfl) (fun ρ=>∃ v,ρ=[v,some (.d (stD so))]) (fun w=>.bl (zx so w.g)) (Nat.le_trans (List.length_filter_le _ _) (Nat.le_trans hl (by decide))) ⟨_,rfl⟩ ?_ ?_
   ·rintro w hw ρ' ⟨v,rfl⟩ C hC
    have hg:=hB w (List.mem_filter.mp hw).1
    walk_at "st"
    refine F_keepsL.i (fun q hq=>?_) ?_ (hC ⟨_,rfl⟩)
    ·have:=hg.ok q hq
     rw [hlen]
     lia
    ·have:=zcq hg hR.few
     lia
   ·walk_at "st"
    refine ⟨(bk.filter (uA b x y)).map fun w=>zx so w.g,by rw [List.map_map];rfl,?_⟩
    have ea:((bk.filter (uA b x y)).map fun w=>zx so w.g).contains true=(bk.filter (uA b x y)).any fun w=>zx so w.g:=by
     rw [Bool.eq_iff_iff,List.contains_iff_mem,List.mem_map,List.any_eq_true]
    rw [ea]
    cases hc:(bk.filter (uA b x y)).any fun w=>zx so w.g with
    | true=>
     have e:=nxt (c:=true) (by rw [decide_eq_true h,hc];rfl)
     rw [if_pos rfl] at e
     walk_at "st"
     refine ⟨by rw [List.length_map];exact Nat.lt_of_le_of_lt (Nat.le_trans (List.length_filter_le _ _) (Nat.le_trans (by rw [List.length_take];exact Nat.min_le_right _ _) hfew):_<=65536) (by decide),?_⟩
     exact hC ⟨rfl,some (.d (stD so)),by rw [e];simp only [uC,List.map_append,List.map_cons,List.map_nil]⟩
    | false=>
     have e:=nxt (c:=false) (by rw [hc,Bool.and_false])
     rw [if_neg (by decide),List.append_nil] at e
     walk_at "st"
     exact hC ⟨rfl,_,by rw [e]⟩
  ·rintro ρ m ⟨rfl,v7,rfl⟩
   rw [List.take_length,<- zkx hG]
   walk_at "st"
   exact r
theorem zh2 {rm:List Int}{g:List (Int×Int)}{k:Nat}(h:Giv rm g):Giv rm (g.take k++g.drop (k+1)):=by
 have hs:(g.take k++g.drop (k+1)).Sublist g:=by
  have e:=List.take_append_drop k g
  conv=>rhs;rw [<- e]
  refine List.Sublist.append (List.Sublist.refl _) ?_
  rw [<- List.drop_drop]
  exact List.drop_sublist 1 _
 exact ⟨fun q hq=>h.ok q (hs.subset hq),h.up.sublist hs⟩
theorem zh4 {rm:List Int}{g:List (Int×Int)}{k:Nat}{q:Int×Int}{x:Int}(h:Giv rm g)(hk:g[k]?=some q)(x0:0<=x)(x1:x<zE rm q.1):Giv rm (g.take k++[(q.1,x)]++g.drop (k+1)):=by
 have e:g=g.take k++[q]++g.drop (k+1):=by
  rw [<- zo hk,List.take_append_drop]
 have hm:(g.take k++[(q.1,x)]++g.drop (k+1)).map (·.1)=g.map (·.1):=by
  conv=>rhs;rw [e]
  simp
 refine ⟨fun q2 hq=>?_,?_⟩
 ·rcases List.mem_append.mp hq with z | z
  ·rcases List.mem_append.mp z with z | z
   ·exact h.ok q2 (List.mem_of_mem_take z)
   ·rw [List.mem_singleton.mp z]
    have:=h.ok q (List.mem_of_getElem? hk)
    exact ⟨this.1,this.2.1,x0,x1⟩
  ·exact h.ok q2 (List.mem_of_mem_drop z)
 ·have h2:(g.map (·.1)).Pairwise (· < ·):=List.pairwise_map.mpr h.up
  rw [<- hm] at h2
  exact List.pairwise_map.mp h2
inductive F_near  (Pn:PN):List W->Nat->(W->Nat->Prop)->Prop
 | i {n:Nat} {R:W->Nat->Prop} {p:Addr} {rm:List Int} {box:Int} {g:List (Int×Int)} (hP:IsQ Pn p) (hR:RoomOk rm) (hG:Giv rm g) (h:∀ g' m,Giv rm g'->m<=n+2->R (.d (zbs g')) m) (hn:n+10<=1000000:=by lia):F_near Pn [.pen p,.d (stD rm),.d (.int box),.d (zbs g)] n R
theorem zbb (T:Txt K mg t):FnOk P w K mg base CX0 2 t.f17 t.d17 ["_law_pen_here","_law_room_here","_law_box","_law_given_here"] (spV 4 false F_near):=by
 have G1:=zJ (P:=P) (w:=w) (base:=base) T
 refine Fun.okW (k:=1) (fr:=false) [] 4 T.q17.F yj rfl (by decide) rfl fun cdv A outer s H E Pn hr=>⟨_,(zf (wS zS <| xf (wT zv <| yw (zbW hr.units) zfG (kb 3) (JE.bo (z7 ze)) (zL _)) (zi (zF (kv 3))) zR)
   (zf (wS zw <| zQ (i:=4) yj.nd (wE zl <| yA T.q1 G1 hr (za (kv 0) (za (yG xo zc3 (by rfl) T.b_len PySem.boot_len (zq (kb 3) zD)) ze))))
   (zf (wS zw <| zQ (i:=5) yj.nd (wE zl <| yA T.q1 G1 hr (za (kv 0) (za zg ze))))
   (zf (wS zS <| xf (wT zv <| yw zcM zjT (kb 5) (JE.bo zg) (zL _)) (zi (zF (zas yS uv (JE.bo (wE xG <| zcw (kb 3) xC (wO yR <| xD (kb 4)))) (JE.bo (wE xG <| zcw (kb 3) (wO yR <| xD (JE.bo (zas yx zbo (kb 4) (JE.bo zg)))) xC))))) zR)
   (zf (wS zS <| xf (wT zv <| yw zcM zjT (kb 5) (JE.bo zg) (zL _)) (zf (zdk (zav yb y6 (kb 3) (kb 4) (fun _ _=>rfl)) (wG ue <| ug (n:=2) K rfl rfl (wH ya <| zA (wG zN <| zk (i:=6) yj.nd) (wH ya <| zA (wG zN <| zk (i:=7) yj.nd) (wH ud xa)))))
   (zi (zF (zas yS uv (JE.bo (zas yS uv (JE.bo (wE xG <| zcw (kb 3) xC (wO yR <| xD (kb 4)))) (JE.bo (z7 (za (z7 (za (kv 6) (za (zas xR zmn (JE.bo (zas yx zbo (kb 7) (JE.bo zg))) (JE.bo (zav yb y6 (kb 1) (kb 6) (fun _ _=>rfl)))) ze))) ze))))) (JE.bo (wE xG <| zcw (kb 3) (wO yR <| xD (JE.bo (zas yx zbo (kb 4) (JE.bo zg)))) xC)))))) zR)
   (zi (zF (kv 3)))))))),fun ws n R hF=>?_⟩
 obtain @⟨_,_,p,rm,box,g,hP,hR,hG,r,hn⟩:=hF
 walk_at "st"
 have h8:=zcq hG hR.few
 refine ⟨zdI.1,yL (ns:=[]),fun c hc=>?_⟩
 walk_at "st"
 cases c with
 | true=>
  walk_at "st"
  exact r g _ hG (by lia)
 | false=>
  have hne:g≠[]:=fun z=>by
   subst z
   exact absurd (hc.mpr rfl) (by decide)
  have hpos:=List.length_pos_iff.mpr hne
  walk_at "st"
  rw [List.length_map]
  refine tk hP fun a a0 a1=>?_
  obtain ⟨k,rfl⟩:∃ k:Nat,a=(k:Int):=⟨a.toNat,by lia⟩
  have hk:k<g.length:=by lia
  obtain ⟨q,hq⟩:∃ q,g[k]?=some q:=⟨g[k],List.getElem?_eq_getElem hk⟩
  have e1:zb9 (g.map yI) none (some (k:Int))=(g.take k).map yI:=by rw [zel,zf0]
  have e2:zb9 (g.map yI) (some ((k:Int)+1)) none=(g.drop (k+1)).map yI:=by rw [zel,show ((k:Int)+1)=((k+1:Nat):Int) by lia,zek]
  have l1:(g.take k).length<=100:=by rw [List.length_take];lia
  have l2:(g.drop (k+1)).length<=100:=by rw [List.length_drop];lia
  walk_at "st"
  refine tk hP fun w w0 w1=>?_
  walk_at "st"
  refine zcL (fun _=>?_) (fun _=>?_)
  ·walk_at "st"
   rw [e1,e2]
   refine ⟨by rw [List.length_map,List.length_map];exact Nat.le_trans (by lia:_<=200) (by decide),?_⟩
   rw [<- List.map_append]
   exact r _ _ (zh2 hG) (by lia)
  ·walk_at "st"
   refine zcL (fun _=>?_) (fun _=>?_)
   ·have hqo:=hG.ok q (List.mem_of_getElem? hq)
    have hmb:=zah hR.box (b:=q.1) hqo.1 hqo.2.1
    walk_at "st"
    refine onG hq ?_
    walk_at "st"
    refine onA hqo.1 hqo.2.1 ?_
    walk_at "st"
    refine ⟨by lia,?_⟩
    walk_at "st"
    rw [e1]
    refine ⟨by rw [List.length_map];exact Nat.le_trans (Nat.add_le_add l1 (Nat.le_refl 1)) (by decide),?_⟩
    walk_at "st"
    rw [e2]
    refine ⟨by rw [List.length_append,List.length_map,List.length_map];exact Nat.le_trans (Nat.add_le_add (Nat.add_le_add l1 (Nat.le_refl 1)) l2) (by decide),?_⟩
    have e3:(g.take k).map yI++[Dt.tup [Dt.int q.1,Dt.int ((q.2+1) % zE rm q.1)]]++(g.drop (k+1)).map yI=(g.take k++[(q.1,(q.2+1) % zE rm q.1)]++g.drop (k+1)).map yI:=by rw [List.map_append,List.map_append];rfl
    rw [e3]
    exact r _ _ (zh4 hG hq (Int.emod_nonneg _ (by lia)) (Int.emod_lt_of_pos _ (by lia))) (by lia)
   ·walk_at "st"
    exact r g _ hG (by lia)
theorem eqW {bk:List Wi}:(Dt.lst (bk.map xI)).eqOk/\(Dt.tup (bk.map xI)).eqOk:=by
 have e:(Dt.toWs (bk.map xI)).all (PySem.W.kqdOk 7)=true:=by
  induction bk with
  | nil=>rfl
  | cons x l ih=>simp only [List.map_cons,Dt.toWs,List.all_cons,ih,zgm x,Bool.and_true]
 exact ⟨e,e⟩
inductive F_book  (Pn:PN):List W->Nat->(W->Nat->Prop)->Prop
 | i {n:Nat} {R:W->Nat->Prop} {p:Addr} {rm:List Int} (hP:IsQ Pn p) (hR:RoomOk rm) (h:∀ (bk:List Wi) (b x y:Int) (m:Nat),(∀ w∈bk,Giv rm w.g)->bk.length<=12->0<=b->b<rm.length->0<=x->x<zE rm b->0<=y->y<zE rm b->m<=n+600->R (.d (.tup [zau bk,.tup [.int b,.int x,.int y]])) m) (hn:n+700<=1000000:=by lia):F_book Pn [.pen p,.d (stD rm)] n R
theorem zba (T:Txt K mg t):FnOk P w K mg base CX0 3 t.f18 t.d18 ["_law_pen_here","_law_room_here"] (spV 2 false F_book):=by
 have G1:=zJ (P:=P) (w:=w) (base:=base) T
 have G12:=xP (P:=P) (w:=w) (base:=base) T
 have G13:=xq (P:=P) (w:=w) (base:=base) T
 have G17:=zbb (P:=P) (w:=w) (base:=base) T
 refine Fun.okW (k:=2) (fr:=false) [4] 7 T.q18.F zy rfl (by decide) rfl fun cdv A outer s H E Pn hr=>⟨_,(zf (wS zw <| zQ (i:=2) zy.nd (wE zl <| yA T.q12 G12 hr (za (kv 0) (za (kv 1) ze))))
   (zf (wS zw <| zQ (i:=3) zy.nd (zas yx zbo (JE.bo zg) (JE.bo (wE zl <| yA T.q1 G1 hr (za (kv 0) (za zg ze))))))
   (zf (wS u3 <| zbJ (i:=4) zy.nd (uU ze))
   (zf (xb PassesOwn.never rfl (wI x4 <| yM rfl T.b_range (zq (JE.bo (wE zl <| yA T.q1 G1 hr (za (kv 0) (za zg ze)))) zD)) (wG zN <| zk (i:=5) zy.nd) (zf (wS zw <| zQ (i:=6) zy.nd (wE zl <| yA T.q13 G13 hr (za (kv 0) (za (kv 1) (za (zav yb y6 (kb 2) (JE.bo zg) (fun _ _=>rfl)) (za (kv 3) ze))))))
   (zf (wS zS <| xf (JW.t (wW zcz <| zeN (wT zv <| yw (zld hr.units) zoA (kb 4) (JE.bo (uU ze)) (zL _)) (zbK (.inl rfl) (wT zv <| yw zgz u_gt (JE.bo (wE zl <| yA T.q1 G1 hr (za (kv 0) (za zg ze)))) (JE.bo zg) (zL _))))) (zi (wS zw <| zQ (i:=6) zy.nd (wE zl <| yA T.q17 G17 hr (za (kv 0) (za (kv 1) (za (zav yb y6 (kb 2) (JE.bo zg) (fun _ _=>rfl)) (za (zav yb y6 (JE.bo (zav zbp zjU (kb 4) (JE.bo (wE zl <| yA T.q1 G1 hr (za (kv 0) (za (yG xo zc3 (by rfl) T.b_len PySem.boot_len (zq (kb 4) zD)) ze)))) (fun _ _=>rfl))) (JE.bo zg) (fun _ _=>rfl)) ze))))))) zR)
   (zi (wS za3 <| zdj 4 (zas yS uv (JE.bo (z7 (za (kv 6) ze))) (kb 2)))))))
   (zf (xb PassesOwn.never rfl (wI x4 <| yM rfl T.b_range (zq (JE.bo (wE zl <| yA T.q1 G1 hr (za (kv 0) (za zg ze)))) zD)) (wG zN <| zk (i:=5) zy.nd) (zf (wS zw <| zQ (i:=7) zy.nd (wE zl <| yA T.q12 G12 hr (za (kv 0) (za (kv 1) ze))))
   (zf (wS zw <| zQ (i:=8) zy.nd (zas yS uv (JE.bo (z7 (za (wE zl <| yA T.q13 G13 hr (za (kv 0) (za (kv 1) (za (zav yb y6 (kb 7) (JE.bo zg) (fun _ _=>rfl)) (za (kv 3) ze))))) ze))) (kb 7)))
   (zi (wS ziI <| zkI 4 (wE zl <| yA T.q1 G1 hr (za (kv 0) (za (zas yx zbo (JE.bo (yG xo zc3 (by rfl) T.b_len PySem.boot_len (zq (kb 4) zD))) (JE.bo zg)) ze))) (kv 8))))))
   (zi (zF (z7 (za (zaX uc zfH (by rfl) T.b_tuple PyProof.Rows.boot_tuple (zq (kb 4) zD)) (za (kv 2) ze)))))))))),fun ws n R hF=>?_⟩
 obtain @⟨_,_,p,rm,hP,hR,r,hn⟩:=hF
 walk_at "st"
 refine F_kind.i hP hR fun b x y b0 b1 x0 x1 y0 y1=>?_
 walk_at "st"
 refine tk hP fun f f0 f1=>?_
 walk_at "st"
 refine tk hP fun c c0 c1=>?_
 walk_at "st"
 refine ⟨⟨by lia,by lia⟩,zbE (fun i ρ m=>m<=n+5+30 * i/\i<=8/\∃ bk v5 v6 v7 v8,ρ=[some (.pen p),some (.d (stD rm)),some (.d (.tup [.int b,.int x,.int y])),some (.d (.int (2+f))),some (.d (.lst (bk.map xI))),v5,v6,v7,v8]/\(∀ w∈bk,Giv rm w.g)/\bk.length=i) ⟨by lia,by lia,[],none,none,none,none,rfl,by simp,rfl⟩ ?_ ?_⟩
 ·rintro i ρ m hi ⟨hm,hi8,bk,v5,v6,v7,v8,rfl,hB,hlen⟩ C B E hC _ _
  walk_at "st"
  refine F_mkGv.i hP hR (by lia) (by lia) fun g m2 hG _ hm2=>?_
  walk_at "st"
  have fin:∀ (g:List (Int×Int)) (n1:Nat),Giv rm g->n1<=m+25->C [some (.pen p),some (.d (stD rm)),some (.d (.tup [.int b,.int x,.int y])),some (.d (.int (2+f))),some (.d (.lst (bk.map xI++[xI ⟨g,b,x,y⟩]))),some (.d (.int (i:Int))),some (.d (zbs g)),v7,v8] n1:=fun g n1 hG hn1=>hC ⟨by lia,by lia,bk++[⟨g,b,x,y⟩],_,_,_,_,by rw [List.map_append];rfl,fun w hw=>by
   rcases List.mem_append.mp hw with z | z
   ·exact hB w z
   ·rw [List.mem_singleton.mp z];exact hG,by rw [List.length_append,hlen];rfl⟩
  have hlt:(bk.map xI).length<lim:=by rw [List.length_map];exact Nat.lt_of_le_of_lt (by lia:_<=8) (by decide)
  refine ⟨eqW.1,zdH (ns:=[]),fun c hc=>?_⟩
  walk_at "st"
  cases c with
  | true=>
   with_reducible refine ziR rfl ?_
   walk_at "st"
   exact ⟨(show 1+3<=lim by decide),hlt,fin g m2 hG (by lia)⟩
  | false=>
   have hne:bk≠[]:=fun z=>by
    subst z
    exact absurd (hc.mpr rfl) (by decide)
   have hpos:=List.length_pos_iff.mpr hne
   with_reducible refine ziS rfl ?_
   walk_at "st"
   refine tk hP fun u u0 u1=>?_
   walk_at "st"
   refine zcL (fun _=>?_) (fun _=>?_)
   rotate_left
   ·walk_at "st"
    exact ⟨(show 1+3<=lim by decide),hlt,fin g (m2+1) hG (by lia)⟩
   walk_at "st"
   rw [show atI [Dt.int b,Dt.int x,Dt.int y] 0=some (Dt.int b) from rfl]
   walk_at "st"
   rw [List.length_map]
   refine tk hP fun a a0 a1=>?_
   obtain ⟨k,rfl⟩:∃ k:Nat,a=(k:Int):=⟨a.toNat,by lia⟩
   have hk:k<bk.length:=by lia
   walk_at "st"
   refine onG (x:=bk[k]) (List.getElem?_eq_getElem hk) ?_
   walk_at "st"
   refine F_near.i hP hR (hB _ (List.getElem_mem hk)) fun g' m3 hG' hm3=>?_
   walk_at "st"
   exact ⟨(show 1+3<=lim by decide),hlt,fin g' m3 hG' (by lia)⟩
 ·rintro ρ m ⟨hm,hi8,bk,v5,v6,v7,v8,rfl,hB,hlen⟩
  walk_at "st"
  refine tk hP fun e e0 e1=>?_
  walk_at "st"
  refine ⟨⟨by lia,by lia⟩,zbE (fun i ρ m'=>m'<=m+1+30 * i/\i<=5/\∃ bk v5 v6 v7 v8,ρ=[some (.pen p),some (.d (stD rm)),some (.d (.tup [.int b,.int x,.int y])),some (.d (.int (2+f))),some (.d (.lst (bk.map xI))),v5,v6,v7,v8]/\(∀ w∈bk,Giv rm w.g)/\bk.length=c.toNat+i) ⟨by lia,by lia,bk,_,_,_,_,rfl,hB,hlen⟩ ?_ ?_⟩
  ·rintro i ρ m' hi ⟨hm',hi5,bk,v5,v6,v7,v8,rfl,hB,hlen⟩ C B E hC _ _
   have hb12:bk.length<=12:=by lia
   walk_at "st"
   refine F_kind.i hP hR fun b2 x2 y2 b20 b21 x20 x21 y20 y21=>?_
   walk_at "st"
   rw [show atI [Dt.int b2,Dt.int x2,Dt.int y2] 0=some (Dt.int b2) from rfl]
   walk_at "st"
   refine F_mkGv.i hP hR (by lia) (by lia) fun g m2 hG _ hm2=>?_
   walk_at "st"
   refine ⟨(show 1+3<=lim by decide),?_⟩
   walk_at "st"
   rw [List.length_map]
   refine tk hP fun a a0 a1=>?_
   walk_at "st"
   refine ⟨⟨a0,by lia,Nat.lt_of_le_of_lt hb12 (by decide)⟩,?_⟩
   have e0:zfO (bk.map xI) a.toNat (Dt.tup ([zbs g]++[Dt.int b2,Dt.int x2,Dt.int y2]))=(zfO bk a.toNat ⟨g,b2,x2,y2⟩).map xI:=zid xI bk a.toNat ⟨g,b2,x2,y2⟩
   rw [e0]
   exact hC ⟨by lia,by lia,zfO bk a.toNat ⟨g,b2,x2,y2⟩,_,_,_,_,rfl,fun w hw=>by
    rcases List.mem_append.mp hw with z | z
    ·exact hB w (List.mem_of_mem_take z)
    ·rcases List.mem_cons.mp z with z | z
     ·rw [z];exact hG
     ·exact hB w (List.mem_of_mem_drop z),by rw [zic];lia⟩
  ·rintro ρ m' ⟨hm',hi5,bk,v5,v6,v7,v8,rfl,hB,hlen⟩
   walk_at "st"
   exact r bk b x y _ hB (by lia) b0 b1 x0 x1 y0 y1 (by lia)
def Dp:Nat->Dt->Prop
 | 0,_=>False
 | _+1,.int _=>True
 | k+1,.tup l=>l.length<=100000/\∀ d∈l,Dp k d
 | k+1,.lst l=>l.length<=100000/\∀ d∈l,Dp k d
 | _+1,_=>False
@[reducible] def zd3 (k:Nat):FV:=fun _ ws n R=>match k with
 | 0=>False
 | k+1=>∃ x,ws=[.d x,.d x]/\Dp (k+1) x/\R (.d (.bl true)) n
theorem zdy (l:List Dt):ziW l l=l.map fun d=>W.d (.tup [d,d]):=by
 refine List.ext_getElem? fun i=>?_
 rw [zbq,List.getElem?_map]
 cases l[i]? <;> rfl
theorem za9 (T:Txt K mg t)(k:Nat):FnOk P w K mg base CX0 k t.f19 t.d19 ["_law_found","_law_due"] (spV 2 false (zd3 k)):=by
 induction k
 ·exact zmx fun _ _ _ _ z=>z
 rename_i k G19
 refine Fun.okW (k:=k) (fr:=false) [] 0 T.q19.F zb1 rfl (by decide) rfl fun cdv A outer s H E Pn hr=>⟨_,(zf (wS zS <| xf (wT zv <| xg (JE.bo (wE yH <| zbH (kb 1) T.b_isinstance T.b_tuple T.b_list))) (zf (wS zS <| xf (JW.t (wW zhk <| zkK (wT zv <| yw ziY zoz (JE.bo (wE yH <| xp (by rfl) T.b_isinstance T.b_tuple (kb 0))) (JE.bo (wE yH <| xp (by rfl) T.b_isinstance T.b_tuple (kb 1))) (zL _)) (zbK (.inr rfl) (wT x5 <| uV (wT zv <| xg (JE.bo (wE yH <| zbH (kb 0) T.b_isinstance T.b_tuple T.b_list))))))) (zi (zF zfP)) zR)
   (zi (zF (wE uD <| zgj (JE.bo (zdM zcM zjT (JE.bo (yG xo zc3 (by rfl) T.b_len PySem.boot_len (zq (kb 0) zD))) (JE.bo (yG xo zc3 (by rfl) T.b_len PySem.boot_len (zq (kb 1) zD))) (zL _))) (zin (yG (zg7 rfl) zmm (by rfl) T.b_all PyProof.Rows.boot_all (zq (JE.bo (uT (N:=["_law_one","_law_other"]) (cix:=[none,none]) rfl ⟨rfl,by decide +kernel,rfl⟩ (zis rfl T.b_zip (za (kv 0) (za (kv 1) ze))) (fun _ _ _ _=>(wG ue <| ug (n:=2) K rfl rfl (wH ya <| zA (wG zN <| zk (i:=0) (show (["_law_one","_law_other"]:List Str).Nodup by decide +kernel)) (wH ya <| zA (wG zN <| zk (i:=1) (show (["_law_one","_law_other"]:List Str).Nodup by decide +kernel)) (wH ud xa))))) (fun _ _ _ _=>xZ) (fun _ _ _ _=>(wE zl <| yA T.q19 G19 hr (za (kv 0) (za (kv 1) ze)) (Nat.le_refl _))))) zD))))))) zR)
   (zf (wS zS <| xf (JW.t (wW zhk <| zkK (wT zv <| xg (JE.bo (wE yH <| yo (by rfl) T.b_isinstance T.b_bool (kb 0)))) (zbK (.inr rfl) (wT zv <| xg (JE.bo (wE yH <| yo (by rfl) T.b_isinstance T.b_bool (kb 1))))))) (zi (zF (wE uD <| zgj (JE.bo (wE yH <| yo (by rfl) T.b_isinstance T.b_bool (kb 0))) (wE uD <| zgj (JE.bo (wE yH <| yo (by rfl) T.b_isinstance T.b_bool (kb 1))) (zin (zdM (zbW hr.units) zfG (kb 0) (kb 1) (zL _))))))) zR)
   (zi (zF (wE uD <| zgj (JE.bo (zdM zcM zjT (JE.bo (wE yH <| uf (by rfl) T.b_isinstance T.b_str (kb 0))) (JE.bo (wE yH <| uf (by rfl) T.b_isinstance T.b_str (kb 1))) (zL _))) (zin (zdM (zbW hr.units) zfG (kb 0) (kb 1) (zL _)))))))),fun ws n R hF=>?_⟩
 obtain ⟨x,rfl,hD,r⟩:=hF
 cases x with
 | int i=>
  walk_at "st"
  rw [show decide (zge (Dt.int i)=zge (Dt.int i))=true from decide_eq_true rfl]
  walk_at "st"
  refine ⟨rfl,rfl,fun c hc=>?_⟩
  obtain rfl:c=true:=hc.mpr rfl
  exact r
 | tup l=>
  walk_at "st"
  rw [show (!decide ((Dt.tup l).isTup=(Dt.tup l).isTup))=false by rw [decide_eq_true rfl];rfl]
  walk_at "st"
  rw [show decide ((l.length:Int)=(l.length:Int))=true from decide_eq_true rfl]
  walk_at "st"
  refine Or.inl ?_
  change ∃ (l1 k1:List Dt),_/\_
  refine ⟨l,l,rfl,rfl,?_⟩
  refine uN l (fun d=>W.d (.tup [d,d])) (zdy l) (fun ρ=>∃ a b,ρ=[a,b]) (fun _=>.bl true) (Nat.le_trans hD.1 (by decide)) ⟨_,_,rfl⟩ ?_ ?_
  ·rintro d hd ρ' ⟨a,b,rfl⟩ C hC
   walk_at "st"
   cases k with
   | zero=>exact (hD.2 d hd).elim
   | succ k=>exact ⟨d,rfl,hD.2 d hd,hC ⟨_,_,rfl⟩⟩
  ·walk_at "st"
   refine ⟨l.map fun _=>true,by rw [List.map_map];rfl,?_⟩
   rw [show (l.map fun _=>true).all id=true by rw [List.all_map];simp]
   exact r
 | lst l=>
  walk_at "st"
  rw [show (!decide ((Dt.lst l).isTup=(Dt.lst l).isTup))=false by rw [decide_eq_true rfl];rfl]
  walk_at "st"
  rw [show decide ((l.length:Int)=(l.length:Int))=true from decide_eq_true rfl]
  walk_at "st"
  refine Or.inr ?_
  change ∃ (l1 k1:List Dt),_/\_
  refine ⟨l,l,rfl,?_⟩
  refine uN l (fun d=>W.d (.tup [d,d])) (zdy l) (fun ρ=>∃ a b,ρ=[a,b]) (fun _=>.bl true) (Nat.le_trans hD.1 (by decide)) ⟨_,_,rfl⟩ ?_ ?_
  ·rintro d hd ρ' ⟨a,b,rfl⟩ C hC
   walk_at "st"
   cases k with
   | zero=>exact (hD.2 d hd).elim
   | succ k=>exact ⟨d,rfl,hD.2 d hd,hC ⟨_,_,rfl⟩⟩
  ·walk_at "st"
   refine ⟨l.map fun _=>true,by rw [List.map_map];rfl,?_⟩
   rw [show (l.map fun _=>true).all id=true by rw [List.all_map];simp]
   exact r
 | non=>exact hD.elim
 | bl b=>exact hD.elim
 | str b=>exact hD.elim
 | dct=>exact hD.elim
theorem zbd (T:Txt K mg t):FnOk P w K mg base CX0 4 t.f19 t.d19 ["_law_found","_law_due"] (spV 2 false (zd3 4)):=za9 T 4
theorem zh6 {rm:List Int}{bk:List Wi}{b x y:Int}:zbt rm bk.reverse b x y=zbt rm bk b x y:=by
 unfold zbt
 simp only [List.filter_reverse,List.any_reverse]
theorem zh7 {rm:List Int}{bk:List Wi}{b x y:Int}:zbt rm (bk++bk) b x y=zbt rm bk b x y:=by
 unfold zbt
 simp only [List.filter_append,List.any_append,Bool.or_self]
theorem zkw {rm:List Int}{bk:List Wi}{b x y:Int}(hR:RoomOk rm)(hG:Giv rm [(b,y)]):Dp 4 (uC (zbt rm bk b x y)):=by
 refine ⟨?_,fun d hd=>?_⟩
 ·rw [List.length_map]
  exact Nat.le_trans (Nat.le_trans (List.length_filter_le _ _) (uW hR)) (by decide)
 ·obtain ⟨so,hso,rfl⟩:=List.mem_map.mp hd
  have hl:=zbL hG so (List.mem_filter.mp hso).1
  refine ⟨?_,fun e he=>?_⟩
  ·rw [List.length_map,hl]
   exact Nat.le_trans hR.few (by decide)
  ·obtain ⟨i,_,rfl⟩:=List.mem_map.mp he
   trivial
inductive F_right  (Pn:PN):List W->Nat->(W->Nat->Prop)->Prop
 | i {n:Nat} {R:W->Nat->Prop} {rm:List Int} {bk:List Wi} {b x y:Int} (hR:RoomOk rm) (hp:yp rm<=64) (hB:∀ w∈bk,Giv rm w.g) (hl:bk.length<=12) (b0:0<=b) (b1:b<rm.length) (y0:0<=y) (y1:y<zE rm b) (h:R (.d (.bl true)) n)  : F_right Pn [.d (stD rm),.d (zau bk),.d (.int b),.d (.int x),.d (.int y)] n R
theorem zaz (T:Txt K mg t):FnOk P w K mg base CX0 5 t.f20 t.d20 ["_law_room_here","_law_book_here","_law_box","_law_better","_law_worse"] (spV 5 false F_right):=by
 have G9:=zcI (P:=P) (w:=w) (base:=base) T
 have G16:=uz (P:=P) (w:=w) (base:=base) T
 have G19:=zbd (P:=P) (w:=w) (base:=base) T
 refine Fun.okW (k:=4) (fr:=false) [6] 3 T.q20.F yq rfl (by decide) rfl fun cdv A outer s H E Pn hr=>⟨_,(zf (wS zw <| zQ (i:=5) yq.nd (wE zl <| yA T.q16 G16 hr (za (kv 0) (za (kv 1) (za (kv 2) (za (kv 3) (za (kv 4) ze)))))))
   (zf (wS u3 <| zbJ (i:=6) yq.nd (wE zl <| yA T.q9 G9 hr (za (kv 0) (za (kv 1) (za (kv 2) (za (kv 3) (za (kv 4) ze)))))))
   (zf (wS zS <| xf (wT x5 <| uV (wT zv <| xg (JE.bo (wE ziH <| znz T.q19 G19 hr (zq (kb 6) (zq (kb 5) zD)))))) (zi (zF zfP)) zR)
   (zf (wS zcB <| zdN 6)
   (zf (wS za3 <| zdj 6 znA)
   (zf (xb PassesOwn.never rfl (wI xF <| xB K rfl (uU (za (kv 1) (za (wE zgt <| zkF (kb 1)) (za (zas yS uv (kb 1) (kb 1)) ze))))) (wG zN <| zk (i:=7) yq.nd) (zi (wS zS <| xf (wT x5 <| uV (wT zv <| xg (JE.bo (wE zl <| yA T.q19 G19 hr (za (wE zl <| yA T.q9 G9 hr (za (kv 0) (za (kv 7) (za (kv 2) (za (kv 3) (za (kv 4) ze)))))) (za (kv 5) ze)))))) (zi (zF zfP)) zR)))
   (zi (zF zfP)))))))),fun ws n R hF=>?_⟩
 obtain @⟨_,_,rm,bk,b,x,y,hR,hp,hB,hl,b0,b1,y0,y1,r⟩:=hF
 walk_at "st"
 have hG:Giv rm [(b,y)]:=⟨fun q hq=>by rw [List.mem_singleton.mp hq];exact ⟨b0,b1,y0,y1⟩,List.pairwise_singleton _ _⟩
 refine F_lgrounds.i hR hB (by lia) b0 b1 y0 y1 ?_
 walk_at "st"
 refine F_grounds.i hR hp hB (by lia) b0 b1 y0 y1 ?_
 walk_at "st"
 have hD:=zkw (bk:=bk) (x:=x) hR hG
 refine ⟨uC (zbt rm bk b x y),rfl,hD,?_⟩
 refine ⟨rfl,?_⟩
 walk_at "st"
 have hfew:(zbt rm bk b x y).length<=65536:=Nat.le_trans (List.length_filter_le _ _) (uW hR)
 refine ⟨by rw [List.length_reverse,List.length_map];exact Nat.lt_of_le_of_lt hfew (by decide),?_⟩
 walk_at "st"
 refine ⟨by rw [List.length_map];exact Nat.le_trans (by lia:_<=100) (by decide),?_⟩
 generalize Dt.lst ((List.map stD (zbt rm bk b x y)).reverse++[Dt.non])=zz
 rw [<- List.map_reverse,<- List.map_append]
 walk_at "st"
 refine xl [bk,bk.reverse,bk++bk] (fun k=>.d (zau k)) rfl (fun i ρ m=>m=n/\∃ v7,ρ=[some (.d (stD rm)),some (.d (zau bk)),some (.d (.int b)),some (.d (.int x)),some (.d (.int y)),some (.d (uC (zbt rm bk b x y))),some (.d zz),v7]) ⟨rfl,_,rfl⟩ ?_ ?_
 ·rintro i k ρ m hk ⟨rfl,v7,rfl⟩ C B E hC _ _
  have hk':=List.mem_of_getElem? hk
  have hkk:(∀ w∈k,Giv rm w.g)/\k.length<=24/\zbt rm k b x y=zbt rm bk b x y:=by
   simp only [List.mem_cons,List.not_mem_nil,or_false] at hk'
   rcases hk' with rfl | rfl | rfl
   ·exact ⟨hB,by lia,rfl⟩
   ·exact ⟨fun w hw=>hB w (List.mem_reverse.mp hw),by rw [List.length_reverse];lia,zh6⟩
   ·exact ⟨fun w hw=>(List.mem_append.mp hw).elim (hB w) (hB w),by rw [List.length_append];lia,zh7⟩
  obtain ⟨k1,k2,k3⟩:=hkk
  walk_at "st"
  refine F_grounds.i hR hp k1 (by lia) b0 b1 y0 y1 ?_
  rw [k3]
  walk_at "st"
  refine ⟨uC (zbt rm bk b x y),rfl,hD,?_⟩
  walk_at "st"
  exact hC ⟨rfl,_,rfl⟩
 ·rintro ρ m ⟨rfl,v7,rfl⟩
  walk_at "st"
  exact r
theorem zk1 (T:Txt K mg t)(hB:base.BuiltinsAt mg t.PT):FnOk P w K mg base CX0 7 t.f21 t.d21 ["_law_script"] (zb4 K t.PT):=by
 have uI:=zcK (P:=P) (w:=w) (base:=base) T
 have G0:FnOk P w K mg base CX0 1 t.f0 t.d0 ["_law_script"] (zgU K):=zcG T
 have G1:=zJ (P:=P) (w:=w) (base:=base) T
 have G11:=zbc (P:=P) (w:=w) (base:=base) T
 have G10:=zax (P:=P) (w:=w) (base:=base) T
 have G12:=xP (P:=P) (w:=w) (base:=base) T
 have G13:=xq (P:=P) (w:=w) (base:=base) T
 have G18:=zba (P:=P) (w:=w) (base:=base) T
 have G20:=zaz (P:=P) (w:=w) (base:=base) T
 refine zkX (S:=[]) (k:=6) (r:=10) (lq:=(PyProof.Rows.envOfC "law" (zc zcY) 0 0 .none).qual ++ "<lambda>") [] T.q21.F yz rfl rfl (by decide) fun cdv A outer s H E Pn hr hcd=>⟨_,_,_,rfl,(yE (i:=1) yz.nd rfl (Or.inl rfl) (zjt T.q0 G0 hr (zp (qv 0) zZ))),(zf (xb PassesOwn.never rfl (wI x4 <| yM rfl T.b_range (zq (JE.bo zg) zD)) (wG zN <| zk (i:=2) yz.nd) (zf (wS zw <| zQ (i:=3) yz.nd (wE zl <| yA T.q11 G11 hr (za (kv 1) (za zg ze))))
   (zf (zdk (wE zl <| yA T.q18 G18 hr (za (kv 1) (za (kv 3) ze))) (wG ue <| ug (n:=2) K rfl rfl (wH ya <| zA (wG zN <| zk (i:=4) yz.nd) (wH ya <| zA (wG zN <| zk (i:=5) yz.nd) (wH ud xa)))))
   (zf (zdk (kv 5) (wG ue <| ug (n:=3) K rfl rfl (wH ya <| zA (wG zN <| zk (i:=6) yz.nd) (wH ya <| zA (wG zN <| zk (i:=7) yz.nd) (wH ya <| zA (wG zN <| zk (i:=8) yz.nd) (wH ud xa))))))
   (zf (xb PassesOwn.never rfl (wI xF <| xB K rfl (uU (za (kv 5) (za (z7 (za (kv 6) (za (kv 8) (za (kv 7) ze)))) (za (wE zl <| yA T.q12 G12 hr (za (kv 1) (za (kv 3) ze))) ze))))) (wG zN <| zk (i:=9) yz.nd) (zi (wS zS <| xf (wT x5 <| uV (wT zv <| xg (JE.bo (wE zl <| yA T.q20 G20 hr (za (kv 3) (za (kv 4) (za (zav yb y6 (kb 9) (JE.bo zg) (fun _ _=>rfl)) (za (zav yb y6 (kb 9) (JE.bo zg) (fun _ _=>rfl)) (za (zav yb y6 (kb 9) (JE.bo zg) (fun _ _=>rfl)) ze))))))))) (zi (zF zfP)) zR)))
   (zf (wS zw <| zQ (i:=10) yz.nd (wE zl <| yA T.q10 G10 hr (za (kv 1) ze)))
   (zf (zdk (wE zl <| yA T.q12 G12 hr (za (kv 1) (za (kv 10) ze))) (wG ue <| ug (n:=3) K rfl rfl (wH ya <| zA (wG zN <| zk (i:=6) yz.nd) (wH ya <| zA (wG zN <| zk (i:=7) yz.nd) (wH ya <| zA (wG zN <| zk (i:=8) yz.nd) (wH ud xa))))))
   (zf (wS zw <| zQ (i:=11) yz.nd (wE xG <| zcw (JE.bo (z7 (za (z7 (za (wE zl <| yA T.q13 G13 hr (za (kv 1) (za (kv 10) (za (kv 6) (za zg ze))))) (za (kv 6) (za (kv 7) (za (kv 8) ze))))) ze))) xC (wO yR <| xD (JE.bo (wE zl <| yA T.q1 G1 hr (za (kv 1) (za zg ze)))))))
   (zi (wS zS <| xf (wT x5 <| uV (wT zv <| xg (JE.bo (zeM (N:=["_law_great_here","_law_more","_law_box","_law_better","_law_worse"]) (cix:=[some 10,some 11,some 6,some 7,some 8]) (k:=4) rfl (fun _=>rfl) (zat T) hr (by decide) T.q5.m T.q5.F.kp ⟨rfl,by decide +kernel,rfl⟩ (by decide) rfl rfl T.lam hB (hcd.symm.trans T.lamc) rfl (fun _ _ _ _=>rfl) T.q9 uI (by decide) rfl (fun _ _ _ _ _ _ _ _ hr3=>(za (kv 0) (za (kv 1) (za (kv 2) (za (kv 3) (za (kv 4) ze)))))))))) (zi (zF zfP)) zR))))))))))
   (zi (zF zfP))),fun p c ns hPn=>?_⟩
 subst hPn
 have hP:IsQ ⟨some (p,c,ns),zdX t.PT ((PyProof.Rows.envOfC "law" (zc zcY) 0 0 .none).qual ++ "<lambda>")⟩ p:=⟨⟨_,_,rfl⟩,zgD⟩
 have hJ:(⟨some (p,c,ns),zdX t.PT ((PyProof.Rows.envOfC "law" (zc zcY) 0 0 .none).qual ++ "<lambda>")⟩:PN).J=zdX t.PT ((PyProof.Rows.envOfC "law" (zc zcY) 0 0 .none).qual ++ "<lambda>"):=rfl
 generalize (⟨some (p,c,ns),zdX t.PT ((PyProof.Rows.envOfC "law" (zc zcY) 0 0 .none).qual ++ "<lambda>")⟩:PN)=Pn at hP hJ
 refine zlY ?_
 walk_at "st"
 refine ⟨⟨by lia,by lia⟩,zbE (fun i ρ m=>m<=2000 * i/\i<=3/\∃ v2 v3 v4 v5 v6 v7 v8 v9 va vb,ρ=[none,some (.pen p),v2,v3,v4,v5,v6,v7,v8,v9,va,vb]) ⟨by lia,by lia,_,_,_,_,_,_,_,_,_,_,rfl⟩ ?_ ?_⟩
 ·rintro i ρ m hi ⟨hm,hi3,v2,v3,v4,v5,v6,v7,v8,v9,va,vb,rfl⟩ C B E hC _ _
  walk_at "st"
  refine F_mkR.i hP rfl fun rm m1 hR hp hm1=>?_
  walk_at "st"
  refine F_book.i hP hR fun bk b x y m2 hB hl b0 b1 x0 x1 y0 y1 hm2=>?_
  walk_at "st"
  refine F_kind.i hP hR fun b2 x2 y2 b20 b21 x20 x21 y20 y21=>?_
  walk_at "st"
  refine xl [(b,x,y),(b,y,x),(b2,x2,y2)] (fun q:Int×Int×Int=>W.d (.tup [.int q.1,.int q.2.1,.int q.2.2])) rfl (fun i2 ρ m'=>m'=m2+3/\∃ v9,ρ=[none,some (.pen p),some (.d (.int (i:Int))),some (.d (stD rm)),some (.d (zau bk)),some (.d (.tup [.int b,.int x,.int y])),some (.d (.int b)),some (.d (.int x)),some (.d (.int y)),v9,va,vb]) ⟨rfl,_,rfl⟩ ?_ ?_
  ·rintro i2 q ρ m' hq ⟨rfl,v9,rfl⟩ C2 B2 E2 hC2 _ _
   have hq':=List.mem_of_getElem? hq
   have hqq:0<=q.1/\q.1<rm.length/\0<=q.2.2/\q.2.2<zE rm q.1:=by
    simp only [List.mem_cons,List.not_mem_nil,or_false] at hq'
    rcases hq' with rfl | rfl | rfl
    ·exact ⟨b0,b1,y0,y1⟩
    ·exact ⟨b0,b1,x0,x1⟩
    ·exact ⟨b20,b21,y20,y21⟩
   obtain ⟨q0,q1,q2,q3⟩:=hqq
   walk_at "st"
   refine F_right.i (rm:=rm) (bk:=bk) (b:=q.1) (x:=q.2.1) (y:=q.2.2) hR hp hB hl q0 q1 q2 q3 ?_
   walk_at "st"
   exact hC2 ⟨rfl,_,rfl⟩
  ·rintro ρ m' ⟨rfl,v9,rfl⟩
   walk_at "st"
   refine F_great.i hP fun rm2 hR2 hp2=>?_
   walk_at "st"
   refine F_kind.i hP hR2 fun b3 x3 y3 b30 b31 x30 x31 y30 y31=>?_
   walk_at "st"
   refine F_mkGv.i hP hR2 (by lia) (by lia) fun g m4 hG _ hm4=>?_
   walk_at "st"
   refine tk hP fun u u0 u1=>?_
   refine ⟨hJ,⟨rfl,rfl,rm2,_,_,_,_,rfl,hR2.box,hp2⟩,?_⟩
   walk_at "st"
   exact hC ⟨by lia,by lia,_,_,_,_,_,_,_,_,_,_,rfl⟩
 ·rintro ρ m ⟨hm,hi3,v2,v3,v4,v5,v6,v7,v8,v9,va,vb,rfl⟩
  walk_at "st"
end
theorem Dm {K:PySem.W.Frag}{h:Heap}{mg:Str->Option Value}{x:Str}{st:Stmt}{ps:List Str}{f:Addr}{oc kV dc pm cd ct:Value}{od an:Option Addr}{sl:Array (Option Value)}(X:K.In h)(G:h.Ns mainGlobals mg)(a:PySem.W.nsIn K mainGlobals x=some (some (.ref f)))(l:K.lookup f=some ⟨oc,od,.func (PySem.W.fnOf x x (xz st) (zH st) (zc st) .none kV dc pm an cd ct),sl⟩)(c:PySem.W.codeIn K cd x=true)(k:PySem.W.keepIn K (.ref f)=true)(b:∀ (kV dc pm:Value) (an:Option Addr) (cd ct:Value) (us:List Value),us.length=ps.length->bindArgs (PySem.W.fnOf x x (xz st) (zH st) (zc st) .none kV dc pm an cd ct) ⟨us,[]⟩=pure (ps.zip us)):Dfn K mg x st ps f (PySem.W.fnOf x x (xz st) (zH st) (zc st) .none kV dc pm an cd ct):=⟨zhe l c k,(zhe l c k).binds b,PySem.W.mg_of X G a⟩
theorem Mm {K:PySem.W.Frag}{h:Heap}{mg:Str->Option Value}{x:Str}{C D:Addr}(X:K.In h)(G:h.Ns mainGlobals mg)(a:PySem.W.nsIn K mainGlobals x=some (some (.ref C)))(e:C=D):mg x=some (.ref D):=e ▸ PySem.W.mg_of X G a
theorem Ym {K:PySem.W.Frag}{h:Heap}{mg:Str->Option Value}{x:Str}{i:Int}{u:Tok}(X:K.In h)(G:h.Ns mainGlobals mg)(a:PySem.W.nsIn K mainGlobals x=some (some (.int i u))):∃ v,zX (.int i) v/\mg x=some v:=⟨_,⟨_,rfl⟩,PySem.W.mg_of X G a⟩
theorem fin {l:PySem.W.OpenLaw}{w:World}{K:PySem.W.Frag}{mg:Str->Option Value}{fa:Addr}{t:Ad}(hfa:mg "law" = some (.ref fa))(T:Txt K mg t)(b:∀ (s:Shared) (v:Value),BindsTo s t.d21 ⟨[v],[]⟩ [("_law_script",v)]):∃ fd:FuncData,(∀ (s:Shared) (v:Value),BindsTo s fd ⟨[v],[]⟩ [("_law_script",v)])/\(∀ h:Heap,K.In h->∃ c,PySem.W.CodeHd h c t.PT)/\∀ base:Heap,K.In base->base.Ns mainGlobals mg->base.BuiltinsAt mg t.PT->FnOk l.prog w K mg base CX0 7 fa fd ["_law_script"] (zb4 K t.PT):=by
 have e:=hfa.symm.trans T.q21.m
 cases e
 exact ⟨_,b,fun h X=>⟨_,T.lam.hd h X⟩,fun base _ _ hB=>zk1 T hB⟩
theorem walk {l:PySem.W.OpenLaw}{q:Program}{loose:List Str}{XP:(Str->Option Value)->Heap->Prop}{YP:World->Heap->Prop}{d:DefRec}{K:Params->PySem.W.Frag}{T:Addr}(hn:l.most=some 63)(hdf:d.params.defaults=[])
  (hY:∀ (w:World) (h:Heap),YP w h->(K w.params).In h/\h.get? T=some (PySem.W.tabObj #[])) (hKT:∀ w:World,(K w.params).lookup T=none)
  (F:∀ (w:World) (mg:Str->Option Value) (fa:Addr) (h:Heap),(K w.params).In h->h.Ns mainGlobals mg->mg d.name=some (.ref fa)->
   ∃ fd:FuncData,(∀ (s:Shared) (u:Value),BindsTo s fd ⟨[u],[]⟩ [("_law_script",u)])/\(∀ h:Heap,(K w.params).In h->∃ c,PySem.W.CodeHd h c T)/\∀ base:Heap,(K w.params).In base->base.Ns mainGlobals mg->base.BuiltinsAt mg T->FnOk l.prog w (K w.params) mg base CX0 7 fa fd ["_law_script"] (zb4 (K w.params) T)) :
  PySem.W.WalkO q loose XP YP l.row.toRowW d [] (fun f vs=>PySem.call f vs):=
 L2.zgY (T:=T) (n:=63) (k:=7) (x := "_law_script") (CX:=fun _=>CX0) (sp:=fun w=>zb4 (K w.params) T) hn (by decide) hdf ⟨rfl,by decide,by decide,rfl⟩ hY hKT F (fun _ _ a ns hl hO hS=>⟨a,ns,rfl,hS,hl,hO,fun _ h=>⟨rfl,h⟩⟩) fun _ _ _ _ _ z=>z
end Law
open PySem PySem.W PyProof.Rows
theorem PySem.W.Fast.te13052408679150730464:True:=.intro
theorem PySem.W.Fast.te13590782946482404596:True:=.intro
set_option maxRecDepth 100000 in
set_option maxHeartbeats 0 in
theorem PySem.Challenge.cw_allelse_k46_grounds_told_holds : PySem.Challenge.rw_allelse_k46_grounds_told.Holds := by
 w_on;refine holds_law (by decide +kernel) fun _=>?_;k_head;(case hw=>w_witness2)
 k_fill
 refine Law.walk (l:=PySem.Challenge.rw_allelse_k46_grounds_told) rfl rfl (fun w h Y=>⟨PySem.W.km_in_of Y,PySem.W.km_tabs_of Y _ (List.mem_singleton.mpr rfl)⟩) ?KT ?F
 (case KT=>intro w;rfl)
 case F=>
  intro w mg fa h KX G hmg
  refine' Law.fin (t:=⟨_,_,_,_,_,_,_,_,_,_,_,_,_,_,_,_,_,_,_,_,_,_,_,_,_,_,_,_,_,_,_,_,_,_,_,_,_,_,_,_,_,_,_,_,_,_,_,_,_,_,_,_,_,_,_,_,_⟩) hmg ⟨?D0,?D1,?D2,?D3,?D4,?D5,?D6,?D7,?D8,?D9,?D10,?D11,?D12,?D13,?D14,?D15,?D16,?D17,?D18,?D19,?D20,?D21,?z_ValueError,?z_dict,?z_range,?z_all,?z_tuple,?z_isinstance,?z_len,?z_list,?z_bool,?z_any,?z_abs,?z_str,?z_enumerate,?z_zip,?m_TooMany,?m_WishError,?m_HasRing,?m_IsBetter,?m_NotSettled,?m_NotKept,?m_NoWish,?m_NoBook,?m_NoText,?m_Full,?m_NoStanding,?er,?xc,?lam,?lamc,?y_MOST_OF_SMALL⟩ fun s v=>?b
  (case D0 | D1 | D2 | D3 | D4 | D5 | D6 | D7 | D8 | D9 | D10 | D11 | D12 | D13 | D14 | D15 | D16 | D17 | D18 | D19 | D20 | D21=>(dsimp only;refine' Law.Dm (by assumption) (by assumption) ?da ?dl ?dc ?dk ?db;(case da=>k_is);(case dl=>k_is);(case dc=>k_is);(case dk=>k_is);(case db=>(intro _ _ _ _ _ _ us hl;first | (obtain ⟨_,e⟩:=L2.us_1 hl;subst e;rfl) | (obtain ⟨_,_,e⟩:=L2.us_2 hl;subst e;rfl) | (obtain ⟨_,_,_,_,e⟩:=L2.us_4 hl;subst e;rfl) | (obtain ⟨_,_,_,_,_,e⟩:=L2.us_5 hl;subst e;rfl)))))
  (case z_ValueError | z_dict | z_range | z_all | z_tuple | z_isinstance | z_len | z_list | z_bool | z_any | z_abs | z_str | z_enumerate | z_zip=>(refine' PySem.W.mg_none_of (by assumption) (by assumption) ?dz;(case dz=>k_is)))
  (case y_MOST_OF_SMALL=>(refine' Law.Ym (by assumption) (by assumption) ?dz;(case dz=>k_is)))
  (case m_TooMany | m_WishError | m_HasRing | m_IsBetter | m_NotSettled | m_NotKept | m_NoWish | m_NoBook | m_NoText | m_Full | m_NoStanding=>(dsimp only;refine' Law.Mm (by assumption) (by assumption) ?dz ?dy;(case dz=>k_is);(case dy=>exact rfl)))
  (case er=>(dsimp only;refine' ⟨⟨?e1,?e2,?e3,?e4⟩,⟨?f1,?f2,?f3,?f4⟩,PySem.W.mg_of (by assumption) (by assumption) ?g1,PySem.W.mg_of (by assumption) (by assumption) ?g2,?g3,?g4,?g5,?g6⟩;all_goals (first | k_is | kernel_rfl)))
  (case xc=>(dsimp only;refine' ⟨PySem.W.mg_of (by assumption) (by assumption) ?h1,?h2⟩;all_goals (first | k_is | kernel_rfl)))
  (case lamc=>rfl)
  (case lam=>(dsimp only;exact ⟨fun h X=>PySem.W.codeHd_of_K X (by kernel_rfl),by decide⟩))
  (case b=>exact .of_eq rfl)
