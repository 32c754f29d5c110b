import PyProof.Rows.All
import Wide.All
import OpenK.AllK
import Wide.FinOn
import Lean
import PyProof.EqAt
import PyProof.EqKinds
import PyProof.TupleCall
import PySem.Challenge.RW_allelse_k06_whole_rooms_and_givens
set_option Elab.async false
set_option linter.all false
set_option maxRecDepth 100000
set_option maxHeartbeats 4000000
namespace L2
open PySem PySem.Spec PyProof.Rows
abbrev Key:=Sum Int Str
def ze6:Key->Value->Bool
 | .inl k,v=>Value.isInt k v
 | .inr x,v=>Value.isStrOf x v
def keyH (w:World):Key->Int
 | .inl k=>hashInt k
 | .inr x=>hashStr w x
theorem zP:∀ {k:Key} {v:Value},ze6 k v=true->(∃ i t,k=Sum.inl i/\v=Value.int i t)\/(∃ x t,k=Sum.inr x/\v=Value.str x t)
 | .inl i,v,h=>by
  obtain ⟨t,e⟩:=Value.isInt_shape (k:=i) (v:=v) h
  exact .inl ⟨i,t,rfl,e⟩
 | .inr x,v,h=>by
  obtain ⟨t,e⟩:=Value.isStrOf_shape (x:=x) (v:=v) h
  exact .inr ⟨x,t,rfl,e⟩
theorem zgw (i:Int)(t:Tok):ze6 (.inl i) (.int i t)=true:=by simp [ze6,Value.isInt]
theorem zgx (x:Str)(t:Tok):ze6 (.inr x) (.str x t)=true:=by simp [ze6,Value.isStrOf]
theorem zl9 (a b:Int):decide ((Sum.inl a:Key)=Sum.inl b)=(a==b):=by
 by_cases e:a=b
 ·subst e;simp
 ·have h:¬ (Sum.inl a:Key)=Sum.inl b:=fun q=>e (Sum.inl.inj q)
  rw [decide_eq_false h]
  exact (beq_eq_false_iff_ne.mpr e).symm
theorem zmc (a b:Str):decide ((Sum.inr a:Key)=Sum.inr b)=decide (a=b):=by
 by_cases e:a=b
 ·subst e;simp
 ·have h:¬ (Sum.inr a:Key)=Sum.inr b:=fun q=>e (Sum.inr.inj q)
  rw [decide_eq_false h,decide_eq_false e]
theorem zma (a:Int)(b:Str):decide ((Sum.inl a:Key)=Sum.inr b)=false:=decide_eq_false (fun q=>nomatch q)
theorem zmb (a:Str)(b:Int):decide ((Sum.inr a:Key)=Sum.inl b)=false:=decide_eq_false (fun q=>nomatch q)
def zQ (prog:Program)(w:World):PySem.KeyKind prog w Key where
 is:=ze6
 hash:=keyH w
 inj:=fun v a b ha hb=>by
  rcases zP ha with ⟨i,t,rfl,rfl⟩ | ⟨x,t,rfl,rfl⟩
  ·rcases zP hb with ⟨j,u,rfl,e⟩ | ⟨y,u,rfl,e⟩
   ·injection e with e1 _;rw [e1]
   ·exact nomatch e
  ·rcases zP hb with ⟨j,u,rfl,e⟩ | ⟨y,u,rfl,e⟩
   ·exact nomatch e
   ·injection e with e1 _;rw [e1]
 byValue:=fun k v h=>by
  rcases zP h with ⟨i,t,rfl,rfl⟩ | ⟨x,t,rfl,rfl⟩ <;> rfl
 pyHash:=fun hv h=>by
  rcases zP hv with ⟨i,t,rfl,rfl⟩ | ⟨x,t,rfl,rfl⟩
  ·exact wpAny_pyHash_int h
  ·exact wpAny_pyHash_str h
 eqBool:=fun hu hv h=>by
  rcases zP hu with ⟨i,t,rfl,rfl⟩ | ⟨x,t,rfl,rfl⟩
  ·rcases zP hv with ⟨j,u,rfl,rfl⟩ | ⟨y,u,rfl,rfl⟩
   ·rw [zl9] at h;exact wpAny_eqBool_int h
   ·rw [zma] at h;exact SeqAt.EqAt.int_str i t y u _ _ _ _ h
  ·rcases zP hv with ⟨j,u,rfl,rfl⟩ | ⟨y,u,rfl,rfl⟩
   ·rw [zmb] at h;exact SeqAt.EqAt.str_int x t j u _ _ _ _ h
   ·rw [zmc] at h;exact wpAny_eqBool_str h
 «strs»:=fun k x t v h=>by
  rcases zP h with ⟨i,u,rfl,e⟩ | ⟨y,u,rfl,e⟩
  ·exact nomatch e
  ·injection e with e1 _
   subst e1
   cases v <;> rfl
theorem za3 (prog:Program)(w:World)(i:Int)(t:Tok):(zQ prog w).is (.inl i) (.int i t)=true:=zgw i t
theorem zdO (prog:Program)(w:World)(x:Str)(t:Tok):(zQ prog w).is (.inr x) (.str x t)=true:=zgx x t
inductive V where
 | non | bl (b:Bool) | int (i:Int) | str (x:Str) | byt (b:Array UInt8) | flt (b:UInt64) | ref (a:Addr) | ty (n:String)
 deriving DecidableEq
def zX:V->Value->Prop
 | .non,u=>u=Value.none
 | .bl b,u=>u=Value.bool b
 | .int i,u=>∃ t,u=Value.int i t
 | .str x,u=>∃ t,u=Value.str x t
 | .byt b,u=>∃ t,u=Value.bytes b t
 | .flt b,u=>∃ t,u=Value.float b t
 | .ref a,u=>u=Value.ref a
 | .ty n,u=>u=Value.type n
abbrev zY:List V->List Value->Prop:=Paired zX
theorem zY.length {xs:List V}{us:List Value}(r:zY xs us):xs.length=us.length:=Paired.length r
theorem zY.get:∀ {xs:List V} {us:List Value} {i:Nat} {x:V},zY xs us->xs[i]?=some x->∃ u,us[i]?=some u/\zX x u
 | _,_,_,_,.nil,e=>by simp at e
 | _,_,0,_,.cons r _,e=>by simp at e;subst e;exact ⟨_,rfl,r⟩
 | _,_,i+1,x,.cons _ t,e=>by
  obtain ⟨u,h1,h2⟩:=zY.get (i:=i) (x:=x) t (by simpa using e)
  exact ⟨u,by simpa using h1,h2⟩
theorem zY.append:∀ {xs ys:List V} {us ws:List Value},zY xs us->zY ys ws->zY (xs++ys) (us++ws)
 | _,_,_,_,.nil,s=>s
 | _,_,_,_,.cons r t,s=>.cons r (zY.append t s)
theorem zY.take:∀ {xs:List V} {us:List Value} (n:Nat),zY xs us->zY (xs.take n) (us.take n)
 | _,_,0,_=>.nil
 | _,_,_+1,.nil=>.nil
 | _,_,n+1,.cons r t=>.cons r (zY.take n t)
theorem zY.drop:∀ {xs:List V} {us:List Value} (n:Nat),zY xs us->zY (xs.drop n) (us.drop n)
 | _,_,0,r=>r
 | _,_,_+1,.nil=>.nil
 | _,_,n+1,.cons _ t=>zY.drop n t
theorem zY.none_of:∀ {xs:List V} {us:List Value} {i:Nat},zY xs us->xs[i]?=none->us[i]?=none:=fun {xs us i} r e=>by
 have h1:=r.length
 have h2:xs.length<=i:=List.getElem?_eq_none_iff.mp e
 exact List.getElem?_eq_none_iff.mpr (by lia)
def zeS:Option V->Option Value->Prop
 | some v,some u=>zX v u
 | none,none=>True
 | _,_=>False
def KV {κ:Type}:List (κ×V)->List (κ×Value)->Prop:=Paired fun (p:κ×V) (q:κ×Value)=>p.1=q.1/\zX p.2 q.2
def kV:Key->V
 | .inl i=>.int i
 | .inr x=>.str x
inductive HO where
  | lst (xs:List V)
  | tup (xs:List V)
  | dK (kvs:List (Key×V)) | dT (kvs:List (List Key×V))
  | set (S:Int->Bool) (n:Nat)
  | ins (C dx:Addr) (fs:List (Str×V))
  | own (x:Addr)
  | xd (fs:List (Str×V))
  | met (f x:Addr)
  | rng (lo hi:Int)
  | frz (o:Obj) (u:HO)
  | tbl (ps:Array Value)
  | ext (φ:Heap->Prop)
abbrev Hp:=Addr->Option HO
def upd (H:Hp)(a:Addr)(o:HO):Hp:=fun b=>if b=a then some o else H b
theorem zh {H:Hp}{a:Addr}{o:HO}:upd H a o a=some o:=by unfold upd;rw [if_pos rfl]
theorem ze {H:Hp}{a b:Addr}{o:HO}(h:b≠a):upd H a o b=H b:=by unfold upd;rw [if_neg h]
theorem zkp {H:Hp}{a b:Addr}{o u:HO}(h:H a=some o)(h':H b=some u)(d:o≠u):a≠b:=by
 intro e;subst e;rw [h] at h';exact d (Option.some.inj h')
theorem zb {H:Hp}{a b:Addr}{o:HO}(h:H a=some o)(h':H b=none):a≠b:=by
 intro e;subst e;rw [h] at h';cases h'
def ui (h:Heap)(a:Addr)(items:Array Value):Prop:=∃ o,h.get? a=some o/\o.cls = .type "tuple" /\ (∃ n,o.data = .seq items n)/\o.dict=none
theorem ui.tup {h:Heap}{a:Addr}{items:Array Value}(x:ui h a items):IsTup h a items:=let ⟨o,h1,h2,h3,_⟩:=x;⟨o,h1,h2,h3⟩
theorem ui.lt {h:Heap}{a:Addr}{items:Array Value}(x:ui h a items):a<h.objs.size:=x.tup.lt
theorem ui.new (h:Heap)(items:Array Value):ui (h.push { cls:=.type "tuple",data:=.seq items }) h.objs.size items:=⟨_,Heap.get?_push_size _ rfl,rfl,⟨_,rfl⟩,rfl⟩
section
variable (P:Program)(w:World)
def yp (H:Hp)(h:Heap)(a:Addr):HO->Prop
 | .lst xs=>xs.length<=sizeLine/\∃ (its:List Value) (n:Nat),zY xs its/\h.get? a=some { cls:=.type "list",data:=.seq its.toArray n }
 | .tup xs=>xs.length<=sizeLine/\∃ its:List Value,zY xs its/\ui h a its.toArray
 | .dK kvs=>kvs.length<=sizeLine/\(a==sysModules)=false/\∃ vs,KV kvs vs/\h.DictOf (zQ P w) a vs
 | .dT kvs=>kvs.length<=sizeLine/\(a==sysModules)=false/\∃ xs:List (List Key×Addr×Value),
   Paired (fun (p:List Key×V) (q:List Key×Addr×Value)=>p.1=q.1/\H q.2.1=some (.tup (p.1.map kV))/\zX p.2 q.2.2) kvs xs/\
   ∃ o es ep,h.get? a=some o/\o.ExactDict/\o.data = .dict es ep/\es.toList=xs.map (entryOfKey (tupleKind (zQ P w)))/\(xs.map (·.1)).Nodup
 | .set S n=>h.SetOf (intKind P w) a S n
 | .ins C dx fs=>H dx=some (.own a)/\fs.length<=1000/\dx≠a/\h.get? a=some (PySem.W.instObj C dx)/\
   ∃ mA,h.Ns1 dx mA/\(∀ f,zeS (fs.lookup f) (mA f))/\PySem.Within mA (fs.map (·.1))
 | .own _=>∃ o,h.get? a=some o
 | .xd fs=>∃ mA,h.Ns1 a mA/\∀ f,zeS (fs.lookup f) (mA f)
 | .rng lo hi=>∃ t u v,h.get? a=some { cls:=.type "range",data:=.fields #[.int lo t,.int hi u,.int 1 v] }
 | .frz o u=>h.get? a=some o/\yp H h a u
 | .tbl ps=>h.get? a=some { cls:=.none,data:=.fields ps }
 | .met f x=>h.get? a=some (PySem.W.methodObj (.ref f) (.ref x))
 | .ext φ=>φ h/\(∃ o,h.get? a=some o)/\∀ h1 h2:Heap,φ h1->(∀ o,h1.get? a=some o->h2.get? a=some o)->φ h2
def HOk (H:Hp)(h:Heap):Prop:=∀ a o,H a=some o->yp P w H h a o
end
section
variable {P:Program}{w:World}{H H':Hp}{h h':Heap}{a:Addr}{o:HO}
theorem yp.lt (x:yp P w H h a o):a<h.objs.size:=by
 cases o with
 | lst xs=>obtain ⟨_,_,_,_,e⟩:=x;exact Heap.lt_size e
 | tup xs=>obtain ⟨_,_,_,p⟩:=x;exact p.lt
 | dK kvs=>obtain ⟨_,_,_,_,o,_,_,e,_⟩:=x;exact Heap.lt_size e
 | dT kvs=>obtain ⟨_,_,_,_,o,_,_,e,_⟩:=x;exact Heap.lt_size e
 | set S n=>obtain ⟨o,_,_,_,e,_⟩:=x;exact Heap.lt_size e
 | ins C dx fs=>obtain ⟨_,_,_,e,_⟩:=x;exact Heap.lt_size e
 | own y=>obtain ⟨_,e⟩:=x;exact Heap.lt_size e
 | xd fs=>obtain ⟨_,⟨_,_,_,e,_⟩,_⟩:=x;exact Heap.lt_size e
 | rng lo hi=>obtain ⟨_,_,_,e⟩:=x;exact Heap.lt_size e
 | frz ob u=>obtain ⟨e,_⟩:=x;exact Heap.lt_size e
 | tbl ps=>exact Heap.lt_size (show h.get? a=some _ from x)
 | met f y=>exact Heap.lt_size (show h.get? a=some _ from x)
 | ext φ=>obtain ⟨_,⟨_,e⟩,_⟩:=x;exact Heap.lt_size e
theorem Paired.mapP {α β:Type}{F G:α->β->Prop}:∀ {l₁:List α} {l₂:List β},Paired F l₁ l₂->(∀ a b,F a b->G a b)->Paired G l₁ l₂
 | _,_,.nil,_=>.nil
 | _,_,.cons r t,f=>.cons (f _ _ r) (Paired.mapP t f)
theorem yp.stay (x:yp P w H h a o)(k:∀ b u,(b=a\/H b=some (.own a))->h.get? b=some u->h'.get? b=some u)
  (ho:∀ b,H b=some (.own a)->H' b=some (.own a)) (ht:∀ b xs,H b=some (.tup xs)->H' b=some (.tup xs)):yp P w H' h' a o:=by
 induction o with
 | lst xs=>obtain ⟨z,its,n,r,e⟩:=x;exact ⟨z,its,n,r,k _ _ (.inl rfl) e⟩
 | tup xs=>obtain ⟨z,its,r,ob,e,c⟩:=x;exact ⟨z,its,r,ob,k _ _ (.inl rfl) e,c⟩
 | dK kvs=>obtain ⟨z,y,vs,r,ob,es,ep,e,c⟩:=x;exact ⟨z,y,vs,r,ob,es,ep,k _ _ (.inl rfl) e,c⟩
 | dT kvs=>
  obtain ⟨z,y,xs,r,ob,es,ep,e,c⟩:=x
  exact ⟨z,y,xs,Paired.mapP r fun p q z=>⟨z.1,ht _ _ z.2.1,z.2.2⟩,ob,es,ep,k _ _ (.inl rfl) e,c⟩
 | set S n=>obtain ⟨ob,es,ep,t,e,c⟩:=x;exact ⟨ob,es,ep,t,k _ _ (.inl rfl) e,c⟩
 | ins C dx fs=>
  obtain ⟨d,z,ne,e,mA,⟨od,es,ep,e2,c⟩,r⟩:=x
  exact ⟨ho _ d,z,ne,k _ _ (.inl rfl) e,mA,⟨od,es,ep,k _ _ (.inr d) e2,c⟩,r⟩
 | own y=>obtain ⟨ob,e⟩:=x;exact ⟨ob,k _ _ (.inl rfl) e⟩
 | xd fs=>obtain ⟨mA,⟨od,es,ep,e,c⟩,r⟩:=x;exact ⟨mA,⟨od,es,ep,k _ _ (.inl rfl) e,c⟩,r⟩
 | rng lo hi=>obtain ⟨t,u,v,e⟩:=x;exact ⟨t,u,v,k _ _ (.inl rfl) e⟩
 | frz ob u ih=>obtain ⟨e,q⟩:=x;exact ⟨k _ _ (.inl rfl) e,ih q⟩
 | tbl ps=>
  have e:h.get? a=some { cls:=.none,data:=.fields ps }:=x
  show h'.get? a=some { cls:=.none,data:=.fields ps }
  exact k a _ (.inl rfl) e
 | met f y=>
  have e:h.get? a=some (PySem.W.methodObj (.ref f) (.ref y)):=x
  show h'.get? a=some (PySem.W.methodObj (.ref f) (.ref y))
  exact k a _ (.inl rfl) e
 | ext φ=>obtain ⟨p,⟨o,e⟩,st⟩:=x;exact ⟨st _ _ p fun o q=>k _ _ (.inl rfl) q,⟨o,k _ _ (.inl rfl) e⟩,st⟩
theorem HOk.lt (x:HOk P w H h)(e:H a=some o):a<h.objs.size:=(x a o e).lt
theorem HOk.fresh (x:HOk P w H h)(e:h.objs.size<=a):H a=none:=by
 cases q:H a with
 | none=>rfl
 | some u=>exact absurd (Nat.lt_of_lt_of_le (x.lt q) e) (Nat.lt_irrefl _)
theorem HOk.kept (x:HOk P w H h)(k:∀ b u,h.get? b=some u->h'.get? b=some u):HOk P w H h':=fun a o e=>
 (x a o e).stay (fun b u _ q=>k b u q) (fun _ q=>q) fun _ _ q=>q
theorem HOk.laid (x:HOk P w H h)(k:∀ b u,h.get? b=some u->h'.get? b=some u)(hp:h.objs.size<=a)(new:yp P w (upd H a o) h' a o):HOk P w (upd H a o) h':=fun b u e=>by
 have hn:=x.fresh hp
 by_cases hb:b=a
 ·subst hb;rw [zh] at e;cases e;exact new
 ·rw [ze hb] at e
  exact (x b u e).stay (fun c v _ q=>k c v q) (fun c q=>by rw [ze (zb q hn)];exact q) fun c xs q=>by rw [ze (zb q hn)];exact q
end
def Rd (H:Hp)(a:Addr)(u:HO):Prop:=H a=some u\/∃ o,H a=some (.frz o u)
theorem Rd.of {H:Hp}{a:Addr}{u:HO}(h:H a=some u):Rd H a u:=.inl h
theorem Rd.ok {P:Program}{w:World}{H:Hp}{h:Heap}{a:Addr}{u:HO}(r:Rd H a u)(x:HOk P w H h):yp P w H h a u:=by
 rcases r with r | ⟨o,r⟩
 ·exact x a u r
 ·obtain ⟨_,q⟩:=x a _ r
  exact q
def Mut:Option HO->Prop
 | some (.lst _)=>True
 | some (.dK _)=>True
 | some (.dT _)=>True
 | some (.set _ _)=>True
 | some (.ins _ _ _)=>True
 | some (.ext _)=>True
 | _=>False
section
variable {P:Program}{w:World}{H:Hp}{h h':Heap}{x e:Addr}{o':HO}
theorem HOk.write (ok:HOk P w H h)(mu:Mut (H x))(he:e=x\/H e=some (.own x))(k:∀ b u,b≠e->h.get? b=some u->h'.get? b=some u)(heo:∃ u,h'.get? e=some u)
  (new:yp P w (upd H x o') h' x o'):HOk P w (upd H x o') h':=fun b u q=>by
 have nown:∀ c y,H c=some (.own y)->c≠x:=fun c y r z=>by subst z;rw [r] at mu;exact mu
 have ntup:∀ c xs,H c=some (.tup xs)->c≠x:=fun c xs r z=>by subst z;rw [r] at mu;exact mu
 by_cases hb:b=x
 ·subst hb;rw [zh] at q;cases q;exact new
 ·rw [ze hb] at q
  by_cases hbe:b=e
  ·have q':H b=some (.own x):=by
    rcases he with z | z
    ·exact absurd (hbe.trans z) hb
    ·rw [hbe];exact z
   rw [q] at q';cases q'
   obtain ⟨v,hv⟩:=heo
   exact ⟨v,by rw [hbe];exact hv⟩
  ·refine (ok b u q).stay (fun c v hc r=>k c v ?_ r) (fun c r=>by rw [ze (nown c b r)];exact r) fun c xs r=>by rw [ze (ntup c xs r)];exact r
   rcases hc with rfl | hc
   ·exact hbe
   ·rintro rfl
    rcases he with z | z
    ·exact nown c b hc z
    ·rw [hc] at z;cases z;exact hb rfl
end
structure Un (fs ex:List Addr)(H H':Hp)(h h':Heap):Prop where
 keep:∀ b o,h.get? b=some o->H b=none->b∉fs->b∉ex->h'.get? b=some o
 slot:∀ b o,h.get? b=some o->H b=none->b∈fs->b∉ex->∃ sl,h'.get? b=some { o with slots:=sl }
 free:∀ b o,h.get? b=some o->H b=none->b∉ex->H' b=none
 there:∀ b o,h.get? b=some o->b∉ex->∃ o',h'.get? b=some o'
 tups:∀ b xs,H b=some (.tup xs)->H' b=some (.tup xs)
 frzs:∀ b o u,H b=some (.frz o u)->H' b=some (.frz o u)
 tbls:∀ b ps,H b=some (.tbl ps)->∃ more,H' b=some (.tbl (ps++more))
section
variable {fs fs' ex ex':List Addr}{H H1 H2:Hp}{h h1 h2 h':Heap}{a x e:Addr}{o:HO}
theorem Un.any (u:Un fs ex H H1 h h1){b:Addr}{ob:Obj}(q:h.get? b=some ob)(n:H b=none)(hx:b∉ex):∃ sl,h1.get? b=some { ob with slots:=sl }:=by
 by_cases hb:b∈fs
 ·exact u.slot b ob q n hb hx
 ·exact ⟨ob.slots,u.keep b ob q n hb hx⟩
theorem Un.kept (k:∀ b u,h.get? b=some u->h'.get? b=some u):Un fs ex H H h h':=
 ⟨fun b ob q _ _ _=>k b ob q,fun b ob q _ _ _=>⟨ob.slots,k b ob q⟩,fun _ _ _ n _=>n,fun b ob q _=>⟨ob,k b ob q⟩,fun _ _ q=>q,fun _ _ _ q=>q,fun _ ps q=>⟨#[],by rw [q];simp⟩⟩
theorem Un.refl:Un fs ex H H h h:=Un.kept fun _ _ q=>q
theorem Un.laid (k:∀ b u,h.get? b=some u->h'.get? b=some u)(hp:h.objs.size<=a)(hn:H a=none):Un fs ex H (upd H a o) h h' where
 keep:=fun b u q _ _ _=>k b u q
 slot:=fun b u q _ _ _=>⟨u.slots,k b u q⟩
 free:=fun b u q n _=>by rw [ze (Nat.ne_of_lt (Nat.lt_of_lt_of_le (Heap.lt_size q) hp))];exact n
 there:=fun b u q _=>⟨u,k b u q⟩
 tups:=fun b xs q=>by rw [ze (zb q hn)];exact q
 frzs:=fun b u xs q=>by rw [ze (zb q hn)];exact q
 tbls:=fun b ps q=>⟨#[],by rw [ze (zb q hn),q];simp⟩
theorem Un.write (mu:Mut (H x))(he:e=x\/H e=some (.own x))(k:∀ b u,b≠e->h.get? b=some u->h'.get? b=some u)(heo:∃ u,h'.get? e=some u):Un fs ex H (upd H x o) h h':=by
 have hx:∀ b,H b=none->b≠x:=fun b n z=>by subst z;rw [n] at mu;exact mu
 have hb:∀ b,H b=none->b≠e:=fun b n z=>by
  subst z
  rcases he with r | r
  ·exact hx b n r
  ·rw [n] at r;cases r
 have hm:∀ b u,H b=some u->¬ Mut (some u)->b≠x:=fun b u q nm z=>by subst z;rw [q] at mu;exact nm mu
 refine ⟨fun b u q n _ _=>k b u (hb b n) q,fun b u q n _ _=>⟨u.slots,k b u (hb b n) q⟩,fun b u q n _=>by rw [ze (hx b n)];exact n,fun b u q _=>?_,
  fun b xs q=>by rw [ze (hm b _ q fun z=>z)];exact q,fun b u xs q=>by rw [ze (hm b _ q fun z=>z)];exact q,fun b ps q=>⟨#[],by rw [ze (hm b _ q fun z=>z),q];simp⟩⟩
 by_cases hbe:b=e
 ·subst hbe;exact heo
 ·exact ⟨u,k b u hbe q⟩
end
def trk (h:Heap)(H:Hp):List Addr:=(List.range h.objs.size).filter fun a=>(H a).isSome
def zia (h:Heap)(H:Hp):Heap:=PySem.W.hideAll h (trk h H)
theorem zgi (h:Heap)(H:Hp):(zia h H).objs.size=h.objs.size:=PySem.W.hideAll_size _ _
theorem zib {h:Heap}{H:Hp}{b:Addr}{o:Obj}(e:h.get? b=some o)(n:H b=none):(zia h H).get? b=some o:=
 PySem.W.hideAll_get _ e fun hm=>by
  have q:(H b).isSome=true:=(List.mem_filter.mp hm).2
  rw [n] at q;simp at q
theorem zks {h:Heap}{H:Hp}{b:Addr}{o:Obj}(e:(zia h H).get? b=some o):h.get? b=some o/\H b=none:=by
 have e':h.get? b=some o:=PySem.W.of_hideAll (trk h H) e
 refine ⟨e',?_⟩
 cases q:H b with
 | none=>rfl
 | some x=>
  have hm:b∈trk h H:=List.mem_filter.mpr ⟨List.mem_range.mpr (Heap.lt_size e'),by simp [q]⟩
  have z:(zia h H).get? b=none:=PySem.W.hideAll_none (trk h H) hm
  rw [z] at e;cases e
def zjH (g h:Heap)(L:Addr):List (Addr×Obj):=(List.range h.objs.size).filterMap fun a=>if a=L\/(g.get? a).isSome=true then none else (h.get? a).map fun o=>(a,o)
def z6 (g h:Heap)(L d:Addr):List (Addr×Obj):=(zjH g h L).filter fun p=>decide (p.1≠d)
structure Mod (K:PySem.W.Frag)(mg:Str->Option Value)(base:Heap):Prop where
 kin:K.In base
 glob:base.Ns mainGlobals mg
 blt:∃ mb,base.Ns builtinsNs mb/\∀ x:Str,x ≠ "__name__" -> mb x=bootBuiltins x
 nolimit:base.NoLimit
structure Cx where
 prog:Program
 w:World
 K:PySem.W.Frag
 mg:Str->Option Value
 base:Heap
 A:Around
 N:List Str
 s₀:Shared
 H₀:Hp
 env:Env
 outer:List Env
 stack:List Env
 ex:List Addr
 fn:Str->Bool
 calm:Bool
 pn:List (Addr×Obj)
 xe:Value->Shared->Prop
def frs (l:List Env):List Addr:=l.filterMap (·.frame)
abbrev Cx.fs (X:Cx):List Addr:=frs X.outer
def Vis (sc:Scope)(x:Str):Prop:=sc.names.lookup x=some .local\/sc.names.lookup x=some .cell\/sc.names.lookup x=some .free
def Loc (sc:Scope)(x:Str):Prop:=sc.names.lookup x=some .local\/sc.names.lookup x=some .cell
def Look (env:Env)(h:Heap)(m:Str->Option Value)(x:Str)(u:Value):Prop:=
 (env.kindOf x=some .local/\m x=some u)\/((env.kindOf x=some .cell\/env.kindOf x=some .free)/\∃ c,env.cells.lookup x=some c/\h.IsCell c (some u))
structure Cx.Ok (X:Cx):Prop where
 mod:Mod X.K X.mg X.base
 kind:X.env.scope.kind = .function
 glob:X.env.globals=mainGlobals
 blt:X.env.builtins=builtinsNs
 above:X.s₀.heap.objs.size<=X.env.locals
 inj:∀ x y c,X.env.cells.lookup x=some c->X.env.cells.lookup y=some c->x=y
 has:∀ x,(X.env.kindOf x=some .cell\/X.env.kindOf x=some .free)->∃ c,X.env.cells.lookup x=some c
 cab:∀ x c,X.fn x=true->X.env.cells.lookup x=some c->X.s₀.heap.objs.size<=c
 hd:X.calm=true->X.A.handled=none
 frames:X.A.frames=some X.stack
 stk:X.stack=X.outer\/(X.stack=X.env::X.outer/\X.env.frame=some X.env.locals)
 exf:∀ b∈X.ex,b≠X.env.locals/\∀ x c,X.env.cells.lookup x=some c->c≠b
 bs:∀ b o,X.base.get? b=some o->X.s₀.heap.get? b=some o/\X.H₀ b=none
 bsz:X.base.objs.size<=X.s₀.heap.objs.size
 noex:∀ b o,X.base.get? b=some o->b∉X.ex
 exfs:∀ b∈X.ex,b∉X.fs
 funs:X.s₀.heap.FunFrames X.base X.outer
 frf:∀ b∈X.fs,X.H₀ b=none
structure Inv (X:Cx)(pins:List (Addr×Obj))(σ:List (Option V))(H:Hp)(s:Shared):Prop where
 ok:X.Ok
 os:s.os=X.s₀.os
 bare:AllBare s.gens
 base:Un X.fs X.ex X.H₀ H X.s₀.heap s.heap
 loc:∃ m,s.heap.Ns X.env.locals m/\∀ (i:Nat) (x:Str) (v:V),X.N[i]?=some x->σ[i]?=some (some v)->Vis X.env.scope x->∃ u,zX v u/\Look X.env s.heap m x u
 cell:∀ x c,X.env.cells.lookup x=some c->∃ v,s.heap.IsCell c v
 free:H X.env.locals=none
 freeC:∀ x c,X.env.cells.lookup x=some c->H c=none
 pin:∀ p∈X.pn++pins,s.heap.get? p.1=some p.2/\H p.1=none/\p.1≠X.env.locals/\p.1∉X.fs/\∀ v,p.2.data≠.cell v
 hok:HOk X.prog X.w H s.heap
 len:σ.length=X.N.length
section
variable {X:Cx}{pins:List (Addr×Obj)}{σ:List (Option V)}{H H':Hp}{s:Shared}{h':Heap}
theorem Cx.Ok.nofr (ok:X.Ok){b:Addr}{o:Obj}(e:X.base.get? b=some o):b∉X.fs:=fun hb=>by
 have:=(ok.funs.mem hb).1
 rw [e] at this;cases this
theorem Inv.bs (I:Inv X pins σ H s):∀ b o,X.base.get? b=some o->s.heap.get? b=some o/\H b=none:=fun b o e=>
 ⟨I.base.keep b o (I.ok.bs b o e).1 (I.ok.bs b o e).2 (I.ok.nofr e) (I.ok.noex b o e),I.base.free b o (I.ok.bs b o e).1 (I.ok.bs b o e).2 (I.ok.noex b o e)⟩
theorem Inv.bk (I:Inv X pins σ H s):∀ b o,X.base.get? b=some o->s.heap.get? b=some o:=fun b o e=>(I.bs b o e).1
theorem Inv.mod (I:Inv X pins σ H s):Mod X.K X.mg X.base:=I.ok.mod
theorem Inv.kIn (I:Inv X pins σ H s):X.K.In s.heap:=I.ok.mod.kin.keeps I.bk
theorem Inv.lt (I:Inv X pins σ H s):X.env.locals<s.heap.objs.size:=let ⟨_,hn,_⟩:=I.loc;hn.lt
theorem Inv.sz (I:Inv X pins σ H s):X.s₀.heap.objs.size<=s.heap.objs.size:=Nat.le_trans I.ok.above (Nat.le_of_lt I.lt)
theorem Inv.nofs (I:Inv X pins σ H s){a:Addr}(h:s.heap.objs.size<=a):a∉X.fs:=fun hb=>by
 obtain ⟨_,o,ho,_⟩:=I.ok.funs.mem hb
 exact absurd (Nat.lt_of_lt_of_le (Heap.lt_size ho) (Nat.le_trans I.sz h)) (Nat.lt_irrefl _)
theorem Inv.cne (I:Inv X pins σ H s):∀ x c,X.env.cells.lookup x=some c->c≠X.env.locals:=fun x c e z=>by
 obtain ⟨v,o,ho,hd⟩:=I.cell x c e
 obtain ⟨m,⟨o',es,ep,ho',hd',_⟩,_⟩:=I.loc
 rw [z,ho'] at ho;cases ho;rw [hd'] at hd;cases hd
theorem Inv.funs (I:Inv X pins σ H s):s.heap.FunFrames X.base X.outer:=by
 have all:∀ (l:List Env),(∀ b∈frs l,b∈X.fs)->X.s₀.heap.FunFrames X.base l->s.heap.FunFrames X.base l:=by
  intro l
  induction l with
  | nil=>intro _ _;trivial
  | cons env r ih=>
   intro hs hl
   obtain ⟨hk,⟨L,o,hf,hn,ho,hd⟩,hr⟩:=hl
   have hL:L∈X.fs:=hs L (by unfold frs;rw [List.filterMap_cons,hf];exact List.mem_cons_self)
   obtain ⟨sl,e⟩:=I.base.slot L o ho (I.ok.frf L hL) hL fun z=>I.ok.exfs L z hL
   exact ⟨hk,⟨L,_,hf,hn,e,hd⟩,ih (fun b hb=>hs b (by unfold frs;rw [List.filterMap_cons,hf];exact List.mem_cons_of_mem _ hb)) hr⟩
 exact all X.outer (fun _ hb=>hb) I.ok.funs
theorem Inv.stack (I:Inv X pins σ H s):s.heap.FunFrames X.base X.stack:=by
 rcases I.ok.stk with e | ⟨e,hf⟩
 ·rw [e];exact I.funs
 ·rw [e]
  obtain ⟨m,hn,_⟩:=I.loc
  refine .cons (by rw [I.ok.kind];decide) hf hn ?_ I.funs
  exact Heap.get?_none_of_le (Nat.le_trans I.ok.bsz I.ok.above)
theorem Inv.stkSub (I:Inv X pins σ H s):∀ b∈frs X.stack,b∈X.env.locals::X.fs:=fun b hb=>by
 rcases I.ok.stk with e | ⟨e,hf⟩
 ·rw [e] at hb;exact List.mem_cons_of_mem _ hb
 ·rw [e] at hb
  unfold frs at hb
  rw [List.filterMap_cons,hf] at hb
  exact hb
theorem Inv.stkFree (I:Inv X pins σ H s):∀ b∈frs X.stack,H b=none:=fun b hb=>by
 rcases List.mem_cons.mp (I.stkSub b hb) with e | hb
 ·rw [e];exact I.free
 ·obtain ⟨_,o,ho,_⟩:=I.ok.funs.mem hb
  exact I.base.free b o ho (I.ok.frf b hb) fun z=>I.ok.exfs b z hb
theorem Inv.step {g':Array GenState}{t':Nat}{d':Drawn}{ch:List Addr}(I:Inv X pins σ H s)
  (hch:∀ b∈ch,(b∈X.ex\/X.s₀.heap.objs.size<=b)/\b≠X.env.locals/\(∀ x c,X.env.cells.lookup x=some c->c≠b)/\∀ p∈X.pn++pins,p.1≠b)
  (keep:∀ b o,b≠X.env.locals->b∉X.fs->b∉ch->s.heap.get? b=some o->H b=none->h'.get? b=some o)
  (slot:∀ b o,b≠X.env.locals->b∈X.fs->b∉ch->s.heap.get? b=some o->H b=none->∃ sl,h'.get? b=some { o with slots:=sl }) (free:∀ b o,b∉ch->s.heap.get? b=some o->H b=none->H' b=none)
  (there:∀ b o,b∉ch->s.heap.get? b=some o->∃ o',h'.get? b=some o')
  (tups:∀ b xs,H b=some (.tup xs)->H' b=some (.tup xs)) (frzs:∀ b o u,H b=some (.frz o u)->H' b=some (.frz o u)) (tbls:∀ b ps,H b=some (.tbl ps)->∃ more,H' b=some (.tbl (ps++more)))
  (ns:∀ m,s.heap.Ns X.env.locals m->h'.Ns X.env.locals m) (hok:HOk X.prog X.w H' h') (hg:AllBare g') :
  Inv X pins σ H' { s with heap:=h',gens:=g',drawn:=d',toks:=t' }:=by
 have neL:∀ b o,X.s₀.heap.get? b=some o->b≠X.env.locals:=fun b o e=>Nat.ne_of_lt (Nat.lt_of_lt_of_le (Heap.lt_size e) I.ok.above)
 have neC:∀ b o,X.s₀.heap.get? b=some o->b∉X.ex->b∉ch:=fun b o e hx hb=>by
  rcases (hch b hb).1 with z | z
  ·exact hx z
  ·exact absurd (Nat.lt_of_lt_of_le (Heap.lt_size e) z) (Nat.lt_irrefl _)
 have cellK:∀ x c,X.env.cells.lookup x=some c->∀ v,s.heap.IsCell c v->h'.IsCell c v:=fun x c e v ⟨o,ho,hd⟩=>by
  have nch:c∉ch:=fun z=>(hch c z).2.2.1 x c e rfl
  by_cases hc:c∈X.fs
  ·obtain ⟨sl,q⟩:=slot c o (I.cne x c e) hc nch ho (I.freeC x c e)
   exact ⟨_,q,hd⟩
  ·exact ⟨o,keep c o (I.cne x c e) hc nch ho (I.freeC x c e),hd⟩
 refine ⟨I.ok,I.os,hg,⟨fun b o e n hb hx=>?_,fun b o e n hb hx=>?_,fun b o e n hx=>?_,fun b o e hx=>?_,fun b xs e=>tups b xs (I.base.tups b xs e),fun b o xs e=>frzs b o xs (I.base.frzs b o xs e),fun b ps e=>?_⟩,?_,fun x c e=>?_,?_,fun x c e=>?_,fun p hp=>?_,hok,I.len⟩
 ·exact keep b o (neL b o e) hb (neC b o e hx) (I.base.keep b o e n hb hx) (I.base.free b o e n hx)
 ·obtain ⟨sl,e1⟩:=I.base.slot b o e n hb hx
  obtain ⟨sl',e2⟩:=slot b _ (neL b o e) hb (neC b o e hx) e1 (I.base.free b o e n hx)
  exact ⟨sl',e2⟩
 ·obtain ⟨o',e1⟩:=I.base.there b o e hx
  exact free b o' (neC b o e hx) e1 (I.base.free b o e n hx)
 ·obtain ⟨o',e1⟩:=I.base.there b o e hx
  exact there b o' (neC b o e hx) e1
 ·obtain ⟨m1,e1⟩:=I.base.tbls b ps e
  obtain ⟨m2,e2⟩:=tbls b _ e1
  exact ⟨m1++m2,by rw [e2,Array.append_assoc]⟩
 ·obtain ⟨m,hn,hl⟩:=I.loc
  refine ⟨m,ns m hn,fun i x v e1 e2 e3=>?_⟩
  obtain ⟨u,r,l⟩:=hl i x v e1 e2 e3
  refine ⟨u,r,?_⟩
  rcases l with l | ⟨k,c,e,z⟩
  ·exact .inl l
  ·exact .inr ⟨k,c,e,cellK x c e _ z⟩
 ·obtain ⟨v,z⟩:=I.cell x c e
  exact ⟨v,cellK x c e v z⟩
 ·obtain ⟨m,⟨o,_,_,ho,_⟩,_⟩:=I.loc
  exact free _ o (fun z=>(hch _ z).2.1 rfl) ho I.free
 ·obtain ⟨v,o,ho,hd⟩:=I.cell x c e
  exact free c o (fun z=>(hch c z).2.2.1 x c e rfl) ho (I.freeC x c e)
 ·obtain ⟨e,n,ne,nf,d⟩:=I.pin p hp
  have nch:p.1∉ch:=fun z=>(hch p.1 z).2.2.2 p hp rfl
  exact ⟨keep p.1 p.2 ne nf nch e n,free p.1 p.2 nch e n,ne,nf,d⟩
theorem Inv.un {t':Nat}(I:Inv X pins σ H s)(u:Un X.fs [] H H' s.heap h')(hok:HOk X.prog X.w H' h'):Inv X pins σ H' { s with heap:=h',toks:=t' }:=by
 obtain ⟨m,⟨o,es,ep,ho,r⟩,_⟩:=id I.loc
 obtain ⟨sl,hL⟩:=u.any ho I.free (by simp)
 exact I.step (g':=s.gens) (d':=s.drawn) (ch:=[]) (fun _ z=>nomatch z) (fun b o _ hb _ e n=>u.keep b o e n hb (by simp)) (fun b o _ hb _ e n=>u.slot b o e n hb (by simp)) (fun b o _ e n=>u.free b o e n (by simp)) (fun b o _ e=>u.there b o e (by simp)) u.tups u.frzs u.tbls (fun m' hm=>by
  obtain ⟨o',es',ep',ho',r'⟩:=hm
  rw [ho] at ho';cases ho'
  exact ⟨_,es',ep',hL,r'⟩) hok I.bare
theorem Inv.call {g':Array GenState}{t':Nat}{d':Drawn}{ch:List Addr}(I:Inv X pins σ H s)(u:Un (frs X.stack) ch H H' s.heap h')(hok:HOk X.prog X.w H' h')(hg:AllBare g')
  (hch:∀ b∈ch,(b∈X.ex\/X.s₀.heap.objs.size<=b)/\b≠X.env.locals/\(∀ x c,X.env.cells.lookup x=some c->c≠b)/\∀ p∈X.pn++pins,p.1≠b) :
  Inv X pins σ H' { s with heap:=h',gens:=g',drawn:=d',toks:=t' }:=by
 obtain ⟨m,⟨o,es,ep,ho,r⟩,_⟩:=id I.loc
 obtain ⟨sl,hL⟩:=u.any ho I.free fun z=>(hch _ z).2.1 rfl
 exact I.step (ch:=ch) hch (fun b o hL hb hc e n=>u.keep b o e n (fun z=>(List.mem_cons.mp (I.stkSub b z)).elim hL hb) hc) (fun b o _ _ hc e n=>u.any e n hc) (fun b o hc e n=>u.free b o e n hc) (fun b o hc e=>u.there b o e hc) u.tups u.frzs u.tbls (fun m' hm=>by
  obtain ⟨o',es',ep',ho',r'⟩:=hm
  rw [ho] at ho';cases ho'
  exact ⟨_,es',ep',hL,r'⟩) hok hg
theorem Inv.turned {t':Nat}{it:Addr}(I:Inv X pins σ H s)(k:∀ b o,b≠it->s.heap.get? b=some o->h'.get? b=some o)(hn:H it=none)(hL:it≠X.env.locals)
  (h1:it∈X.ex\/X.s₀.heap.objs.size<=it) (h2:∀ x c,X.env.cells.lookup x=some c->c≠it) (h3:∀ p∈X.pn++pins,p.1≠it):Inv X pins σ H { s with heap:=h',toks:=t' }:=by
 have nit:∀ b u,H b=some u->b≠it:=fun b u e z=>by rw [z,hn] at e;cases e
 refine I.step (g':=s.gens) (d':=s.drawn) (ch:=[it]) (fun b hb=>?_) (fun b o _ _ hc e _=>k b o (fun z=>hc (by simp [z])) e) (fun b o _ _ hc e _=>⟨o.slots,k b o (fun z=>hc (by simp [z])) e⟩) (fun _ _ _ _ n=>n)
  (fun b o hc e=>⟨o,k b o (fun z=>hc (by simp [z])) e⟩) (fun _ _ e=>e) (fun _ _ _ e=>e) (fun b ps e=>⟨#[],by rw [e];simp⟩) (fun m hm=>?_) (fun b u e=>?_) I.bare
 ·have e:b=it:=by simpa using hb
  subst e
  exact ⟨h1,hL,h2,h3⟩
 ·obtain ⟨o,es,ep,ho,r⟩:=hm
  exact ⟨o,es,ep,k _ o (Ne.symm hL) ho,r⟩
 ·refine (I.hok b u e).stay (fun c v hc q=>k c v ?_ q) (fun _ q=>q) fun _ _ q=>q
  rcases hc with z | z
  ·rw [z];exact nit b u e
  ·exact nit c _ z
theorem Inv.tok (I:Inv X pins σ H s)(t:Nat):Inv X pins σ H { s with toks:=t }:=I.un (h':=s.heap) (t':=t) Un.refl I.hok
theorem Inv.kept {t':Nat}(I:Inv X pins σ H s)(k:∀ b u,s.heap.get? b=some u->h'.get? b=some u):Inv X pins σ H { s with heap:=h',toks:=t' }:=I.un (Un.kept k) (I.hok.kept k)
theorem Inv.laid {a:Addr}{o:HO}{t':Nat}(I:Inv X pins σ H s)(k:∀ b u,s.heap.get? b=some u->h'.get? b=some u)(hp:s.heap.objs.size<=a)(new:yp X.prog X.w (upd H a o) h' a o) :
  Inv X pins σ (upd H a o) { s with heap:=h',toks:=t' }:=I.un (Un.laid k hp (I.hok.fresh hp)) (I.hok.laid k hp new)
theorem Inv.write {x e:Addr}{o:HO}{t':Nat}(I:Inv X pins σ H s)(mu:Mut (H x))(he:e=x\/H e=some (.own x))(k:∀ b u,b≠e->s.heap.get? b=some u->h'.get? b=some u)(heo:∃ u,h'.get? e=some u)
  (new:yp X.prog X.w (upd H x o) h' x o):Inv X pins σ (upd H x o) { s with heap:=h',toks:=t' }:=I.un (Un.write mu he k heo) (I.hok.write mu he k heo new)
theorem Inv.pins_of {pins':List (Addr×Obj)}(I:Inv X pins σ H s)(h:∀ p∈pins',s.heap.get? p.1=some p.2/\H p.1=none/\p.1≠X.env.locals/\p.1∉X.fs/\∀ v,p.2.data≠.cell v):Inv X pins' σ H s:=
 ⟨I.ok,I.os,I.bare,I.base,I.loc,I.cell,I.free,I.freeC,fun p hp=>(List.mem_append.mp hp).elim (fun z=>I.pin p (List.mem_append_left _ z)) (h p),I.hok,I.len⟩
theorem zeB {N:List Str}(hN:N.Nodup){i j:Nat}{x:Str}(a:N[i]?=some x)(b:N[j]?=some x):i=j:=by
 obtain ⟨h1,e1⟩:=List.getElem?_eq_some_iff.mp a
 obtain ⟨h2,e2⟩:=List.getElem?_eq_some_iff.mp b
 exact (List.getElem_inj hN).mp (e1.trans e2.symm)
theorem zbd {M:Model}{A:Around}{E:Value->Shared->Prop}{i:Nat}{x:Str}{v:V}{u:Value}{Q:Unit->Shared->Prop}(I:Inv X pins σ H s)(hN:X.N.Nodup)(hi:X.N[i]?=some x)(hx:Loc X.env.scope x)(r:zX v u)
  (h:∀ s',Inv X pins (σ.set i (some v)) H s'->(∃ a,Heap.SameBut a s.heap s'.heap/\(a=X.env.locals\/X.env.cells.lookup x=some a))->Q () s') (hf:X.fn x=true\/X.env.scope.names.lookup x=some .local:=by first | exact .inl rfl | exact .inr rfl | assumption):wpAny M A (storeName X.env x u) Q E s:=by
 obtain ⟨m,hn,hl⟩:=id I.loc
 have hcls:(X.env.scope.kind==.class || (X.env.scope.kind==.module&&X.env.locals != X.env.globals))=false:=by rw [I.ok.kind];rfl
 have hiσ:i<σ.length:=by rw [I.len];exact (List.getElem?_eq_some_iff.mp hi).1
 have cne:=I.cne
 have tracked:∀ {a:Addr} {h':Heap},(∃ o,s.heap.get? a=some o/\H a=none)->Heap.SameBut a s.heap h'->HOk X.prog X.w H h':=fun {a h'} ha hs b ob e=>by
  obtain ⟨_,_,hfree⟩:=ha
  refine (I.hok b ob e).stay (fun c w' hc q=>(hs.2 c ?_).trans q) (fun _ q=>q) fun _ _ q=>q
  rintro rfl
  rcases hc with rfl | hc
  ·rw [hfree] at e;cases e
  ·rw [hfree] at hc;cases hc
 rcases hx with hk | hk
 ·refine wpAny_storeName_local hk hn (fun h' hn' hs=>?_) hcls
  obtain ⟨oL,_,_,hoL,_⟩:=id hn
  refine h _ ⟨I.ok,I.os,I.bare,⟨fun b o e n hb hx=>?_,fun b o e n hb hx=>?_,I.base.free,fun b o e hx=>?_,I.base.tups,I.base.frzs,I.base.tbls⟩,⟨_,hn',fun j y v' e1 e2 e3=>?_⟩,fun y c e=>?_,I.free,I.freeC,fun p hp=>?_,tracked ⟨oL,hoL,I.free⟩ hs,by simpa using I.len⟩ ⟨_,hs,.inl rfl⟩
  ·exact (hs.2 b (Nat.ne_of_lt (Nat.lt_of_lt_of_le (Heap.lt_size e) I.ok.above))).trans (I.base.keep b o e n hb hx)
  ·obtain ⟨sl,e1⟩:=I.base.slot b o e n hb hx
   exact ⟨sl,(hs.2 b (Nat.ne_of_lt (Nat.lt_of_lt_of_le (Heap.lt_size e) I.ok.above))).trans e1⟩
  ·obtain ⟨o',e1⟩:=I.base.there b o e hx
   exact ⟨o',(hs.2 b (Nat.ne_of_lt (Nat.lt_of_lt_of_le (Heap.lt_size e) I.ok.above))).trans e1⟩
  ·by_cases hj:j=i
   ·subst hj
    rw [hi] at e1;cases e1
    rw [List.getElem?_set_self hiσ] at e2
    cases e2
    exact ⟨u,r,.inl ⟨hk,by simp⟩⟩
   ·rw [List.getElem?_set_ne (Ne.symm hj)] at e2
    obtain ⟨u',r',q⟩:=hl j y v' e1 e2 e3
    refine ⟨u',r',?_⟩
    rcases q with ⟨k,e⟩ | ⟨k,c,e,z⟩
    ·refine .inl ⟨k,?_⟩
     have:y≠x:=fun e=>hj (zeB hN e1 (e ▸ hi))
     simp [this,e]
    ·exact .inr ⟨k,c,e,z.sameBut hs (cne y c e)⟩
  ·obtain ⟨w',z⟩:=I.cell y c e
   exact ⟨w',z.sameBut hs (cne y c e)⟩
  ·obtain ⟨e,n,ne,nf,d⟩:=I.pin p hp
   exact ⟨(hs.2 p.1 ne).trans e,n,ne,nf,d⟩
 ·have hfn:X.fn x=true:=by
   rcases hf with z | z
   ·exact z
   ·rw [z] at hk;cases hk
  obtain ⟨c,hc⟩:=I.ok.has x (.inl hk)
  obtain ⟨w',z⟩:=I.cell x c hc
  refine wpAny_storeName_cell I.ok.kind hk hc z (fun h' hc' hs=>?_)
  obtain ⟨oc,hoc,hocd⟩:=id z
  refine h { s with heap:=h' } ⟨I.ok,I.os,I.bare,⟨fun b o e n hb hx=>?_,fun b o e n hb hx=>?_,I.base.free,fun b o e hx=>?_,I.base.tups,I.base.frzs,I.base.tbls⟩,⟨m,hn.sameBut hs (Ne.symm (cne x c hc)),fun j y v' e1 e2 e3=>?_⟩,fun y c' e=>?_,I.free,I.freeC,fun p hp=>?_,tracked ⟨oc,hoc,I.freeC x c hc⟩ hs,by simpa using I.len⟩ ⟨c,hs,.inr hc⟩
  ·exact (hs.2 b (Nat.ne_of_lt (Nat.lt_of_lt_of_le (Heap.lt_size e) (I.ok.cab x c hfn hc)))).trans (I.base.keep b o e n hb hx)
  ·obtain ⟨sl,e1⟩:=I.base.slot b o e n hb hx
   exact ⟨sl,(hs.2 b (Nat.ne_of_lt (Nat.lt_of_lt_of_le (Heap.lt_size e) (I.ok.cab x c hfn hc)))).trans e1⟩
  ·obtain ⟨o',e1⟩:=I.base.there b o e hx
   exact ⟨o',(hs.2 b (Nat.ne_of_lt (Nat.lt_of_lt_of_le (Heap.lt_size e) (I.ok.cab x c hfn hc)))).trans e1⟩
  ·by_cases hj:j=i
   ·subst hj
    rw [hi] at e1;cases e1
    rw [List.getElem?_set_self hiσ] at e2
    cases e2
    exact ⟨u,r,.inr ⟨.inl hk,c,hc,hc'⟩⟩
   ·rw [List.getElem?_set_ne (Ne.symm hj)] at e2
    obtain ⟨u',r',q⟩:=hl j y v' e1 e2 e3
    refine ⟨u',r',?_⟩
    rcases q with q | ⟨k,c',e,z'⟩
    ·exact .inl q
    ·refine .inr ⟨k,c',e,z'.sameBut hs ?_⟩
     rintro rfl
     exact hj (zeB hN e1 (I.ok.inj _ _ _ e hc ▸ hi))
  ·by_cases hcc:c'=c
   ·subst hcc;exact ⟨_,hc'⟩
   ·obtain ⟨w2,z2⟩:=I.cell y c' e
    exact ⟨w2,z2.sameBut hs hcc⟩
  ·obtain ⟨e,n,ne,nf,d⟩:=I.pin p hp
   refine ⟨(hs.2 p.1 ?_).trans e,n,ne,nf,d⟩
   intro q
   rw [q,hoc] at e
   have q':oc=p.2:=Option.some.inj e
   exact d w' (by rw [<- q'];exact hocd)
theorem zeL {M:Model}{A:Around}{E:Value->Shared->Prop}{i:Nat}{x:Str}{v:V}{u:Value}{Q:Unit->Shared->Prop}(I:Inv X pins σ H s)(hN:X.N.Nodup)(hi:X.N[i]?=some x)(hx:Loc X.env.scope x)(r:zX v u)
  (h:∀ s',Inv X pins (σ.set i (some v)) H s'->Q () s') (hf:X.fn x=true\/X.env.scope.names.lookup x=some .local:=by first | exact .inl rfl | exact .inr rfl | assumption):wpAny M A (storeName X.env x u) Q E s:=
 zbd I hN hi hx r (fun s' I' _=>h s' I') hf
theorem Inv.call' {s':Shared}{ch:List Addr}(I:Inv X pins σ H s)(ho:s'.os=s.os)(u:Un (frs X.stack) ch H H' s.heap s'.heap)(hok:HOk X.prog X.w H' s'.heap)(hg:AllBare s'.gens)
  (hch:∀ b∈ch,(b∈X.ex\/X.s₀.heap.objs.size<=b)/\b≠X.env.locals/\(∀ x c,X.env.cells.lookup x=some c->c≠b)/\∀ p∈X.pn++pins,p.1≠b):Inv X pins σ H' s':=by
 obtain ⟨h',g',d',t',o'⟩:=s'
 have e:o'=s.os:=ho
 subst e
 exact I.call (g':=g') (t':=t') (d':=d') u hok hg hch
end
abbrev XK:=Value->Option Addr->Hp->Prop
abbrev St:=List (Option V)
abbrev VK:=V->Hp->Prop
abbrev TE:=St->Hp->VK->Prop
abbrev TT:=St->Hp->(Bool->Hp->Prop)->Prop
abbrev TA:=St->Hp->(List V->Hp->Prop)->Prop
structure Ends where
 nx:St->Hp->Prop
 rt:VK
 bk:St->Hp->Prop:=fun _ _=>False
 ct:St->Hp->Prop:=fun _ _=>False
abbrev TS:=Ends->St->Hp->Prop
def EP (X:Cx)(pins:List (Addr×Obj))(σ:St)(Q:VK)(u:Value)(s':Shared):Prop:=∃ v H',Inv X pins σ H' s'/\zX v u/\Q v H'
def TP (X:Cx)(pins:List (Addr×Obj))(σ:St)(Q:Bool->Hp->Prop)(b:Bool)(s':Shared):Prop:=∃ H',Inv X pins σ H' s'/\Q b H'
def AP (X:Cx)(pins:List (Addr×Obj))(σ:St)(Q:List V->Hp->Prop)(us:List Value)(s':Shared):Prop:=∃ vs H',Inv X pins σ H' s'/\zY vs us/\Q vs H'
def SP (X:Cx)(pins:List (Addr×Obj))(D:Ends)(f:Flow)(s':Shared):Prop:=
 match f with
 | .next=>∃ σ' H',Inv X pins σ' H' s'/\D.nx σ' H'
 | .brk=>∃ σ' H',Inv X pins σ' H' s'/\D.bk σ' H'
 | .cont=>∃ σ' H',Inv X pins σ' H' s'/\D.ct σ' H'
 | .ret u=>∃ v σ' H',Inv X pins σ' H' s'/\zX v u/\D.rt v H'
def PE (X:Cx)(e:Expr)(t:TE):Prop:=
 ∀ (pins:List (Addr×Obj)) (s:Shared) (σ:St) (H:Hp) (Q:VK),Inv X pins σ H s->t σ H Q->wpAny (model X.prog X.w) X.A (eval e X.env) (EP X pins σ Q) X.xe s
def PT (X:Cx)(e:Expr)(t:TT):Prop:=
 ∀ (pins:List (Addr×Obj)) (s:Shared) (σ:St) (H:Hp) (Q:Bool->Hp->Prop),Inv X pins σ H s->t σ H Q->wpAny (model X.prog X.w) X.A (isTrue e X.env (eval e X.env)) (TP X pins σ Q) X.xe s
def PW (X:Cx)(e:Expr)(t:TT):Prop:=
 ∀ (whole:Sem Value) (pins:List (Addr×Obj)) (s:Shared) (σ:St) (H:Hp) (Q:Bool->Hp->Prop),Inv X pins σ H s->t σ H Q->wpAny (model X.prog X.w) X.A (isTrue e X.env whole) (TP X pins σ Q) X.xe s
theorem PW.pt {X:Cx}{e:Expr}{t:TT}(h:PW X e t):PT X e t:=h _
def PA (X:Cx)(es:List Expr)(t:TA):Prop:=
 ∀ (pos:Pos) (pins:List (Addr×Obj)) (s:Shared) (σ:St) (H:Hp) (Q:List V->Hp->Prop),Inv X pins σ H s->t σ H Q->wpAny (model X.prog X.w) X.A (spliced (backTo pos (starEach es X.env))) (AP X pins σ Q) X.xe s
def PS (X:Cx)(st:Stmt)(t:TS):Prop:=
 ∀ (pins:List (Addr×Obj)) (s:Shared) (σ:St) (H:Hp) (D:Ends),Inv X pins σ H s->t D σ H->wpAny (model X.prog X.w) X.A (exec st X.env) (SP X pins D) X.xe s
def PSs (X:Cx)(st:List Stmt)(t:TS):Prop:=
 ∀ (pins:List (Addr×Obj)) (s:Shared) (σ:St) (H:Hp) (D:Ends),Inv X pins σ H s->t D σ H->wpAny (model X.prog X.w) X.A (execs st X.env) (SP X pins D) X.xe s
theorem thn {α:Type}{t:Sem α}{Q Q':α->Shared->Prop}{M:Model}{A:Around}{E:Value->Shared->Prop}{s:Shared}(h:wpAny M A t Q E s)(hQ:∀ a s,Q a s->Q' a s):wpAny M A t Q' E s:=wpAny_mono h hQ fun _ _ x=>x
section
variable {X:Cx}
def zlh (i:Nat):TE:=fun σ H Q=>∃ v,σ[i]?=some (some v)/\Q v H
def tC (v:V):TE:=fun _ H Q=>Q v H
theorem zjw {i:Nat}{x:Str}{pos:Pos}(hN:X.N[i]?=some x)(hv:Vis X.env.scope x)(hd:(x==("__debug__" : Str))=false:=by decide)(hcd:(x==("__classdict__" : Str))=false:=by decide):PE X (.Name x pos) (zlh i):=by
 intro pins s σ H Q I h
 obtain ⟨v,e,h⟩:=h
 obtain ⟨m,hn,hl⟩:=I.loc
 obtain ⟨u,r,l⟩:=hl i x v hN e hv
 have fin:EP X pins σ Q u s:=⟨v,H,I,r,h⟩
 rcases l with ⟨hk,hm⟩ | ⟨hk,c,hc,hcell⟩
 ·exact wpAny_Name (wpAny_loadName_local I.ok.kind hk hn hm fin) hd
 ·rcases hk with hk | hk
  ·exact wpAny_Name (wpAny_loadName_cell I.ok.kind hk hc hcell fin) hd
  ·exact wpAny_Name (wpAny_loadName_free I.ok.kind hk hc hcell fin hcd) hd
theorem zmG {i j pos}:PE X (.Constant (.int i) j pos) (tC (.int i)):=fun _ _ _ H _ I h=>wpAny_Constant_int ⟨.int i,H,I.tok _,⟨_,rfl⟩,h⟩
theorem zo7 {b j pos}:PE X (.Constant (.bool b) j pos) (tC (.bl b)):=fun _ _ _ H _ I h=>Constant_bool ⟨.bl b,H,I,rfl,h⟩
theorem zmK {x j pos}:PE X (.Constant (.str x) j pos) (tC (.str x)):=fun _ _ _ H _ I h=>Calls.Constant_str ⟨.str x,H,I.tok _,⟨_,rfl⟩,h⟩
def Gl (X:Cx)(x:Str):Prop:=X.env.kindOf x=some .globalImplicit
theorem zgz {E:Value->Shared->Prop}{pins:List (Addr×Obj)}{s:Shared}{σ:St}{H:Hp}{x:Str}{u:Value}{pos:Pos}{Q:Value->Shared->Prop}(I:Inv X pins σ H s)(hg:Gl X x)(hm:X.mg x=some u)(h:Q u s)
  (hd:(x==("__debug__" : Str))=false:=by decide):wpAny (model X.prog X.w) X.A (eval (.Name x pos) X.env) Q E s:=
 Calls.Name_function_global I.ok.kind hg (Calls.loadGlobal_global (by rw [I.ok.glob];exact I.mod.glob.keeps I.bk) hm h) hd
theorem zbt {E:Value->Shared->Prop}{pins:List (Addr×Obj)}{s:Shared}{σ:St}{H:Hp}{x:Str}{u:Value}{pos:Pos}{Q:Value->Shared->Prop}(I:Inv X pins σ H s)(hg:Gl X x)(hm:X.mg x=none)(hv:bootBuiltins x=some u)(h:Q u s)
  (hn:x ≠ "__name__" := by decide) (hd:(x==("__debug__" : Str))=false:=by decide):wpAny (model X.prog X.w) X.A (eval (.Name x pos) X.env) Q E s:=by
 obtain ⟨mb,h1,h2⟩:=I.mod.blt
 exact Calls.Name_function_global I.ok.kind hg (Calls.loadGlobal_builtin (by rw [I.ok.glob];exact I.mod.glob.keeps I.bk) hm (by rw [I.ok.blt];exact h1.keeps I.bk) ((h2 x hn).trans hv) h) hd
theorem zkG {x:Str}{v:V}{u:Value}{pos:Pos}(hg:Gl X x)(hm:X.mg x=some u)(r:zX v u)(hd:(x==("__debug__" : Str))=false:=by decide):PE X (.Name x pos) (tC v):=
 fun _ _ _ H _ I h=>zgz I hg hm ⟨v,H,I,r,h⟩ hd
theorem zkA {x:Str}{v:V}{u:Value}{pos:Pos}(hg:Gl X x)(hm:X.mg x=none)(hv:bootBuiltins x=some u)(r:zX v u)(hn:x ≠ "__name__" := by decide)(hd:(x==("__debug__" : Str))=false:=by decide):PE X (.Name x pos) (tC v):=
 fun _ _ _ H _ I h=>zbt I hg hm hv ⟨v,H,I,r,h⟩ hn hd
variable {a b:Expr}{ta tb:TE}{pos:Pos}
def PC (X:Cx)(op:CmpOp)(a b:Expr)(t:TE):Prop:=
 ∀ (pins:List (Addr×Obj)) (s:Shared) (σ:St) (H:Hp) (Q:VK),Inv X pins σ H s->t σ H Q->
  wpAny (model X.prog X.w) X.A (eval a X.env) (fun v s₁=>wpAny (model X.prog X.w) X.A (eval b X.env) (fun u s₂=>wpAny (model X.prog X.w) X.A (compareOp op v u) (EP X pins σ Q) X.xe s₂) X.xe s₁) X.xe s
theorem zbW (b:Expr){op:CmpOp}(h:op≠.In)(h2:op≠.NotIn):behindInMarks op b=false:=by
 have e1:(op==CmpOp.In)=false:=by cases op <;> first | rfl | exact absurd rfl h
 have e2:(op==CmpOp.NotIn)=false:=by cases op <;> first | rfl | exact absurd rfl h2
 cases b <;> simp [behindInMarks,e1,e2]
def tB (t:TE):TT:=fun σ H Q=>t σ H fun x H1=>∃ c,x = .bl c/\Q c H1
theorem zmY {op:CmpOp}{t:TE}(h:PC X op a b t)(h1:behindInMarks op b=false:=by first | exact zbW _ (by decide) (by decide) | rfl):PT X (.Compare a [op] [b] pos) (tB t):=by
 intro pins s σ H Q I hw
 refine wpAny_isTrue_Compare1 (thn (h pins s σ H _ I hw) fun v s1 h1=>thn h1 fun u s2 h2=>thn h2 fun c s3 ⟨x,H1,I1,r1,q1⟩=>?_) h1
 obtain ⟨d,rfl,q⟩:=q1
 cases r1
 exact wpAny_truthy_bool ⟨H1,I1,q⟩
theorem zm0 {e:Expr}{t:TE}(h:PE X e t)(he:∀ whole,isTrue e X.env whole=(do let v <- whole;standAt e.pos;holding [v] (truthy v)):=by intro _;rfl):PT X e (tB t):=by
 intro pins s σ H Q I hw
 refine isTrue_plain (thn (h pins s σ H _ I hw) fun v s1 ⟨x,H1,I1,r1,q1⟩=>?_) (he _)
 obtain ⟨d,rfl,q⟩:=q1
 cases r1
 exact wpAny_truthy_bool ⟨H1,I1,q⟩
variable {tA tB':TT}{z6:List Expr}
def tAnd (t u:TT):TT:=fun σ H Q=>t σ H fun c H1=>if c=true then u σ H1 Q else Q false H1
def tOr (t u:TT):TT:=fun σ H Q=>t σ H fun c H1=>if c=true then Q true H1 else u σ H1 Q
def tNot (t:TT):TT:=fun σ H Q=>t σ H fun c H1=>Q (!c) H1
theorem zkZ (ha:PT X a tA):PW X (.BoolOp .And [a] pos) tA:=by
 intro wh pins s σ H Q I h
 refine isTrue_and (thn (ha pins s σ H Q I h) fun c s1 e=>?_)
 cases c with
 | true=>exact isTrue_and_nil e
 | false=>exact e
theorem zm2 (ha:PT X a tA):PW X (.BoolOp .Or [a] pos) tA:=by
 intro wh pins s σ H Q I h
 refine isTrue_or (thn (ha pins s σ H Q I h) fun c s1 e=>?_)
 cases c with
 | false=>exact isTrue_or_nil e
 | true=>exact e
theorem zm1 (ha:PT X a tA)(hb:PW X (.BoolOp .And (b::z6) pos) tB'):PW X (.BoolOp .And (a::b::z6) pos) (tAnd tA tB'):=by
 intro wh pins s σ H Q I h
 refine isTrue_and (thn (ha pins s σ H _ I h) fun c s1 ⟨H1,I1,q1⟩=>?_)
 cases c with
 | true=>exact hb wh pins s1 σ H1 Q I1 q1
 | false=>exact ⟨H1,I1,q1⟩
theorem zph (ha:PT X a tA)(hb:PW X (.BoolOp .Or (b::z6) pos) tB'):PW X (.BoolOp .Or (a::b::z6) pos) (tOr tA tB'):=by
 intro wh pins s σ H Q I h
 refine isTrue_or (thn (ha pins s σ H _ I h) fun c s1 ⟨H1,I1,q1⟩=>?_)
 cases c with
 | true=>exact ⟨H1,I1,q1⟩
 | false=>exact hb wh pins s1 σ H1 Q I1 q1
theorem zmZ (ha:PT X a tA):PT X (.UnaryOp .Not a pos) (tNot tA):=by
 intro pins s σ H Q I h
 exact isTrue_not (ha pins s σ H (fun c H1=>Q (!c) H1) I h)
def znv (ta tb:TE):TE:=fun σ H Q=>ta σ H fun x H1=>∃ c,x = .bl c/\if c=true then tb σ H1 Q else Q (.bl false) H1
def znE (ta:TE):TE:=fun σ H Q=>ta σ H fun x H1=>∃ c,x = .bl c/\Q (.bl (!c)) H1
theorem zmJ {op}{t:TE}(h:PE X a t):PE X (.BoolOp op [a] pos) t:=fun pins s σ H Q I hw=>BoolOp_one (h pins s σ H Q I hw)
theorem zmF (ha:PE X a ta)(hb:PE X (.BoolOp .And (b::z6) pos) tb):PE X (.BoolOp .And (a::b::z6) pos) (znv ta tb):=by
 intro pins s σ H Q I h
 refine BoolOp_and (thn (ha pins s σ H _ I h) fun v s1 ⟨x,H1,I1,r1,q1⟩=>?_)
 obtain ⟨c,rfl,q1⟩:=q1
 cases r1
 refine wpAny_truthy_bool ?_
 cases c with
 | true=>exact hb pins s1 σ H1 Q I1 q1
 | false=>exact ⟨.bl false,H1,I1,rfl,q1⟩
theorem zmI (ha:PE X a ta):PE X (.UnaryOp .Not a pos) (znE ta):=by
 intro pins s σ H Q I h
 refine UnaryOp_ (thn (ha pins s σ H _ I h) fun v s1 ⟨x,H1,I1,r1,q1⟩=>?_)
 obtain ⟨c,rfl,q1⟩:=q1
 cases r1
 exact not_of (wpAny_truthy_bool ⟨.bl (!c),H1,I1,rfl,q1⟩)
def tIf (t:TT)(ta tb:TE):TE:=fun σ H Q=>t σ H fun c H1=>if c=true then ta σ H1 Q else tb σ H1 Q
theorem ziA {c:Expr}(hc:PT X c tA)(ha:PE X a ta)(hb:PE X b tb):PE X (.IfExp c a b pos) (tIf tA ta tb):=by
 intro pins s σ H Q I h
 refine wpAny_IfExp (thn (hc pins s σ H _ I h) fun d s1 ⟨H1,I1,q1⟩=>?_)
 cases d with
 | true=>exact ha pins s1 σ H1 Q I1 q1
 | false=>exact hb pins s1 σ H1 Q I1 q1
end
def SqL (K:PySem.W.Frag)(H:Hp)(a:Addr)(xs:List V):Prop:=
 Rd H a (.lst xs)\/
  ∃ (o:Obj) (its:Array Value) (n:Nat),K.lookup a=some o/\o.cls = .type "list" /\ o.dict=none/\o.data = .seq its n/\its.size<=sizeLine/\zY xs its.toList
def SqT (K:PySem.W.Frag)(H:Hp)(a:Addr)(xs:List V):Prop:=
 Rd H a (.tup xs)\/
  ∃ (o:Obj) (its:Array Value) (n:Nat),K.lookup a=some o/\o.cls = .type "tuple" /\ o.data = .seq its n/\its.size<=sizeLine/\zY xs its.toList
def absV:Value->Option V
 | .none=>some .non
 | .bool b=>some (.bl b)
 | .int i _=>some (.int i)
 | .str x _=>some (.str x)
 | .bytes b _=>some (.byt b)
 | .float b _=>some (.flt b)
 | .ref a=>some (.ref a)
 | .type n=>some (.ty n)
 | _=>none
theorem zX.abs {x:V}{u:Value}(r:zX x u):absV u=some x:=by
 cases x with
 | non=>cases r;rfl
 | bl _=>cases r;rfl
 | int _=>obtain ⟨t,rfl⟩:=r;rfl
 | str _=>obtain ⟨t,rfl⟩:=r;rfl
 | byt _=>obtain ⟨t,rfl⟩:=r;rfl
 | flt _=>obtain ⟨t,rfl⟩:=r;rfl
 | ref _=>cases r;rfl
 | ty _=>cases r;rfl
theorem zX.inj {x y:V}{u:Value}(r:zX x u)(q:zX y u):x=y:=Option.some.inj (r.abs.symm.trans q.abs)
theorem zY.inj:∀ {xs ys:List V} {us:List Value},zY xs us->zY ys us->xs=ys
 | _,_,_,.nil,.nil=>rfl
 | _,_,_,.cons r t,.cons r' t'=>by rw [r.inj r',zY.inj t t']
section
variable {X:Cx}{pins:List (Addr×Obj)}{σ:St}{H:Hp}{s:Shared}{a:Addr}{xs ys:List V}
theorem SqL.of {K:PySem.W.Frag}(h:H a=some (.lst xs)):SqL K H a xs:=.inl (.inl h)
theorem SqT.of {K:PySem.W.Frag}(h:H a=some (.tup xs)):SqT K H a xs:=.inl (.inl h)
theorem Inv.list (I:Inv X pins σ H s)(h:SqL X.K H a xs):∃ its:List Value,zY xs its/\PlainL s.heap a its.toArray/\xs.length<=sizeLine:=by
 rcases h with h | ⟨o,its,n,hk,hc,hd,hs,hz,r⟩
 ·obtain ⟨z,its,n,r,e⟩:=h.ok I.hok
  exact ⟨its,r,⟨_,n,e,rfl,rfl,rfl⟩,z⟩
 ·refine ⟨its.toList,r,⟨o,n,I.kIn a o hk,hc,hd,by simpa using hs⟩,?_⟩
  have e:=r.length
  simp only [Array.length_toList] at e
  lia
theorem Inv.tuple (I:Inv X pins σ H s)(h:SqT X.K H a xs):∃ its:List Value,zY xs its/\IsTup s.heap a its.toArray/\xs.length<=sizeLine:=by
 rcases h with h | ⟨o,its,n,hk,hc,hs,hz,r⟩
 ·obtain ⟨z,its,r,p⟩:=h.ok I.hok
  exact ⟨its,r,p.tup,z⟩
 ·refine ⟨its.toList,r,⟨o,I.kIn a o hk,hc,n,by simpa using hs⟩,?_⟩
  have e:=r.length
  simp only [Array.length_toList] at e
  lia
theorem Inv.list_inj (I:Inv X pins σ H s)(h:SqL X.K H a xs)(h':SqL X.K H a ys):xs=ys:=by
 obtain ⟨its,r,⟨o,n,e,_,_,d⟩,_⟩:=I.list h
 obtain ⟨its',r',⟨o',n',e',_,_,d'⟩,_⟩:=I.list h'
 rw [e] at e';cases e'
 rw [d] at d'
 injection d' with d1 _
 have:its=its':=by simpa using congrArg Array.toList d1
 subst this
 exact r.inj r'
theorem Inv.tuple_inj (I:Inv X pins σ H s)(h:SqT X.K H a xs)(h':SqT X.K H a ys):xs=ys:=by
 obtain ⟨its,r,⟨o,e,_,n,d⟩,_⟩:=I.tuple h
 obtain ⟨its',r',⟨o',e',_,n',d'⟩,_⟩:=I.tuple h'
 rw [e] at e';cases e'
 rw [d] at d'
 injection d' with d1 _
 have:its=its':=by simpa using congrArg Array.toList d1
 subst this
 exact r.inj r'
end
abbrev Cx.wish (X:Cx)(E:Value->Shared->Prop):Cx:={ X with xe:=E }
abbrev Cx.nox (X:Cx):Cx:=X.wish fun _ _=>False
theorem Cx.Ok.wish {X:Cx}(ok:X.Ok)(E:Value->Shared->Prop):(X.wish E).Ok:=
 ⟨ok.mod,ok.kind,ok.glob,ok.blt,ok.above,ok.inj,ok.has,ok.cab,ok.hd,ok.frames,ok.stk,ok.exf,ok.bs,ok.bsz,ok.noex,ok.exfs,ok.funs,ok.frf⟩
theorem Cx.Ok.unwish {X:Cx}{E:Value->Shared->Prop}(ok:(X.wish E).Ok):X.Ok:=
 ⟨ok.mod,ok.kind,ok.glob,ok.blt,ok.above,ok.inj,ok.has,ok.cab,ok.hd,ok.frames,ok.stk,ok.exf,ok.bs,ok.bsz,ok.noex,ok.exfs,ok.funs,ok.frf⟩
section
variable {X:Cx}{pins:List (Addr×Obj)}{σ:St}{H:Hp}{s:Shared}{E:Value->Shared->Prop}
theorem Inv.wish (I:Inv X pins σ H s)(E:Value->Shared->Prop):Inv (X.wish E) pins σ H s:=⟨I.ok.wish E,I.os,I.bare,I.base,I.loc,I.cell,I.free,I.freeC,I.pin,I.hok,I.len⟩
theorem Inv.unwish (I:Inv (X.wish E) pins σ H s):Inv X pins σ H s:=⟨I.ok.unwish,I.os,I.bare,I.base,I.loc,I.cell,I.free,I.freeC,I.pin,I.hok,I.len⟩
theorem SP.unwish {D:Ends}{f:Flow}{s':Shared}(h:SP (X.wish E) pins D f s'):SP X pins D f s':=by
 cases f with
 | next=>obtain ⟨σ',H',I,q⟩:=h;exact ⟨σ',H',I.unwish,q⟩
 | brk=>obtain ⟨σ',H',I,q⟩:=h;exact ⟨σ',H',I.unwish,q⟩
 | cont=>obtain ⟨σ',H',I,q⟩:=h;exact ⟨σ',H',I.unwish,q⟩
 | ret u=>obtain ⟨v,σ',H',I,r,q⟩:=h;exact ⟨v,σ',H',I.unwish,r,q⟩
theorem PSs.nox {st:List Stmt}{t:TS}(h:PSs X.nox st t):PSs X st t:=fun pins s σ H D I hw=>
 wpAny_mono (h pins s σ H D (I.wish _) hw) (fun _ _ q=>q.unwish) fun _ _ z=>False.elim z
end
section
variable {X:Cx}{st:Stmt}{z6:List Stmt}{t u:TS}{e:Expr}{te:TE}{pos:Pos}
def znC:TS:=fun D σ H=>D.nx σ H
def zpu (t u:TS):TS:=fun D σ H=>t { D with nx:=u D } σ H
theorem zkU:PSs X [] znC:=fun _ _ σ H _ I h=>wpAny_execs_nil ⟨σ,H,I,h⟩
theorem ziG (h1:PS X st t)(h2:PSs X z6 u):PSs X (st::z6) (zpu t u):=by
 intro pins s σ H D I h
 refine wpAny_execs_cons (thn (h1 pins s σ H { D with nx:=u D } I h) fun f s1 q=>?_)
 cases f with
 | next=>
  obtain ⟨σ',H',I',q⟩:=q
  exact h2 pins s1 σ' H' D I' q
 | ret v=>exact q
 | brk=>exact q
 | cont=>exact q
theorem zkV (h1:PS X st t):PSs X [st] t:=by
 intro pins s σ H D I h
 refine wpAny_execs_cons (thn (h1 pins s σ H D I h) fun f s1 q=>?_)
 cases f with
 | next=>exact wpAny_execs_nil q
 | ret v=>exact q
 | brk=>exact q
 | cont=>exact q
theorem Inv.quiet {pins:List (Addr×Obj)}{σ:St}{H:Hp}{s:Shared}(I:Inv X pins σ H s):interactive X.env=false:=by simp [interactive,I.ok.kind]
def znz (te:TE):TS:=fun D σ H=>te σ H fun _ H1=>D.nx σ H1
theorem zkS (he:PE X e te)(hs:swapsWith e none pos.line X.env=pure false:=by rfl):PS X (.Expr e pos) (znz te):=by
 intro pins s σ H D I h
 exact wpAny_Expr_any (thn (he pins s σ H _ I h) fun v s1 ⟨x,H1,I1,r1,q1⟩=>⟨σ,H1,I1,q1⟩) I.quiet hs
def zpt (te:TE):TS:=fun D σ H=>te σ H D.rt
theorem zmW (he:PE X e te):PS X (.Return (some e) pos) (zpt te):=by
 intro pins s σ H D I h
 exact wpAny_Return_some (thn (he pins s σ H _ I h) fun v s1 ⟨x,H1,I1,r1,q1⟩=>⟨x,σ,H1,I1,r1,q1⟩)
def tIfS (c:TT)(t u:TS):TS:=fun D σ H=>c σ H fun b H1=>if b=true then t D σ H1 else u D σ H1
theorem zpf {c:Expr}{a b:List Stmt}{tc:TT}(hc:PT X c tc)(ha:PSs X a t)(hb:PSs X b u):PS X (.If c a b pos) (tIfS tc t u):=by
 intro pins s σ H D I h
 refine wpAny_If (thn (hc pins s σ H _ I h) fun d s1 ⟨H1,I1,q1⟩=>?_)
 cases d with
 | true=>exact ha pins s1 σ H1 D I1 q1
 | false=>exact hb pins s1 σ H1 D I1 q1
end
abbrev TG:=V->St->Hp->(St->Hp->Prop)->Prop
abbrev TGs:=List V->St->Hp->(St->Hp->Prop)->Prop
def PG (X:Cx)(target:Expr)(t:TG):Prop:=
 ∀ (pins:List (Addr×Obj)) (s:Shared) (σ:St) (H:Hp) (v:V) (u:Value) (Q:St->Hp->Prop),Inv X pins σ H s->zX v u->t v σ H Q->
  wpAny (model X.prog X.w) X.A (assign target X.env u) (fun _ s'=>∃ σ' H',Inv X pins σ' H' s'/\Q σ' H') X.xe s
def PGs (X:Cx)(ts:List Expr)(t:TGs):Prop:=
 ∀ (pins:List (Addr×Obj)) (s:Shared) (σ:St) (H:Hp) (vs:List V) (us:List Value) (Q:St->Hp->Prop),Inv X pins σ H s->zY vs us->t vs σ H Q->
  wpAny (model X.prog X.w) X.A (assignInOrder ((assignEach ts X.env).map (·.2)) us) (fun _ s'=>∃ σ' H',Inv X pins σ' H' s'/\Q σ' H') X.xe s
section
variable {X:Cx}{pos:Pos}
def u8 (i:Nat):TG:=fun v σ H Q=>Q (σ.set i (some v)) H
theorem zkK {i:Nat}{x:Str}(hN:X.N.Nodup)(hi:X.N[i]?=some x)(hx:Loc X.env.scope x)(hf:X.fn x=true\/X.env.scope.names.lookup x=some .local:=by first | exact .inl rfl | exact .inr rfl | assumption):PG X (.Name x pos) (u8 i):=by
 intro pins s σ H v u Q I r h
 exact wpAny_assign_Name (zeL I hN hi hx r (fun s' I'=>⟨_,H,I',h⟩) hf)
def gNil:TGs:=fun vs σ H Q=>vs=[]/\Q σ H
def zlV (t:TG)(u:TGs):TGs:=fun vs σ H Q=>∃ v r,vs=v::r/\t v σ H fun σ' H'=>u r σ' H' Q
theorem zkL:PGs X [] gNil:=by
 intro pins s σ H vs us Q I r h
 obtain ⟨e,h⟩:=h
 subst e
 cases r
 exact assignInOrder_nil ⟨σ,H,I,h⟩
theorem ziC {e:Expr}{es:List Expr}{t:TG}{u:TGs}(h1:PG X e t)(h2:PGs X es u)
  (hs:(assignEach (e::es) X.env).map (·.2)=assign e X.env::(assignEach es X.env).map (·.2):=by rfl):PGs X (e::es) (zlV t u):=by
 intro pins s σ H vs us Q I r h
 obtain ⟨v,vr,e1,h⟩:=h
 subst e1
 cases r with
 | cons r rr=>
  rw [hs]
  refine assignInOrder_cons (thn (h1 pins s σ H _ _ _ I r h) fun _ s1 ⟨σ1,H1,I1,q1⟩=>?_)
  exact h2 pins s1 σ1 H1 _ _ Q I1 rr q1
def zox (K:PySem.W.Frag)(n:Nat)(t:TGs):TG:=fun v σ H Q=>∃ a xs,v = .ref a/\SqT K H a xs/\xs.length=n/\t xs σ H Q
theorem zmR {es:List Expr}{k:Nat}{t:TGs}{n:Nat}(hc:X.calm=true)(h:PGs X es t)
  (hn:(assignEach es X.env).length=n:=by rfl) (hst:(assignEach es X.env).findIdx? (·.1)=none:=by rfl):PG X (.Tuple es k pos) (zox X.K n t):=by
 intro pins s σ H v u Q I r hw
 obtain ⟨a,xs,e1,hq,hl,hw⟩:=hw
 subst e1
 cases r
 obtain ⟨its,rv,ht,hz⟩:=I.tuple hq
 refine assign_Tuple_tuple (I.ok.hd hc) ht (by simp [hn,<- hl,rv.length]) hst fun h' hx=>?_
 have I1:Inv X pins σ H { s with heap:=h' }:=I.kept (t':=s.toks) fun b o e=>hx b o (Nat.ne_of_lt (Heap.lt_size e)) e
 exact h pins _ σ H xs _ Q I1 (by simpa using rv) hw
def zfi (te:TE)(g:TG):TS:=fun D σ H=>te σ H fun x H1=>g x σ H1 D.nx
theorem zmU {tg e:Expr}{te:TE}{g:TG}(he:PE X e te)(hg:PG X tg g)(hs:swapsWithSole [tg] e pos.line X.env=pure false:=by rfl)(hw:swappedStores [tg] e X.env=pure none:=by rfl)
  (h1:(assignEach [tg] X.env).map (·.2)=[assign tg X.env]:=by rfl):PS X (.Assign [tg] e pos) (zfi te g):=by
 intro pins s σ H D I h
 refine wpAny_Assign_stores (thn (he pins s σ H _ I h) fun v s1 ⟨x,H1,I1,r1,q1⟩=>?_) hs hw
 rw [h1]
 exact thn (hg pins s1 σ H1 x v _ I1 r1 q1) fun _ s2 q=>q
theorem zmX {i:Nat}{x:Str}{e:Expr}{te:TE}{pos':Pos}(hN:X.N.Nodup)(hi:X.N[i]?=some x)(hx:Loc X.env.scope x)(he:PE X e te)(hs:swapsWith e (some (.Name x pos')) pos.line X.env=pure false:=by rfl)(hf:X.fn x=true\/X.env.scope.names.lookup x=some .local:=by first | exact .inl rfl | exact .inr rfl | assumption) :
  PS X (.Assign [.Name x pos'] e pos) (zfi te (u8 i)):=by
 intro pins s σ H D I h
 refine wpAny_Assign_Name (thn (he pins s σ H _ I h) fun v s1 ⟨y,H1,I1,r1,q1⟩=>?_) hs
 exact zeL I1 hN hi hx r1 (fun s2 I2=>⟨_,H1,I2,q1⟩) hf
end
section
variable {X:Cx}{pos:Pos}
end
structure It where
 go:Nat->Hp->Prop
 yld:Nat->Hp->V->Hp->Prop
 stop:Nat->Hp->Prop
def zdg (X:Cx)(pins:List (Addr×Obj))(H:Hp)(b:Addr):Prop:=
 H b=none/\b≠X.env.locals/\b∉X.fs/\(b∈X.ex\/X.s₀.heap.objs.size<=b)/\(∀ x c,X.env.cells.lookup x=some c->c≠b)/\∀ p∈X.pn++pins,p.1≠b
theorem Inv.fpOk {X:Cx}{pins:List (Addr×Obj)}{σ:St}{H H':Hp}{s:Shared}{b:Addr}(I:Inv X pins σ H s)(hb:s.heap.objs.size<=b)(hn:H' b=none):zdg X pins H' b:=by
 refine ⟨hn,Nat.ne_of_gt (Nat.lt_of_lt_of_le I.lt hb),I.nofs hb,.inr (Nat.le_trans I.sz hb),fun x c e z=>?_,fun p hp z=>?_⟩
 ·obtain ⟨v,q⟩:=I.cell x c e
  exact absurd (Nat.lt_of_lt_of_le q.lt (by rw [z];exact hb)) (Nat.lt_irrefl _)
 ·exact absurd (Nat.lt_of_lt_of_le (Heap.lt_size (I.pin p hp).1) (by rw [z];exact hb)) (Nat.lt_irrefl _)
structure Turn (P:Program)(w:World)(K:PySem.W.Frag)(tg:Expr)(J:It)(fp:List Addr)(it:Addr)(tn:Nat->Heap->Prop):Prop where
 mem:it∈fp
 obj:∀ i h,tn i h->∀ b∈fp,∃ o,h.get? b=some o/\∀ v,o.data≠.cell v
 keep:∀ i h h',tn i h->(∀ b∈fp,∀ o,h.get? b=some o->h'.get? b=some o)->tn i h'
 item:∀ (X:Cx),X.prog=P->X.w=w->X.K=K->X.calm=true->∀ (i:Nat) (pins:List (Addr×Obj)) (s:Shared) (σ:St) (H:Hp) (E:Value->Shared->Prop),Inv X pins σ H s->(∀ b∈fp,zdg X pins H b)->tn i s.heap->J.go i H->
  wpAny (model P w) X.A (pyNext (.ref it)) (fun r s1=>∃ u,r=some u/\
   wpAny (model P w) X.A (letOwnedTupleGo tg (.ref it) u) (fun _ s2=>∃ x H',Inv X pins σ H' s2/\zX x u/\J.yld i H x H'/\tn (i+1) s2.heap/\∀ b∈fp,H' b=none) E s1) E s
 done:∀ (X:Cx),X.prog=P->X.w=w->X.K=K->X.calm=true->∀ (i:Nat) (pins:List (Addr×Obj)) (s:Shared) (σ:St) (H:Hp) (E:Value->Shared->Prop),Inv X pins σ H s->(∀ b∈fp,zdg X pins H b)->tn i s.heap->J.stop i H->
  wpAny (model P w) X.A (pyNext (.ref it)) (fun r s1=>r=none/\Inv X pins σ H s1) E s
 self:∀ (A:Around) (i:Nat) (s:Shared) (Q:Value->Shared->Prop) (E:Value->Shared->Prop),tn i s.heap->Q (.ref it) s->wpAny (model P w) A (pyIter (.ref it)) Q E s
abbrev TI:=St->Hp->(It->Hp->Prop)->Prop
def PIE (X:Cx)(pins:List (Addr×Obj))(σ:St)(tg:Expr)(R:It->Hp->Prop)(itv:Value)(s2:Shared):Prop:=
 ∃ (it:Addr) (fp:List Addr) (tn:Nat->Heap->Prop) (J:It) (H':Hp),itv = .ref it/\Inv X pins σ H' s2/\Turn X.prog X.w X.K tg J fp it tn/\tn 0 s2.heap/\(∀ b∈fp,zdg X pins H' b)/\R J H'
def PI (X:Cx)(tg iter:Expr)(wi:TI):Prop:=
 ∀ (pins:List (Addr×Obj)) (s:Shared) (σ:St) (H:Hp) (R:It->Hp->Prop),Inv X pins σ H s->wi σ H R->
  wpAny (model X.prog X.w) X.A (eval iter X.env) (fun v s1=>wpAny (model X.prog X.w) X.A (pyIter v) (PIE X pins σ tg R) X.xe s1) X.xe s
theorem zjY {M:Model}{A:Around}{E:Value->Shared->Prop}{s:Shared}{tg:Expr}{it:Addr}{u:Value}{o:Obj}{n:String}{vs:Array Value}{Q:Unit->Shared->Prop}(ho:s.heap.get? it=some o)(hc:o.cls = .type n)(hd:o.data = .fields vs)
  (hn:["enumerate","zip","dict_itemiterator","dict_reverseitemiterator","odict_iterator","itertools.zip_longest","itertools.pairwise"].contains n=false) (hQ:Q () s):wpAny M A (letOwnedTupleGo tg (.ref it) u) Q E s:=by
 unfold letOwnedTupleGo
 cases tg <;> first
  | exact wpAny_pure hQ
  | (cases u <;> first
    | exact wpAny_pure hQ
    | (refine wpAny_bind (wpAny_load ho ?_)
       rw [hc,hd]
       show wpAny M A (if (["enumerate","zip","dict_itemiterator","dict_reverseitemiterator","odict_iterator","itertools.zip_longest","itertools.pairwise"].contains n&&vs[0]?==some (rawInt _))=true then _ else _) Q E s
       rw [if_neg (by intro h;rw [hn,Bool.false_and] at h;cases h)]
       exact wpAny_pure hQ))
def Itl (K:PySem.W.Frag)(a:Addr):It:=
 ⟨fun i H=>∃ xs x,SqL K H a xs/\xs[i]?=some x,fun i H x H'=>H'=H/\∀ xs,SqL K H a xs->xs[i]?=some x,fun i H=>∃ xs,SqL K H a xs/\xs.length<=i⟩
def Itt (K:PySem.W.Frag)(a:Addr):It:=
 ⟨fun i H=>∃ xs x,SqT K H a xs/\xs[i]?=some x,fun i H x H'=>H'=H/\∀ xs,SqT K H a xs->xs[i]?=some x,fun i H=>∃ xs,SqT K H a xs/\xs.length<=i⟩
def Itr (lo:Int)(n:Nat):It:=⟨fun i _=>i<n,fun i H x H'=>H'=H/\x = .int (lo+i),fun i _=>n<=i⟩
theorem zhu {P:Program}{w:World}{K:PySem.W.Frag}{tg:Expr}(a it:Addr):Turn P w K tg (Itl K a) [it] it (fun i h=>h.IsListIter it a i) where
 mem:=by simp
 obj:=fun i h st b hb=>by
  have e:b=it:=by simpa using hb
  subst e
  obtain ⟨o,e,c,d⟩:=st
  exact ⟨o,e,fun v z=>by rw [d] at z;cases z⟩
 keep:=fun i h h' st k=>st.at fun o e=>k it (by simp) o e
 item:=by
  intro X hP hw hK hc i pins s σ H E I hf st hg
  subst hP hw hK
  obtain ⟨xs,x,hq,hx⟩:=hg
  obtain ⟨its,rv,p,hz⟩:=I.list hq
  obtain ⟨u,hu,ru⟩:=rv.get hx
  obtain ⟨f0,f1,f2,f3,f4,f5⟩:=hf it (by simp)
  refine wpAny_pyNext_list_item st p.isList (x:=u) (by simpa using hu) fun h' st' sb=>?_
  have I1:Inv X pins σ H { s with heap:=h' }:=I.turned (t':=s.toks) (fun b o hb e=>(sb.2 b hb).trans e) f0 f1 f3 f4 f5
  obtain ⟨o,e,c,d⟩:=id st'
  exact ⟨u,rfl,zjY (s:={ s with heap:=h' }) e c d (by decide) ⟨x,H,I1,ru,⟨rfl,fun ys hy=>by rw [I.list_inj hy hq];exact hx⟩,st',fun b hb=>(hf b hb).1⟩⟩
 done:=by
  intro X hP hw hK hc i pins s σ H E I hf st hg
  subst hP hw hK
  obtain ⟨xs,hq,hx⟩:=hg
  obtain ⟨its,rv,p,hz⟩:=I.list hq
  obtain ⟨f0,f1,f2,f3,f4,f5⟩:=hf it (by simp)
  have hl:=rv.length
  exact wpAny_pyNext_list_end (I.ok.hd hc) st p.isList (by simp;lia) fun h' eb=>⟨rfl,I.turned (t':=s.toks) (fun b o hb e=>eb b o hb e) f0 f1 f3 f4 f5⟩
 self:=fun _ _ _ _ _ st h=>wpAny_pyIter_listiter st h
theorem zfr {P:Program}{w:World}{K:PySem.W.Frag}{tg:Expr}(a it:Addr):Turn P w K tg (Itt K a) [it] it (fun i h=>h.IsTupleIter it a i) where
 mem:=by simp
 obj:=fun i h st b hb=>by
  have e:b=it:=by simpa using hb
  subst e
  obtain ⟨o,e,c,d⟩:=st
  exact ⟨o,e,fun v z=>by rw [d] at z;cases z⟩
 keep:=fun i h h' st k=>st.at fun o e=>k it (by simp) o e
 item:=by
  intro X hP hw hK hc i pins s σ H E I hf st hg
  subst hP hw hK
  obtain ⟨xs,x,hq,hx⟩:=hg
  obtain ⟨its,rv,p,hz⟩:=I.tuple hq
  obtain ⟨u,hu,ru⟩:=rv.get hx
  obtain ⟨f0,f1,f2,f3,f4,f5⟩:=hf it (by simp)
  refine wpAny_pyNext_tuple_item st (show s.heap.IsTuple a its.toArray from p) (x:=u) (by simpa using hu) fun h' st' sb=>?_
  have I1:Inv X pins σ H { s with heap:=h' }:=I.turned (t':=s.toks) (fun b o hb e=>(sb.2 b hb).trans e) f0 f1 f3 f4 f5
  obtain ⟨o,e,c,d⟩:=id st'
  exact ⟨u,rfl,zjY (s:={ s with heap:=h' }) e c d (by decide) ⟨x,H,I1,ru,⟨rfl,fun ys hy=>by rw [I.tuple_inj hy hq];exact hx⟩,st',fun b hb=>(hf b hb).1⟩⟩
 done:=by
  intro X hP hw hK hc i pins s σ H E I hf st hg
  subst hP hw hK
  obtain ⟨xs,hq,hx⟩:=hg
  obtain ⟨its,rv,p,hz⟩:=I.tuple hq
  obtain ⟨f0,f1,f2,f3,f4,f5⟩:=hf it (by simp)
  have hl:=rv.length
  exact wpAny_pyNext_tuple_end (I.ok.hd hc) st (show s.heap.IsTuple a its.toArray from p) (by simp;lia) fun h' eb=>⟨rfl,I.turned (t':=s.toks) (fun b o hb e=>eb b o hb e) f0 f1 f3 f4 f5⟩
 self:=fun _ _ _ _ _ st h=>wpAny_pyIter_tupleiter st h
theorem zfq {P:Program}{w:World}{K:PySem.W.Frag}{tg:Expr}(it:Addr)(lo:Int)(n:Nat):Turn P w K tg (Itr lo n) [it] it (fun i h=>IsRangeIter h it (lo+(i:Nat) * 1) ((n:Int) - (i:Nat)) 1) where
 mem:=by simp
 obj:=fun i h st b hb=>by
  have e:b=it:=by simpa using hb
  subst e
  exact ⟨_,st,fun v z=>by
   have z':Data.fields _=Data.cell v:=z
   cases z'⟩
 keep:=fun i h h' st k=>k it (by simp) _ st
 item:=by
  intro X hP hw hK hc i pins s σ H E I hf st hg
  subst hP hw hK
  obtain ⟨f0,f1,f2,f3,f4,f5⟩:=hf it (by simp)
  have W:=Walks.range (prog:=X.prog) (w:=X.w) (I.ok.hd hc) it lo 1 n
  refine W.item i s _ _ hg st fun v h' tk hv st' kk=>?_
  obtain ⟨t,rfl⟩:=hv
  have I1:Inv X pins σ H { s with heap:=h',toks:=tk }:=I.turned (fun b o hb e=>kk b o (by simpa using hb) e) f0 f1 f3 f4 f5
  refine ⟨_,rfl,zjY (s:={ s with heap:=h',toks:=tk }) (n := "range_iterator") st' rfl rfl (by decide) ⟨.int (lo+i),H,I1,⟨t,?_⟩,⟨rfl,rfl⟩,st',fun b hb=>(hf b hb).1⟩⟩
  rw [Int.mul_one]
 done:=by
  intro X hP hw hK hc i pins s σ H E I hf st hg
  subst hP hw hK
  obtain ⟨f0,f1,f2,f3,f4,f5⟩:=hf it (by simp)
  exact wpAny_pyNext_range_end (I.ok.hd hc) st (by have:n<=i:=hg;lia) fun h' eb=>⟨rfl,I.turned (t':=s.toks) (fun b o hb e=>eb b o hb e) f0 f1 f3 f4 f5⟩
 self:=fun _ _ _ _ _ st h=>wpAny_pyIter_rangeiter st h
section
variable {X:Cx}{tg:Expr}
def zjZ (K:PySem.W.Frag)(tl:TE):TI:=fun σ H R=>tl σ H fun x H1=>∃ a,x = .ref a/\(∃ xs,SqL K H1 a xs)/\R (Itl K a) H1
def zoz (K:PySem.W.Frag)(tl:TE):TI:=fun σ H R=>tl σ H fun x H1=>∃ a,x = .ref a/\(∃ xs,SqT K H1 a xs)/\R (Itt K a) H1
theorem zkN {l:Expr}{tl:TE}(hl:PE X l tl):PI X tg l (zjZ X.K tl):=by
 intro pins s σ H R I h
 refine thn (hl pins s σ H _ I h) fun v s1 ⟨x,H1,I1,r1,q1⟩=>?_
 obtain ⟨a,e,⟨xs,hq⟩,q⟩:=q1
 subst e
 cases r1
 obtain ⟨its,rv,p,hz⟩:=I1.list hq
 refine wpAny_pyIter_list p.isList ?_
 refine ⟨s1.heap.objs.size,[s1.heap.objs.size],_,_,H1,rfl,I1.kept (t':=s1.toks) fun b o e=>Heap.get?_push_of_some _ e,zhu a _,⟨_,Heap.get?_push_size _ rfl,rfl,rfl⟩,fun b hb=>?_,q⟩
 have e:b=s1.heap.objs.size:=by simpa using hb
 subst e
 exact I1.fpOk (Nat.le_refl _) (I1.hok.fresh (Nat.le_refl _))
theorem zmS {l:Expr}{tl:TE}(hl:PE X l tl):PI X tg l (zoz X.K tl):=by
 intro pins s σ H R I h
 refine thn (hl pins s σ H _ I h) fun v s1 ⟨x,H1,I1,r1,q1⟩=>?_
 obtain ⟨a,e,⟨xs,hq⟩,q⟩:=q1
 subst e
 cases r1
 obtain ⟨its,rv,p,hz⟩:=I1.tuple hq
 refine wpAny_pyIter_tuple (show s1.heap.IsTuple a its.toArray from p) ?_
 refine ⟨s1.heap.objs.size,[s1.heap.objs.size],_,_,H1,rfl,I1.kept (t':=s1.toks) fun b o e=>Heap.get?_push_of_some _ e,zfr a _,⟨_,Heap.get?_push_size _ rfl,rfl,rfl⟩,fun b hb=>?_,q⟩
 have e:b=s1.heap.objs.size:=by simpa using hb
 subst e
 exact I1.fpOk (Nat.le_refl _) (I1.hok.fresh (Nat.le_refl _))
theorem ziO {pins:List (Addr×Obj)}{σ:St}{H:Hp}{s:Shared}{R:It->Hp->Prop}{E:Value->Shared->Prop}{lo hi:Int}{t u v:Tok}{tk:Nat}(I:Inv X pins σ H s)(h1:-(2 ^ 62)<=lo)(h2:lo<2 ^ 62)(h3:-(2 ^ 62)<=hi)(h4:hi<2 ^ 62)
  (q:R (Itr lo (hi - lo).toNat) H):wpAny (model X.prog X.w) X.A (pyIter (.ref s.heap.objs.size)) (PIE X pins σ tg R) E { s with heap:=s.heap.push { cls:=.type "range",data:=.fields #[.int lo t,.int hi u,.int 1 v] },toks:=tk }:=by
 refine wpAny_pyIter_range (IsRange.new ..) (small_one h1 h2 h3 h4) ?_
 have I1:Inv X pins σ H { s with heap:=s.heap.push { cls:=.type "range",data:=.fields #[.int lo t,.int hi u,.int 1 v] },toks:=tk }:=I.kept fun b o e=>Heap.get?_push_of_some _ e
 refine ⟨(s.heap.push { cls:=.type "range",data:=.fields #[.int lo t,.int hi u,.int 1 v] }).objs.size,[(s.heap.push { cls:=.type "range",data:=.fields #[.int lo t,.int hi u,.int 1 v] }).objs.size],_,_,H,rfl,
  I1.kept (t':=tk) fun b o e=>Heap.get?_push_of_some _ e,zfq _ lo (hi - lo).toNat,?_,fun b hb=>?_,q⟩
 ·have e1:lo+((0:Nat):Int) * 1=lo:=by simp
  have e2:(((hi - lo).toNat:Nat):Int) - ((0:Nat):Int)=Builtin.Range.rangeSize lo hi 1:=by rw [rangeSize_one];split <;> lia
  show IsRangeIter _ _ (lo+((0:Nat):Int) * 1) ((((hi - lo).toNat:Nat):Int) - ((0:Nat):Int)) 1
  rw [e1,e2]
  exact Heap.get?_push_size _ rfl
 ·have e:b=(s.heap.push { cls:=.type "range",data:=.fields #[.int lo t,.int hi u,.int 1 v] }).objs.size:=by simpa using hb
  subst e
  exact I1.fpOk (Nat.le_refl _) (I1.hok.fresh (Nat.le_refl _))
def zlZ (ta:TA):TI:=fun σ H R=>ta σ H fun vs H1=>∃ j:Int,vs=[.int j]/\-(2 ^ 62)<=j/\j<2 ^ 62/\R (Itr 0 j.toNat) H1
theorem zgR {a:Expr}{ta:TA}{p pos:Pos}(hg:Gl X "range")(hm:X.mg "range" = none)(ha:PA X [a] ta)(hs:starEach [a] X.env=[(false,eval a X.env)]:=by rfl):PI X tg (.Call (.Name "range" p) [a] [] pos) (zlZ ta):=by
 intro pins s σ H R I h
 refine Call_ (zbt I hg hm boot_range (PyProof.Rows.callWith_type1 (thn (ha pos pins s σ H _ I h) fun us s1 ⟨vs,H1,I1,r1,q1⟩=>?_) hs rfl))
 obtain ⟨j,e,q1,q2,q⟩:=q1
 subst e
 cases r1 with
 | cons r rr=>
  cases rr
  obtain ⟨t,rfl⟩:=r
  exact call_range_1 (ziO I1 (by lia) (by lia) q1 q2 (by simpa using q))
def zps (wi:TI)(g:TG)(tb:TS):TS:=fun D σ H=>wi σ H fun J H1=>∃ W:Nat->Nat->St->Hp->Prop,(∃ m,W 0 m σ H1)/\∀ i m σ H,W i m σ H->
 (J.stop i H/\D.nx σ H)\/(J.go i H/\∃ N:St->Hp->Prop,(∀ σ' H',N σ' H'->∃ m',m'<m/\W (i+1) m' σ' H')/\∀ x H',J.yld i H x H'->g x σ H' fun σ2 H2=>tb { D with nx:=N,ct:=N,bk:=D.nx } σ2 H2)
def xP (fp:List Addr)(h:Heap):List (Addr×Obj):=fp.filterMap fun b=>(h.get? b).map fun o=>(b,o)
theorem zT {fp:List Addr}{h:Heap}{b:Addr}{o:Obj}(hb:b∈fp)(e:h.get? b=some o):(b,o)∈xP fp h:=List.mem_filterMap.mpr ⟨b,hb,by rw [e];rfl⟩
theorem zgI {fp:List Addr}{h:Heap}{p:Addr×Obj}(hp:p∈xP fp h):p.1∈fp/\h.get? p.1=some p.2:=by
 obtain ⟨b,hb,e⟩:=List.mem_filterMap.mp hp
 cases q:h.get? b with
 | none=>rw [q] at e;cases e
 | some o=>
  rw [q] at e
  have e':(b,o)=p:=Option.some.inj e
  subst e'
  exact ⟨hb,q⟩
theorem Inv.pinned {pins:List (Addr×Obj)}{σ:St}{H:Hp}{s:Shared}{fp:List Addr}(I:Inv X pins σ H s)(hf:∀ b∈fp,zdg X pins H b)(ho:∀ b∈fp,∃ o,s.heap.get? b=some o/\∀ v,o.data≠.cell v):Inv X (pins++xP fp s.heap) σ H s:=
 I.pins_of fun p hp=>(List.mem_append.mp hp).elim (fun z=>I.pin p (List.mem_append_right _ z)) fun z=>by
  obtain ⟨hb,e⟩:=zgI z
  obtain ⟨f0,f1,f2,_⟩:=hf p.1 hb
  obtain ⟨o,e',d⟩:=ho p.1 hb
  rw [e] at e';cases e'
  exact ⟨e,f0,f1,f2,d⟩
theorem Inv.unpinned {pins pl:List (Addr×Obj)}{σ:St}{H:Hp}{s:Shared}(I:Inv X (pins++pl) σ H s):Inv X pins σ H s:=I.pins_of fun p hp=>I.pin p (List.mem_append_right _ (List.mem_append_left _ hp))
theorem zmV {iter:Expr}{body:List Stmt}{wi:TI}{g:TG}{tb:TS}{pos:Pos}(hp:PassesOwn (model X.prog X.w) X.A X.env X.xe)(hc:X.calm=true)(hi:PI X tg iter wi)(hg:PG X tg g)(hb:PSs X body tb)
  (hs:∀ x,foldedSetIterable iter X.env x=pure x:=by intro _;rfl):PS X (.For tg iter body [] pos) (zps wi g tb):=by
 intro pins s σ H D I h
 refine wpAny_For (thn (hi pins s σ H _ I h) fun v s1 h1=>thn h1 fun itv s2 h2=>?_) hs
 obtain ⟨it,fp,tn,J,H2,e,I2,T,st2,f2,W,⟨m0,w0⟩,turn⟩:=h2
 subst e
 have stat:∀ {H':Hp},(∀ b∈fp,H' b=none)->∀ b∈fp,zdg X pins H' b:=fun hn b hb=>⟨hn b hb,(f2 b hb).2⟩
 refine codeAny_forLoop_any (fun n s'=>∃ i σ' H',Inv X pins σ' H' s'/\tn i s'.heap/\(∀ b∈fp,H' b=none)/\W i n σ' H') ?_ m0 ⟨0,σ,H2,I2,st2,fun b hb=>(f2 b hb).1,w0⟩
 rintro n s3 ⟨i,σ3,H3,I3,st3,fr3,w3⟩
 rcases turn i n σ3 H3 w3 with ⟨stop,qn⟩ | ⟨go,N,hN,step⟩
 ·refine wpAny_passesOwn hp (thn (T.done X rfl rfl rfl hc i pins s3 σ3 H3 X.xe I3 (stat fr3) st3 stop) fun r s4 ⟨hr,I4⟩=>?_)
  subst hr
  exact wpAny_execs_nil ⟨σ3,H3,I4,qn⟩
 ·refine wpAny_passesOwn hp (thn (T.item X rfl rfl rfl hc i pins s3 σ3 H3 X.xe I3 (stat fr3) st3 go) fun r s4 ⟨u,hr,h4⟩=>?_)
  subst hr
  refine wpAny_passesOwn hp (thn h4 fun _ s5 ⟨x,H5,I5,r5,y5,st5,fr5⟩=>?_)
  have I5':=I5.pinned (stat fr5) (T.obj _ _ st5)
  refine wpAny_passesOwn hp (thn (hg _ s5 σ3 H5 x u _ I5' r5 (step x H5 y5)) fun _ s6 ⟨σ6,H6,I6,q6⟩=>?_)
  refine wpAny_passesOwn hp (thn (hb _ s6 σ6 H6 _ I6 q6) fun f s7 q7=>?_)
  have again:∀ {σ7:St} {H7:Hp},Inv X (pins++xP fp s5.heap) σ7 H7 s7->N σ7 H7->∃ m,m<n/\∃ i σ' H',Inv X pins σ' H' s7/\tn i s7.heap/\(∀ b∈fp,H' b=none)/\W i m σ' H':=fun {σ7 H7} I7 n7=>by
   obtain ⟨m',hm,w7⟩:=hN σ7 H7 n7
   refine ⟨m',hm,i+1,σ7,H7,I7.unpinned,T.keep _ _ _ st5 fun b hb o e=>(I7.pin (b,o) (List.mem_append_right _ (List.mem_append_right _ (zT hb e)))).1,fun b hb=>?_,w7⟩
   obtain ⟨o,e,d⟩:=T.obj _ _ st5 b hb
   exact (I7.pin (b,o) (List.mem_append_right _ (List.mem_append_right _ (zT hb e)))).2.1
  cases f with
  | next=>obtain ⟨σ7,H7,I7,n7⟩:=q7;exact again I7 n7
  | cont=>obtain ⟨σ7,H7,I7,n7⟩:=q7;exact again I7 n7
  | brk=>obtain ⟨σ7,H7,I7,q7⟩:=q7;exact ⟨σ7,H7,I7.unpinned,q7⟩
  | ret v=>obtain ⟨x7,σ7,H7,I7,r7,q7⟩:=q7;exact ⟨x7,σ7,H7,I7.unpinned,r7,q7⟩
end
theorem zh9 {K:PySem.W.Frag}{a:Addr}{xs:List V}{g:TG}{tb:TS}{D:Ends}{σ:St}{H:Hp}(Pv:Nat->St->Hp->Prop)(h0:Pv 0 σ H)(hl:∀ i σ H,i<=xs.length->Pv i σ H->SqL K H a xs)
  (hs:∀ i x σ H,xs[i]?=some x->Pv i σ H->g x σ H fun σ2 H2=>tb { D with nx:=Pv (i+1),ct:=Pv (i+1),bk:=D.nx } σ2 H2) (hd:∀ σ H,Pv xs.length σ H->D.nx σ H) :
  ∃ W:Nat->Nat->St->Hp->Prop,(∃ m,W 0 m σ H)/\∀ i m σ H,W i m σ H->
   ((Itl K a).stop i H/\D.nx σ H)\/((Itl K a).go i H/\∃ N:St->Hp->Prop,(∀ σ' H',N σ' H'->∃ m',m'<m/\W (i+1) m' σ' H')/\∀ x H',(Itl K a).yld i H x H'->g x σ H' fun σ2 H2=>tb { D with nx:=N,ct:=N,bk:=D.nx } σ2 H2):=by
 refine ⟨fun i m σ H=>m=xs.length - i/\i<=xs.length/\Pv i σ H,⟨xs.length,by simp,Nat.zero_le _,h0⟩,?_⟩
 rintro i m σ H ⟨rfl,hi,p⟩
 have q:=hl i σ H hi p
 by_cases hlt:i<xs.length
 ·refine .inr ⟨⟨xs,xs[i],q,by simp [hlt]⟩,Pv (i+1),fun σ' H' p'=>⟨xs.length - (i+1),by lia,rfl,hlt,p'⟩,fun x H' y=>?_⟩
  obtain ⟨e,y⟩:=y
  subst e
  exact hs i x σ _ (y xs q) p
 ·have e:i=xs.length:=by lia
  subst e
  exact .inl ⟨⟨xs,q,Nat.le_refl _⟩,hd σ H p⟩
theorem zjX {K:PySem.W.Frag}{a:Addr}{xs:List V}{g:TG}{tb:TS}{D:Ends}{σ:St}{H:Hp}(Pv:Nat->St->Hp->Prop)(h0:Pv 0 σ H)(hl:∀ i σ H,i<=xs.length->Pv i σ H->SqT K H a xs)
  (hs:∀ i x σ H,xs[i]?=some x->Pv i σ H->g x σ H fun σ2 H2=>tb { D with nx:=Pv (i+1),ct:=Pv (i+1),bk:=D.nx } σ2 H2) (hd:∀ σ H,Pv xs.length σ H->D.nx σ H) :
  ∃ W:Nat->Nat->St->Hp->Prop,(∃ m,W 0 m σ H)/\∀ i m σ H,W i m σ H->
   ((Itt K a).stop i H/\D.nx σ H)\/((Itt K a).go i H/\∃ N:St->Hp->Prop,(∀ σ' H',N σ' H'->∃ m',m'<m/\W (i+1) m' σ' H')/\∀ x H',(Itt K a).yld i H x H'->g x σ H' fun σ2 H2=>tb { D with nx:=N,ct:=N,bk:=D.nx } σ2 H2):=by
 refine ⟨fun i m σ H=>m=xs.length - i/\i<=xs.length/\Pv i σ H,⟨xs.length,by simp,Nat.zero_le _,h0⟩,?_⟩
 rintro i m σ H ⟨rfl,hi,p⟩
 have q:=hl i σ H hi p
 by_cases hlt:i<xs.length
 ·refine .inr ⟨⟨xs,xs[i],q,by simp [hlt]⟩,Pv (i+1),fun σ' H' p'=>⟨xs.length - (i+1),by lia,rfl,hlt,p'⟩,fun x H' y=>?_⟩
  obtain ⟨e,y⟩:=y
  subst e
  exact hs i x σ _ (y xs q) p
 ·have e:i=xs.length:=by lia
  subst e
  exact .inl ⟨⟨xs,q,Nat.le_refl _⟩,hd σ H p⟩
theorem zge {lo:Int}{n:Nat}{g:TG}{tb:TS}{D:Ends}{σ:St}{H:Hp}(Pv:Nat->St->Hp->Prop)(h0:Pv 0 σ H)
  (hs:∀ i σ H,i<n->Pv i σ H->g (.int (lo+i)) σ H fun σ2 H2=>tb { D with nx:=Pv (i+1),ct:=Pv (i+1),bk:=D.nx } σ2 H2) (hd:∀ σ H,Pv n σ H->D.nx σ H) :
  ∃ W:Nat->Nat->St->Hp->Prop,(∃ m,W 0 m σ H)/\∀ i m σ H,W i m σ H->
   ((Itr lo n).stop i H/\D.nx σ H)\/((Itr lo n).go i H/\∃ N:St->Hp->Prop,(∀ σ' H',N σ' H'->∃ m',m'<m/\W (i+1) m' σ' H')/\∀ x H',(Itr lo n).yld i H x H'->g x σ H' fun σ2 H2=>tb { D with nx:=N,ct:=N,bk:=D.nx } σ2 H2):=by
 refine ⟨fun i m σ H=>m=n - i/\i<=n/\Pv i σ H,⟨n,by simp,Nat.zero_le _,h0⟩,?_⟩
 rintro i m σ H ⟨rfl,hi,p⟩
 by_cases hlt:i<n
 ·refine .inr ⟨hlt,Pv (i+1),fun σ' H' p'=>⟨n - (i+1),by lia,rfl,hlt,p'⟩,fun x H' y=>?_⟩
  obtain ⟨e,y⟩:=y
  subst e y
  exact hs i σ _ hlt p
 ·have e:i=n:=by lia
  subst e
  exact .inl ⟨Nat.le_refl _,hd σ H p⟩
abbrev R2:=V->V->Hp->VK->Prop
def OpR (X:Cx)(f:Value->Value->Sem Value)(r:R2):Prop:=
 ∀ (pins:List (Addr×Obj)) (s:Shared) (σ:St) (H:Hp) (x y:V) (v u:Value) (Q:VK),Inv X pins σ H s->zX x v->zX y u->r x y H Q->
  wpAny (model X.prog X.w) X.A (f v u) (EP X pins σ Q) X.xe s
def UnR (X:Cx)(f:Value->Sem Value)(r:V->Hp->VK->Prop):Prop:=
 ∀ (pins:List (Addr×Obj)) (s:Shared) (σ:St) (H:Hp) (x:V) (v:Value) (Q:VK),Inv X pins σ H s->zX x v->r x H Q->
  wpAny (model X.prog X.w) X.A (f v) (EP X pins σ Q) X.xe s
def zbF (X:Cx)(f:Value)(r:List V->Hp->VK->Prop):Prop:=
 ∀ (pins:List (Addr×Obj)) (s:Shared) (σ:St) (H:Hp) (xs:List V) (us:List Value) (Q:VK),Inv X pins σ H s->zY xs us->r xs H Q->
  wpAny (model X.prog X.w) X.A (call f us) (EP X pins σ Q) X.xe s
def tOp (r:R2)(ta tb:TE):TE:=fun σ H Q=>ta σ H fun x H1=>tb σ H1 fun y H2=>r x y H2 Q
def tUn (r:V->Hp->VK->Prop)(ta:TE):TE:=fun σ H Q=>ta σ H fun x H1=>r x H1 Q
def rI (C:Int->Int->Prop)(g:Int->Int->V):R2:=fun x y H Q=>∃ i j,x = .int i/\y = .int j/\C i j/\Q (g i j) H
def rI0 (g:Int->Int->V):R2:=fun x y H Q=>∃ i j,x = .int i/\y = .int j/\Q (g i j) H
def rU (g:Int->V):V->Hp->VK->Prop:=fun x H Q=>∃ i,x = .int i/\Q (g i) H
section
variable {X:Cx}{a b c:Expr}{ta tb tc:TE}{pos:Pos}
theorem zod (ha:PE X a ta)(hb:PE X b tb){pins:List (Addr×Obj)}{s:Shared}{σ:St}{H:Hp}{R:V->V->Hp->Prop}(I:Inv X pins σ H s)
  (h:ta σ H fun x H1=>tb σ H1 fun y H2=>R x y H2) {Q:Value->Shared->Prop} {f:Value->Value->Sem Value}
  (hf:∀ v u s2 x y H2,Inv X pins σ H2 s2->zX x v->zX y u->R x y H2->wpAny (model X.prog X.w) X.A (f v u) Q X.xe s2) :
  wpAny (model X.prog X.w) X.A (eval a X.env) (fun v s₁=>wpAny (model X.prog X.w) X.A (eval b X.env) (fun u s₂=>wpAny (model X.prog X.w) X.A (f v u) Q X.xe s₂) X.xe s₁) X.xe s:=by
 refine thn (ha pins s σ H _ I h) fun v s1 ⟨x,H1,I1,r1,q1⟩=>?_
 refine thn (hb pins s1 σ H1 _ I1 q1) fun u s2 ⟨y,H2,I2,r2,q2⟩=>?_
 exact hf v u s2 x y H2 I2 r1 r2 q2
theorem zpb {op:Operator}{r:R2}(ho:OpR X (binaryOp op) r)(ha:PE X a ta)(hb:PE X b tb):PE X (.BinOp a op b pos) (tOp r ta tb):=by
 intro pins s σ H Q I h
 exact wpAny_BinOp (zod ha hb I h fun v u s2 x y H2 I2 rx ry q=>ho pins s2 σ H2 x y v u Q I2 rx ry q)
theorem zpc {op:UnaryOp}{r:V->Hp->VK->Prop}(ho:UnR X (unaryOp op) r)(ha:PE X a ta):PE X (.UnaryOp op a pos) (tUn r ta):=by
 intro pins s σ H Q I h
 exact UnaryOp_ (thn (ha pins s σ H _ I h) fun v s1 ⟨x,H1,I1,r1,q1⟩=>ho pins s1 σ H1 x v Q I1 r1 q1)
theorem opI {f:Value->Value->Sem Value}{C:Int->Int->Prop}{g:Int->Int->Int}
  (rule:∀ (i j:Int) (t u:Tok) (s:Shared) (Q:Value->Shared->Prop) (E:Value->Shared->Prop),C i j->Q (.int (g i j) s.toks) { s with toks:=s.toks+1 }->wpAny (model X.prog X.w) X.A (f (.int i t) (.int j u)) Q E s) :
  OpR X f (rI C fun i j=>.int (g i j)):=by
 intro pins s σ H x y v u Q I rx ry h
 obtain ⟨i,j,rfl,rfl,hc,q⟩:=h
 obtain ⟨t,rfl⟩:=rx
 obtain ⟨t',rfl⟩:=ry
 exact rule i j t t' s _ _ hc ⟨.int (g i j),H,I.tok _,⟨_,rfl⟩,q⟩
theorem opI0 {f:Value->Value->Sem Value}{g:Int->Int->Int}
  (rule:∀ (i j:Int) (t u:Tok) (s:Shared) (Q:Value->Shared->Prop) (E:Value->Shared->Prop),Q (.int (g i j) s.toks) { s with toks:=s.toks+1 }->wpAny (model X.prog X.w) X.A (f (.int i t) (.int j u)) Q E s) :
  OpR X f (rI0 fun i j=>.int (g i j)):=by
 intro pins s σ H x y v u Q I rx ry h
 obtain ⟨i,j,rfl,rfl,q⟩:=h
 obtain ⟨t,rfl⟩:=rx
 obtain ⟨t',rfl⟩:=ry
 exact rule i j t t' s _ _ ⟨.int (g i j),H,I.tok _,⟨_,rfl⟩,q⟩
theorem zn1 {f:Value->Value->Sem Value}{g:Int->Int->Bool}
  (rule:∀ (i j:Int) (t u:Tok) (s:Shared) (Q:Value->Shared->Prop) (E:Value->Shared->Prop),Q (.bool (g i j)) s->wpAny (model X.prog X.w) X.A (f (.int i t) (.int j u)) Q E s) :
  OpR X f (rI0 fun i j=>.bl (g i j)):=by
 intro pins s σ H x y v u Q I rx ry h
 obtain ⟨i,j,rfl,rfl,q⟩:=h
 obtain ⟨t,rfl⟩:=rx
 obtain ⟨t',rfl⟩:=ry
 exact rule i j t t' s _ _ ⟨.bl (g i j),H,I,rfl,q⟩
def CDiv (i j:Int):Prop:=0<j/\j<1073741824
def CPow (i j:Int):Prop:=0<=j/\j<=1000000/\i.natAbs<2 ^ 64
def zi5 (i j:Int):Prop:=(-(2 ^ 64)<i/\i<2 ^ 64)\/(-(2 ^ 64)<j/\j<2 ^ 64)
theorem zi5.ok {i j:Int}(h:zi5 i j):IntMulOk i j:=by
 rcases h with ⟨h1,h2⟩ | ⟨h1,h2⟩
 ·exact .of_left (intBits_le_64 h1 h2)
 ·exact .of_right (intBits_le_64 h1 h2)
theorem zmr:OpR X (binaryOp .Add) (rI0 fun i j=>.int (i+j)):=opI0 fun _ _ _ _ _ _ _ q=>add_int q
theorem zmy:OpR X (binaryOp .Sub) (rI0 fun i j=>.int (i - j)):=opI0 fun _ _ _ _ _ _ _ q=>sub_int q
theorem zmv:OpR X (binaryOp .Mult) (rI zi5 fun i j=>.int (i * j)):=opI fun _ _ _ _ _ _ _ hc q=>mul_int q hc.ok
theorem zkw:OpR X (binaryOp .FloorDiv) (rI CDiv fun i j=>.int (i / j)):=opI fun i j _ _ _ _ _ hc q=>by
 have h1:(0:Int)<j:=hc.1
 have h2:j<1073741824:=hc.2
 exact floordiv_int (by lia) (by rw [Int.fdiv_eq_ediv_of_nonneg i (by lia)];exact q) (.inl (PyProof.noPylong_small (by lia)))
theorem zmu:OpR X (binaryOp .Mod) (rI (fun _ j=>0<j) fun i j=>.int (i % j)):=opI fun i j _ _ _ _ _ hc q=>by
 have h1:(0:Int)<j:=hc
 exact mod_int' (by lia) (by rw [Int.fmod_eq_emod_of_nonneg i (by lia)];exact q)
theorem zmx:OpR X (binaryOp .Pow) (rI CPow fun i j=>.int (i ^ j.toNat)):=opI fun _ _ _ _ _ _ _ hc q=>pow_int_small hc.1 hc.2.1 hc.2.2 q
theorem unI {f:Value->Sem Value}{g:Int->Int}
  (rule:∀ (i:Int) (t:Tok) (s:Shared) (Q:Value->Shared->Prop) (E:Value->Shared->Prop),Q (.int (g i) s.toks) { s with toks:=s.toks+1 }->wpAny (model X.prog X.w) X.A (f (.int i t)) Q E s) :
  UnR X f (rU fun i=>.int (g i)):=by
 intro pins s σ H x v Q I rx h
 obtain ⟨i,rfl,q⟩:=h
 obtain ⟨t,rfl⟩:=rx
 exact rule i t s _ _ ⟨.int (g i),H,I.tok _,⟨_,rfl⟩,q⟩
theorem znM:UnR X (unaryOp .USub) (rU fun i=>.int (-i)):=unI fun _ _ _ _ _ q=>neg_int q
end
def zn6:V->V->Bool
 | .non,.non=>true | .non,.int _=>true | .int _,.non=>true | .non,.bl _=>true | .bl _,.non=>true | .non,.str _=>true | .str _,.non=>true
 | .int _,.int _=>true | .bl _,.bl _=>true | .str _,.str _=>true | .byt _,.byt _=>true
 | .int _,.str _=>true | .str _,.int _=>true | .bl _,.str _=>true | .str _,.bl _=>true
 | _,_=>false
def rEq:R2:=fun x y H Q=>zn6 x y=true/\Q (.bl (decide (x=y))) H
def rNe:R2:=fun x y H Q=>zn6 x y=true/\Q (.bl (!decide (x=y))) H
theorem zfZ {i j:Int}:decide (V.int i=V.int j)=(i==j):=by
 rw [Bool.eq_iff_iff]
 simp
theorem zjh {i j:Bool}:decide (V.bl i=V.bl j)=(i==j):=by
 rw [Bool.eq_iff_iff]
 simp
theorem zf0 {i j:Str}:decide (V.str i=V.str j)=(i==j):=by
 rw [Bool.eq_iff_iff]
 simp
theorem zfY {i j:Array UInt8}:decide (V.byt i=V.byt j)=(i.toList==j.toList):=by
 rw [Bool.eq_iff_iff]
 cases i
 cases j
 simp
section
variable {X:Cx}{a b c:Expr}{ta tb tc:TE}{pos:Pos}
theorem zI {pins:List (Addr×Obj)}{σ:St}{H:Hp}{s:Shared}{Q:VK}{k k':Bool}(I:Inv X pins σ H s)(q:Q (.bl k) H)(e:k=k'):EP X pins σ Q (.bool k') s:=by
 subst e
 exact ⟨.bl k,H,I,rfl,q⟩
theorem zoY:OpR X (compareOp .Eq) rEq:=by
 intro pins s σ H x y v u Q I rx ry h
 obtain ⟨hs,q⟩:=h
 cases x with
 | non=>
  cases rx
  cases y with
  | non=>cases ry;exact PySem.EqNone.eq_none_none (zI I q (by simp))
  | bl j=>cases ry;exact PySem.EqNone.eq_none_bool (zI I q (by simp))
  | int j=>obtain ⟨t',rfl⟩:=ry;exact PySem.EqNone.eq_none_int (zI I q (by simp))
  | str j=>obtain ⟨t',rfl⟩:=ry;exact PySem.EqNone.eq_none_str (zI I q (by simp))
  | _=>exact absurd (show false=true from hs) Bool.false_ne_true
 | bl i=>
  cases rx
  cases y with
  | non=>cases ry;exact PySem.EqNone.eq_bool_none (zI I q (by simp))
  | bl j=>cases ry;exact eq_bool (zI I q zjh)
  | str j=>obtain ⟨t',rfl⟩:=ry;exact PySem.EqMixed.eq_bool_str (zI I q (by simp))
  | _=>exact absurd (show false=true from hs) Bool.false_ne_true
 | int i=>
  obtain ⟨t,rfl⟩:=rx
  cases y with
  | non=>cases ry;exact PySem.EqNone.eq_int_none (zI I q (by simp))
  | int j=>obtain ⟨t',rfl⟩:=ry;exact eq_int (zI I q zfZ)
  | str j=>obtain ⟨t',rfl⟩:=ry;exact PySem.EqMixed.eq_int_str (zI I q (by simp))
  | _=>exact absurd (show false=true from hs) Bool.false_ne_true
 | str i=>
  obtain ⟨t,rfl⟩:=rx
  cases y with
  | non=>cases ry;exact PySem.EqNone.eq_str_none (zI I q (by simp))
  | bl j=>cases ry;exact PySem.EqMixed.eq_str_bool (zI I q (by simp))
  | int j=>obtain ⟨t',rfl⟩:=ry;exact PySem.EqMixed.eq_str_int (zI I q (by simp))
  | str j=>obtain ⟨t',rfl⟩:=ry;exact eq_str (zI I q zf0)
  | _=>exact absurd (show false=true from hs) Bool.false_ne_true
 | byt i=>
  obtain ⟨t,rfl⟩:=rx
  cases y with
  | byt j=>obtain ⟨t',rfl⟩:=ry;exact PySem.W.eq_bytes (zI I q zfY)
  | _=>exact absurd (show false=true from hs) Bool.false_ne_true
 | _=>cases y <;> exact absurd (show false=true from hs) Bool.false_ne_true
theorem zo3:OpR X (compareOp .NotEq) rNe:=by
 intro pins s σ H x y v u Q I rx ry h
 obtain ⟨hs,q⟩:=h
 cases x with
 | non=>
  cases rx
  cases y with
  | non=>cases ry;exact PySem.EqNone.ne_none_none (zI I q (by simp))
  | bl j=>cases ry;exact PySem.EqNone.ne_none_bool (zI I q (by simp))
  | int j=>obtain ⟨t',rfl⟩:=ry;exact PySem.EqNone.ne_none_int (zI I q (by simp))
  | str j=>obtain ⟨t',rfl⟩:=ry;exact PySem.EqNone.ne_none_str (zI I q (by simp))
  | _=>exact absurd (show false=true from hs) Bool.false_ne_true
 | bl i=>
  cases rx
  cases y with
  | non=>cases ry;exact PySem.EqNone.ne_bool_none (zI I q (by simp))
  | bl j=>cases ry;exact ne_bool (zI I q (congrArg not zjh))
  | str j=>obtain ⟨t',rfl⟩:=ry;exact PySem.EqMixed.ne_bool_str (zI I q (by simp))
  | _=>exact absurd (show false=true from hs) Bool.false_ne_true
 | int i=>
  obtain ⟨t,rfl⟩:=rx
  cases y with
  | non=>cases ry;exact PySem.EqNone.ne_int_none (zI I q (by simp))
  | int j=>obtain ⟨t',rfl⟩:=ry;exact ne_int (zI I q (congrArg not zfZ))
  | str j=>obtain ⟨t',rfl⟩:=ry;exact PySem.EqMixed.ne_int_str (zI I q (by simp))
  | _=>exact absurd (show false=true from hs) Bool.false_ne_true
 | str i=>
  obtain ⟨t,rfl⟩:=rx
  cases y with
  | non=>cases ry;exact PySem.EqNone.ne_str_none (zI I q (by simp))
  | bl j=>cases ry;exact PySem.EqMixed.ne_str_bool (zI I q (by simp))
  | int j=>obtain ⟨t',rfl⟩:=ry;exact PySem.EqMixed.ne_str_int (zI I q (by simp))
  | str j=>obtain ⟨t',rfl⟩:=ry;exact ne_str (zI I q (congrArg not zf0))
  | _=>exact absurd (show false=true from hs) Bool.false_ne_true
 | byt i=>
  obtain ⟨t,rfl⟩:=rx
  cases y with
  | byt j=>obtain ⟨t',rfl⟩:=ry;exact PySem.W.ne_bytes (zI I q (congrArg not zfY))
  | _=>exact absurd (show false=true from hs) Bool.false_ne_true
 | _=>cases y <;> exact absurd (show false=true from hs) Bool.false_ne_true
theorem zo2:OpR X (compareOp .Lt) (rI0 fun i j=>.bl (decide (i<j))):=zn1 fun _ _ _ _ _ _ _ q=>lt_int q
theorem zo1:OpR X (compareOp .LtE) (rI0 fun i j=>.bl (decide (i<=j))):=zn1 fun _ _ _ _ _ _ _ q=>le_int q
theorem zo0:OpR X (compareOp .Gt) (rI0 fun i j=>.bl (decide (j<i))):=zn1 fun _ _ _ _ _ _ _ q=>gt_int q
theorem zoZ:OpR X (compareOp .GtE) (rI0 fun i j=>.bl (decide (j<=i))):=zn1 fun _ _ _ _ _ _ _ q=>ge_int q
theorem zD (b:Expr){op:CmpOp}(h:op≠.In:=by decide)(h2:op≠.NotIn:=by decide):behindInMarks op b=false:=by
 have e1:(op==CmpOp.In)=false:=by cases op <;> first | rfl | exact absurd rfl h
 have e2:(op==CmpOp.NotIn)=false:=by cases op <;> first | rfl | exact absurd rfl h2
 cases b <;> simp [behindInMarks,e1,e2]
theorem zkC {op:CmpOp}{r:R2}(ho:OpR X (compareOp op) r)(ha:PE X a ta)(hb:PE X b tb)(hm:behindInMarks op b=false):PE X (.Compare a [op] [b] pos) (tOp r ta tb):=by
 intro pins s σ H Q I h
 exact wpAny_Compare1 (zod ha hb I h fun v u s2 x y H2 I2 rx ry q=>ho pins s2 σ H2 x y v u Q I2 rx ry q) hm
def zhn (t:TE):TT:=fun σ H Q=>t σ H fun x H'=>∃ k,x = .bl k/\Q k H'
theorem zkW {op:CmpOp}{r:R2}(ho:OpR X (compareOp op) r)(ha:PE X a ta)(hb:PE X b tb)(hm:behindInMarks op b=false):PT X (.Compare a [op] [b] pos) (zhn (tOp r ta tb)):=by
 intro pins s σ H Q I h
 refine wpAny_isTrue_Compare1 (thn (ha pins s σ H _ I h) fun v s1 ⟨x,H1,I1,r1,q1⟩=>thn (hb pins s1 σ H1 _ I1 q1) fun u s2 ⟨y,H2,I2,r2,q2⟩=>
  thn (ho pins s2 σ H2 x y v u _ I2 r1 r2 q2) fun c s3 ⟨z,H3,I3,r3,k,e,q3⟩=>?_) hm
 subst e
 cases r3
 exact wpAny_truthy_bool ⟨H3,I3,q3⟩
def zc8 (r r':R2)(ta tb tc:TE):TE:=fun σ H Q=>ta σ H fun x H1=>tb σ H1 fun y H2=>r x y H2 fun z H3=>∃ k,z = .bl k/\
 (if k=true then tc σ H3 fun w' H4=>r' y w' H4 Q else Q (.bl false) H3)
theorem zix {op op':CmpOp}{r r':R2}(ho:OpR X (compareOp op) r)(ho':OpR X (compareOp op') r')(ha:PE X a ta)(hb:PE X b tb)(hc:PE X c tc)
  (hm:lastMarks [op,op'] [b,c]=false:=by with_unfolding_all rfl):PE X (.Compare a [op,op'] [b,c] pos) (zc8 r r' ta tb tc):=by
 intro pins s σ H Q I h
 refine Compare_chain (thn (ha pins s σ H _ I h) fun v s1 ⟨x,H1,I1,r1,q1⟩=>chain_link (thn (hb pins s1 σ H1 _ I1 q1) fun u s2 ⟨y,H2,I2,r2,q2⟩=>
  thn (ho pins s2 σ H2 x y v u _ I2 r1 r2 q2) fun d s3 ⟨z,H3,I3,r3,k,e,q3⟩=>?_)) hm
 subst e
 cases r3
 refine wpAny_truthy_bool ?_
 cases k with
 | false=>exact ite_ff ⟨.bl false,H3,I3,rfl,q3⟩
 | true=>exact ite_tt (chain_last (thn (hc pins s3 σ H3 _ I3 q3) fun w' s4 ⟨z',H4,I4,r4,q4⟩=>ho' pins s4 σ H4 y z' u w' Q I4 r2 r4 q4))
theorem ziH {op op':CmpOp}{r r':R2}(ho:OpR X (compareOp op) r)(ho':OpR X (compareOp op') r')(ha:PE X a ta)(hb:PE X b tb)(hc:PE X c tc)
  (hm:lastMarks [op,op'] [b,c]=false:=by with_unfolding_all rfl):PT X (.Compare a [op,op'] [b,c] pos) (zhn (zc8 r r' ta tb tc)):=by
 intro pins s σ H Q I h
 refine isTrue_chain (thn (ha pins s σ H _ I h) fun v s1 ⟨x,H1,I1,r1,q1⟩=>test_link (thn (hb pins s1 σ H1 _ I1 q1) fun u s2 ⟨y,H2,I2,r2,q2⟩=>
  thn (ho pins s2 σ H2 x y v u _ I2 r1 r2 q2) fun d s3 ⟨z,H3,I3,r3,k,e,q3⟩=>?_)) hm
 subst e
 cases r3
 refine wpAny_truthy_bool ?_
 cases k with
 | false=>
  obtain ⟨k',e',q'⟩:=q3
  cases e'
  exact ite_ff ⟨H3,I3,q'⟩
 | true=>
  refine ite_tt (test_last (thn (hc pins s3 σ H3 _ I3 q3) fun w' s4 ⟨z',H4,I4,r4,q4⟩=>thn (ho' pins s4 σ H4 y z' u w' _ I4 r2 r4 q4) fun d' s5 ⟨z2,H5,I5,r5,k2,e2,q5⟩=>?_))
  subst e2
  cases r5
  exact wpAny_truthy_bool ⟨H5,I5,q5⟩
theorem zgC:(sizeLine:Nat)<2 ^ 63:=by rw [sizeLine_eq];decide
theorem zcm {x:V}{us:List Value}(r:zY [x] us):∃ u,us=[u]/\zX x u:=by
 cases r with
 | cons r1 r2=>cases r2;exact ⟨_,rfl,r1⟩
theorem znT {x y:V}{us:List Value}(r:zY [x,y] us):∃ u w',us=[u,w']/\zX x u/\zX y w':=by
 cases r with
 | cons r1 r2=>
  cases r2 with
  | cons r3 r4=>cases r4;exact ⟨_,_,rfl,r1,r3⟩
theorem zhU:zbF X (.builtin "abs") (fun xs H Q=>∃ i,xs=[.int i]/\Q (.int (if i<0 then -i else i)) H):=by
 intro pins s σ H xs us Q I r h
 obtain ⟨i,rfl,q⟩:=h
 obtain ⟨u,rfl,t,rfl⟩:=zcm r
 exact call_abs_int fun u tk=>⟨.int (if i<0 then -i else i),H,I.tok _,⟨_,rfl⟩,q⟩
theorem zfG (hc:X.calm=true):zbF X (.builtin "min") (fun xs H Q=>∃ i j,xs=[.int i,.int j]/\Q (.int (if j<i then j else i)) H):=by
 intro pins s σ H xs us Q I r h
 obtain ⟨i,j,rfl,q⟩:=h
 obtain ⟨u,w',rfl,⟨t,rfl⟩,⟨t',rfl⟩⟩:=znT r
 refine min_two_ints (I.ok.hd hc) fun h' tk k=>⟨_,H,I.kept k,?_,q⟩
 by_cases hj:j<i
 ·rw [if_pos hj,if_pos hj];exact ⟨_,rfl⟩
 ·rw [if_neg hj,if_neg hj];exact ⟨_,rfl⟩
def znV (K:PySem.W.Frag)(x:V)(H:Hp)(n:Nat):Prop:=
 match x with
 | .str y=>y.length<=sizeLine/\n=y.length
 | .byt y=>y.size<=sizeLine/\n=y.size
 | .ref p=>(∃ xs,SqL K H p xs/\n=xs.length)\/∃ xs,SqT K H p xs/\n=xs.length
 | _=>False
theorem zhV:zbF X (.builtin "len") (fun xs H Q=>∃ x n,xs=[x]/\znV X.K x H n/\Q (.int n) H):=by
 intro pins s σ H xs us Q I r h
 obtain ⟨x,n,rfl,e,q⟩:=h
 obtain ⟨u,rfl,rx⟩:=zcm r
 have hl:=zgC
 have hs:sizeLine=16777216:=sizeLine_eq
 cases x with
 | str y=>
  obtain ⟨t,rfl⟩:=rx
  obtain ⟨hy,e'⟩:y.length<=sizeLine/\n=y.length:=e
  subst e'
  exact len_str (by lia) ⟨.int _,H,I.tok _,⟨_,rfl⟩,q⟩
 | byt y=>
  obtain ⟨t,rfl⟩:=rx
  obtain ⟨hy,e'⟩:y.size<=sizeLine/\n=y.size:=e
  subst e'
  exact PySem.W.len_bytes (by lia) ⟨.int _,H,I.tok _,⟨_,rfl⟩,q⟩
 | ref p=>
  cases rx
  have e':(∃ xs,SqL X.K H p xs/\n=xs.length)\/∃ xs,SqT X.K H p xs/\n=xs.length:=e
  rcases e' with ⟨xs,hx,e'⟩ | ⟨xs,hx,e'⟩
  ·subst e'
   obtain ⟨its,r',pl,hz⟩:=I.list hx
   have hlen:=r'.length
   exact Calls.call_len_list pl.isList (by simp only [List.size_toArray];lia) ⟨.int xs.length,H,I.tok _,⟨_,by simp only [List.size_toArray];rw [hlen]⟩,q⟩
  ·subst e'
   obtain ⟨its,r',pl,hz⟩:=I.tuple hx
   have hlen:=r'.length
   exact len_tuple pl (by simp only [List.size_toArray];lia) ⟨.int xs.length,H,I.tok _,⟨_,by simp only [List.size_toArray];rw [hlen]⟩,q⟩
 | _=>exact (show False from e).elim
end
structure ObjM (h:Heap)(x dx C:Addr)(mA:Str->Option Value):Prop where
 obj:h.get? x=some (PySem.W.instObj C dx)
 ns:h.Ns1 dx mA
 ne:dx≠x
theorem zgD {h:Heap}{dx:Addr}{mA:Str->Option Value}(n:h.Ns1 dx mA):∃ od,h.get? dx=some od/\∀ name,PySem.W.lookIn name od=some (mA name):=by
 obtain ⟨o,es,ep,ho,hd,hk,_,hm⟩:=n
 refine ⟨o,ho,fun name=>?_⟩
 have e:=hm name
 unfold nsFind findBy at e
 rw [<- Array.find?_toList] at e
 unfold PySem.W.lookIn
 rw [hd]
 dsimp only
 split
 ·rename_i y q
  rw [q] at e
  exact congrArg some e
 ·rename_i q
  rw [q] at e
  have a:es.toList.any (·.refKey)=false:=by
   rw [List.any_eq_false]
   intro y hy
   obtain ⟨z,t,hkey⟩:=hk y (Array.mem_toList_iff.mp hy)
   simp [DictEntry.refKey,hkey]
  have a':¬ es.toList.any (·.refKey)=true:=by rw [a];exact Bool.false_ne_true
  rw [if_neg a']
  exact congrArg some e
theorem ObjM.look {h:Heap}{x dx C:Addr}{mA:Str->Option Value}(I:ObjM h x dx C mA):∃ od,PySem.W.InstAt h x (PySem.W.instObj C dx) C (some od)/\∀ name,PySem.W.lookIn name od=some (mA name):=
 let ⟨od,ho,hl⟩:=zgD I.ns
 ⟨od,⟨I.obj,rfl,rfl,ho⟩,hl⟩
section
variable {prog:Program}{w:World}{A:Around}{E:Value->Shared->Prop}{s:Shared}{K:PySem.W.Frag}{x dx C f:Addr}{mA:Str->Option Value}{name:Str}{v:Value}
end
theorem zeS.some_of {v:V}{o:Option Value}(r:zeS (some v) o):∃ u,o=some u/\zX v u:=by
 cases o with
 | none=>exact (show False from r).elim
 | some u=>exact ⟨u,rfl,r⟩
section
variable {P:Program}{w:World}{H H':Hp}{h h':Heap}{a C dx:Addr}{fs fs':List (Str×V)}
theorem zj0 (hok:HOk P w H h)(e:H a=some (.ins C dx fs)):∃ mA,ObjM h a dx C mA/\(∀ f,zeS (fs.lookup f) (mA f))/\PySem.Within mA (fs.map (·.1))/\fs.length<=1000/\H dx=some (.own a):=by
 obtain ⟨d,z,ne,ob,mA,n,r,q⟩:=(show yp P w H h a (.ins C dx fs) from hok a _ e)
 exact ⟨mA,⟨ob,n,ne⟩,r,q,z,d⟩
end
structure Cls (K:PySem.W.Frag)(C:Addr):Prop where
 pg:PySem.W.plainGet K C Str.empty=true
 hd:PySem.W.hasDictIn K C=true
 po:PySem.W.plainOver K C=true
 sa:PySem.W.findIn K (.ref C) "__setattr__" = some (some (.builtin "object.__setattr__"))
theorem Cls.get {K:PySem.W.Frag}{C:Addr}(c:Cls K C)(f:Str):PySem.W.plainGet K C f=true:=c.pg
section
variable {X:Cx}{pins:List (Addr×Obj)}{σ:St}{H:Hp}{s:Shared}{a C dx:Addr}{fs:List (Str×V)}{f:Str}{v:V}{A:Around}{E:Value->Shared->Prop}
end
section
variable {X:Cx}{o e value:Expr}{f:Str}{pos pos' tpos:Pos}{ta tv:TE}
end
section
variable {X:Cx}{pins:List (Addr×Obj)}{σ:St}{H:Hp}{s:Shared}{A:Around}{E:Value->Shared->Prop}{Q:Value->Shared->Prop}{c:Value}{b:Bool}
inductive TyOf (K:PySem.W.Frag) (H:Hp):V->Value->Prop where
 | non:TyOf K H .non (.type "NoneType")
 | bl (x:Bool):TyOf K H (.bl x) (.type "bool")
 | int (i:Int):TyOf K H (.int i) (.type "int")
 | str (x:Str):TyOf K H (.str x) (.type "str")
 | flt (x:UInt64):TyOf K H (.flt x) (.type "float")
 | lst {a:Addr} {xs:List V} (e:H a=some (.lst xs)):TyOf K H (.ref a) (.type "list")
 | frz {a:Addr} {o:Obj} {xs:List V} (e:H a=some (.frz o (.lst xs))):TyOf K H (.ref a) (.type "list")
 | tup {a:Addr} {xs:List V} (e:H a=some (.tup xs)):TyOf K H (.ref a) (.type "tuple")
 | dK {a:Addr} {kvs:List (Key×V)} (e:H a=some (.dK kvs)):TyOf K H (.ref a) (.type "dict")
 | dT {a:Addr} {kvs:List (List Key×V)} (e:H a=some (.dT kvs)):TyOf K H (.ref a) (.type "dict")
 | ins {a C dx:Addr} {fs:List (Str×V)} (e:H a=some (.ins C dx fs)) (cl:Cls K C) (ha:PySem.W.findIn K (.ref C) "__class__" = some (some (.builtin "object.__class__")))
   (hn:PySem.W.specialIn K (.builtin "object.__class__") "__get__" = some (some (.builtin "getset_descriptor.__get__"))) (htk:PySem.W.takesIn K (.builtin "object.__class__")=some true)
   (hm:PySem.W.mroIn K C (.type "object")=some true):TyOf K H (.ref a) (.ref C)
theorem zgn {x:V}{u t:Value}(I:Inv X pins σ H s)(rx:zX x u)(ty:TyOf X.K H x t)(e:PySem.W.kitOne X.K t c=some b)(h:∀ tk,Q (.bool b) { s with toks:=tk }) :
  wpAny (model X.prog X.w) A (call (.builtin "isinstance") [u,c]) Q E s:=by
 cases ty with
 | non=>cases (show u=Value.none from rx);exact PySem.W.kia_one PySem.W.kitx_none I.kIn True.intro e (fun z=>nomatch z) h
 | bl y=>cases (show u=Value.bool y from rx);exact PySem.W.kia_one PySem.W.kitx_bool I.kIn True.intro e (fun z=>nomatch z) h
 | int i=>obtain ⟨t,q⟩:=(show ∃ t,u=Value.int i t from rx);cases q;exact PySem.W.kia_one PySem.W.kitx_int I.kIn True.intro e (fun z=>nomatch z) h
 | str y=>obtain ⟨t,q⟩:=(show ∃ t,u=Value.str y t from rx);cases q;exact PySem.W.kia_one PySem.W.kitx_str I.kIn True.intro e (fun z=>nomatch z) h
 | flt y=>obtain ⟨t,q⟩:=(show ∃ t,u=Value.float y t from rx);cases q;exact PySem.W.kia_one PySem.W.kitx_float I.kIn True.intro e (fun z=>nomatch z) h
 | @lst a xs ea=>
  cases (show u=Value.ref a from rx)
  obtain ⟨_,_,n,_,h1⟩:=(show yp X.prog X.w H s.heap a (.lst xs) from I.hok a _ ea)
  exact PySem.W.kia_one PySem.W.kitx_list I.kIn ⟨_,h1,rfl⟩ e (fun z=>nomatch z) h
 | @frz a ob xs ea=>
  cases (show u=Value.ref a from rx)
  obtain ⟨_,_,_,n,_,h1⟩:=(show yp X.prog X.w H s.heap a (.frz ob (.lst xs)) from I.hok a _ ea)
  exact PySem.W.kia_one PySem.W.kitx_list I.kIn ⟨_,h1,rfl⟩ e (fun z=>nomatch z) h
 | @tup a xs ea=>
  cases (show u=Value.ref a from rx)
  obtain ⟨_,_,_,p⟩:=(show yp X.prog X.w H s.heap a (.tup xs) from I.hok a _ ea)
  obtain ⟨o,h1,h2,_⟩:=p
  exact PySem.W.kia_one PySem.W.kitx_tuple I.kIn ⟨o,h1,h2⟩ e (fun z=>nomatch z) h
 | @dK a kvs ea=>
  cases (show u=Value.ref a from rx)
  obtain ⟨_,_,vs,_,p⟩:=(show yp X.prog X.w H s.heap a (.dK kvs) from I.hok a _ ea)
  obtain ⟨o,es,ep,h1,h2,_⟩:=p
  exact PySem.W.kia_one PySem.W.kitx_dict I.kIn ⟨o,h1,h2.1⟩ e (fun z=>nomatch z) h
 | @dT a kvs ea=>
  cases (show u=Value.ref a from rx)
  obtain ⟨_,_,xs,_,o,es,ep,h1,h2,_⟩:=(show yp X.prog X.w H s.heap a (.dT kvs) from I.hok a _ ea)
  exact PySem.W.kia_one PySem.W.kitx_dict I.kIn ⟨o,h1,h2.1⟩ e (fun z=>nomatch z) h
 | @ins a C dx fs ea cl ha hn htk hm=>
  cases (show u=Value.ref a from rx)
  obtain ⟨mA,O,_⟩:=zj0 I.hok ea
  obtain ⟨od,J,_⟩:=O.look
  exact PySem.W.kia_one (PySem.W.kitx_own (cl.get _) cl.hd ha hn htk hm) I.kIn J e (fun z=>nomatch z) h
end
structure Room (k:Nat)(A:Around):Prop where
 hd:A.handled=none
 dp:A.depth+3 * k+5<recursionLimit
 un:A.units+16 * k+200<cLine
theorem Room.mono {j k:Nat}{A:Around}(r:Room k A)(h:j<=k):Room j A:=⟨r.hd,by have:=r.dp;lia,by have:=r.un;lia⟩
theorem Room.deeper {k:Nat}{A:Around}(r:Room (k+1) A)(env:Env):Room k (A.deeper env):=
 ⟨r.hd,by have:=r.dp;show A.depth+1+3 * k+5<_;lia,by have:=r.un;show A.units+3+16 * k+200<_;lia⟩
theorem Room.depth {k:Nat}{A:Around}(r:Room k A):A.depth<recursionLimit:=by have:=r.dp;lia
theorem Room.units {k:Nat}{A:Around}(r:Room k A):A.units+64<cLine:=by have:=r.un;lia
def znD:TA:=fun _ H Q=>Q [] H
def zfk (ta:TE)(tr:TA):TA:=fun σ H Q=>ta σ H fun x H1=>tr σ H1 fun xs H2=>Q (x::xs) H2
section
variable {X:Cx}{e:Expr}{es:List Expr}{te:TE}{t:TA}{pos:Pos}
theorem zmD:PA X [] znD:=fun _ _ _ _ H Q I h=>Calls.spliced_nil ⟨[],H,I,.nil,h⟩
theorem zkz (ha:PE X e te)(hr:PA X es t)(hs:starEach (e::es) X.env=(false,eval e X.env)::starEach es X.env:=by rfl):PA X (e::es) (zfk te t):=by
 intro pos pins s σ H Q I h
 rw [hs]
 show wpAny _ _ (spliced ((false,eval e X.env)::backTo pos (starEach es X.env))) _ _ s
 refine Calls.spliced_cons (thn (ha pins s σ H _ I h) fun u s1 ⟨x,H1,I1,r1,q1⟩=>?_)
 exact thn (hr pos pins s1 σ H1 _ I1 q1) fun us s2 ⟨xs,H2,I2,r2,q2⟩=>⟨x::xs,H2,I2,.cons r1 r2,q2⟩
def tTup (t:TA):TE:=fun σ H Q=>t σ H fun xs H1=>xs.length<=sizeLine/\∀ p,H1 p=none->Q (.ref p) (upd H1 p (.tup xs))
def tLst (t:TA):TE:=fun σ H Q=>t σ H fun xs H1=>xs.length<=sizeLine/\∀ p,H1 p=none->Q (.ref p) (upd H1 p (.lst xs))
theorem zmL {x1}(h:PA X es t):PE X (.Tuple es x1 pos) (tTup t):=by
 intro pins s σ H Q I hq
 refine wpAny_Tuple_spliced (thn (h pos pins s σ H _ I hq) fun us s1 ⟨xs,H1,I1,r,z,q⟩=>⟨by rw [<- r.length];exact z,?_⟩)
 have hf:H1 s1.heap.objs.size=none:=I1.hok.fresh (Nat.le_refl _)
 refine ⟨.ref s1.heap.objs.size,upd H1 s1.heap.objs.size (.tup xs),I1.laid (t':=s1.toks) (fun b u e=>Heap.get?_push_of_some _ e) (Nat.le_refl _) ?_,rfl,q _ hf⟩
 exact ⟨z,us,r,⟨_,Heap.get?_push_size _ rfl,rfl,⟨_,rfl⟩,rfl⟩⟩
theorem zmH (h:PA X es t):PE X (.List es pos) (tLst t):=by
 intro pins s σ H Q I hq
 refine wpAny_List_spliced (thn (h pos pins s σ H _ I hq) fun us s1 ⟨xs,H1,I1,r,z,q⟩=>⟨by rw [<- r.length];exact z,?_⟩)
 have hf:H1 s1.heap.objs.size=none:=I1.hok.fresh (Nat.le_refl _)
 refine ⟨.ref s1.heap.objs.size,upd H1 s1.heap.objs.size (.lst xs),I1.laid (t':=s1.toks) (fun b u e=>Heap.get?_push_of_some _ e) (Nat.le_refl _) ?_,rfl,q _ hf⟩
 exact ⟨z,us,0,r,Heap.get?_push_size _ rfl⟩
end
abbrev Sp:=List V->Hp->VK->XK->Prop
abbrev CXT:=List Env->Hp->Shared->XK->Value->Shared->Prop
structure Env0 (P:Program)(w:World)(K:PySem.W.Frag)(mg:Str->Option Value)(base:Heap)(A:Around)(outer:List Env)(s:Shared)(H:Hp):Prop where
 frames:A.frames=some outer
 mod:Mod K mg base
 bs:∀ b o,base.get? b=some o->s.heap.get? b=some o/\H b=none
 bsz:base.objs.size<=s.heap.objs.size
 funs:s.heap.FunFrames base outer
 frf:∀ b∈frs outer,H b=none
 hok:HOk P w H s.heap
 bare:AllBare s.gens
def CE (outer:List Env)(P:Program)(w:World)(H:Hp)(s:Shared)(Q:VK)(u:Value)(s':Shared):Prop:=
 ∃ v H',s'.os=s.os/\AllBare s'.gens/\Un (frs outer) [] H H' s.heap s'.heap/\HOk P w H' s'.heap/\zX v u/\Q v H'
def CR (CX:CXT)(outer:List Env)(P:Program)(w:World)(H:Hp)(s:Shared)(Q:VK)(E:XK)(r:Result)(s':Shared):Prop:=
 match r with
 | .ok (.ret u)=>CE outer P w H s Q u s'
 | .ok _=>False
 | .error e=>CX outer H s E e s'
structure FnOk (P:Program)(w:World)(K:PySem.W.Frag)(mg:Str->Option Value)(base:Heap)(CX:CXT)(k:Nat)(f:Addr)(fd:FuncData)(ps:List Str)(sp:Sp):Prop where
 len:∀ vs H Q E,sp vs H Q E->vs.length=ps.length
 run:∀ (A:Around) (outer:List Env) (s:Shared) (H:Hp) (args:Args) (us:List Value) (vs:List V) (Q:VK) (E:XK),Room k A->Env0 P w K mg base A outer s H->BindsTo s fd args (ps.zip us)->zY vs us->sp vs H Q E->
  codeAny (model P w) A (.call (.ref f) args) (CR CX outer P w H s Q E) s
theorem FnOk.mono {P:Program}{w:World}{K:PySem.W.Frag}{mg:Str->Option Value}{base:Heap}{CX:CXT}{j k:Nat}{f:Addr}{fd:FuncData}{ps:List Str}{sp:Sp}(F:FnOk P w K mg base CX j f fd ps sp)(h:j<=k) :
  FnOk P w K mg base CX k f fd ps sp:=⟨F.len,fun A outer s H args us vs Q E hr=>F.run A outer s H args us vs Q E (hr.mono h)⟩
theorem FnOk.imp {P:Program}{w:World}{K:PySem.W.Frag}{mg:Str->Option Value}{base:Heap}{CX:CXT}{k:Nat}{f:Addr}{fd:FuncData}{ps:List Str}{sp sp':Sp}(F:FnOk P w K mg base CX k f fd ps sp)
  (h:∀ vs H Q E,sp' vs H Q E->sp vs H Q E):FnOk P w K mg base CX k f fd ps sp':=
 ⟨fun vs H Q E q=>F.len vs H Q E (h _ _ _ _ q),fun A outer s H args us vs Q E hr he hb hv hs=>F.run A outer s H args us vs Q E hr he hb hv (h _ _ _ _ hs)⟩
section
variable {X:Cx}{pins:List (Addr×Obj)}{σ:St}{H:Hp}{s s':Shared}
theorem Inv.env0 (I:Inv X pins σ H s):Env0 X.prog X.w X.K X.mg X.base X.A X.stack s H:=
 ⟨I.ok.frames,I.ok.mod,I.bs,Nat.le_trans I.ok.bsz I.sz,I.stack,I.stkFree,I.hok,I.bare⟩
theorem Inv.after {Q:VK}{u:Value}(I:Inv X pins σ H s)(h:CE X.stack X.prog X.w H s Q u s'):EP X pins σ Q u s':=by
 obtain ⟨v,H',os,bare,un,hok,r,q⟩:=h
 obtain ⟨hh,g,d,t,os'⟩:=s'
 obtain rfl:os'=s.os:=os
 exact ⟨v,H',I.call (h':=hh) (g':=g) (d':=d) (t':=t) (ch:=[]) un hok bare (fun b z=>absurd z (by simp)),r,q⟩
end
def zfj (sp:Sp)(dvs:List V)(E:XK)(t:TA):TE:=fun σ H Q=>t σ H fun vs H1=>sp (vs++dvs) H1 Q E
def zeR (K:PySem.W.Frag)(fd:FuncData)(ps:List Str)(ds:List Value):Prop:=
 ∀ (s:Shared) (us:List Value),K.In s.heap->(us++ds).length=ps.length->BindsTo s fd ⟨us,[]⟩ (ps.zip (us++ds))
theorem zeR.all {K:PySem.W.Frag}{fd:FuncData}{ps:List Str}(h:∀ us:List Value,us.length=ps.length->bindArgs fd ⟨us,[]⟩=pure (ps.zip us)):zeR K fd ps []:=fun s us _ hl=>by
 rw [List.append_nil] at hl ⊢
 exact .of_eq (h us hl)
def zfB (CX:CXT)(X:Cx)(E:XK):Prop:=∀ (pins:List (Addr×Obj)) (σ:St) (H:Hp) (s:Shared) (e:Value) (s':Shared),Inv X pins σ H s->CX X.stack H s E e s'->X.xe e s'
section
variable {X:Cx}{CX:CXT}{k:Nat}{f C:Addr}{fd:FuncData}{ps:List Str}{sp:Sp}{dvs:List V}{ds:List Value}{E:XK}{x m:Str}{p pos apos:Pos}{e o:Expr}{es:List Expr}{ta:TE}{t:TA}
theorem zno {pins:List (Addr×Obj)}{σ:St}{H:Hp}{s:Shared}{Q:VK}{us:List Value}{vs:List V}(F:FnOk X.prog X.w X.K X.mg X.base CX k f fd ps sp)(hr:Room k X.A)(hb:zeR X.K fd ps ds)(hd:zY dvs ds)(hx:zfB CX X E)
  (I:Inv X pins σ H s) (r:zY vs us) (h:sp (vs++dvs) H Q E):wpAny (model X.prog X.w) X.A (call (.ref f) us) (EP X pins σ Q) X.xe s:=by
 have r2:zY (vs++dvs) (us++ds):=r.append hd
 have hl:(us++ds).length=ps.length:=by rw [<- r2.length];exact F.len _ _ _ _ h
 refine wpAny_call (codeAny_mono (F.run X.A X.stack s H ⟨us,[]⟩ (us++ds) (vs++dvs) Q E hr I.env0 (hb s us I.kIn hl) r2 h) fun r s' hq=>?_)
 cases r with
 | error e=>exact hx pins σ H s e s' I hq
 | ok fl=>
  cases fl with
  | ret u=>exact I.after hq
  | next=>exact False.elim hq
  | brk=>exact False.elim hq
  | cont=>exact False.elim hq
theorem zkB (F:FnOk X.prog X.w X.K X.mg X.base CX k f fd ps sp)(hr:Room k X.A)(hg:Gl X x)(hm:X.mg x=some (.ref f))(hk:PySem.W.keepIn X.K (.ref f)=true)(hb:zeR X.K fd ps ds)(hd:zY dvs ds)(hx:zfB CX X E)
  (ha:PA X (e::es) t) (hdb:(x==("__debug__" : Str))=false:=by decide) (he:starEach (e::es) X.env=(false,eval e X.env)::starEach es X.env:=by rfl) (hpl:(backTo pos (starEach es X.env)).any (·.1)=false:=by rfl) :
  PE X (.Call (.Name x p) (e::es) [] pos) (zfj sp dvs E t):=by
 intro pins s σ H Q I h
 refine wpAny_Call_Name_kw (zgz I hg hm ?_ hdb)
 refine PySem.W.callWith_K (h₀:=X.base) I.ok.mod.kin hk (thn (ha pos pins s σ H _ I h) fun us s1 ⟨vs,H1,I1,r,q⟩=>⟨I1.kIn,?_⟩) he hpl
 exact zno F hr hb hd hx I1 r q
end
section
variable {X:Cx}{CX:CXT}{k:Nat}{f C:Addr}{fd:FuncData}{ps ks:List Str}{sp:Sp}{E:XK}{x m:Str}{p pos apos kpos:Pos}{e o:Expr}{es:List Expr}{kws:List Keyword}{te ta:TE}{t tk:TA}{nm:Option Str}
variable {g:List Value->List Value->List Value}{gV:List V->List V->List V}
end
structure FnScope (N P:List Str)(sc:Scope):Prop where
 kind:sc.kind = .function
 co:sc.isCoroutine=false
 gen:sc.isGenerator=false
 nd:N.Nodup
 pre:N.take P.length=P
 par:∀ x∈P,sc.names.lookup x=some .local\/sc.names.lookup x=some .cell
 nofree:∀ y∈sc.names,y.2≠.free
theorem zcu {kindOf:Str->Option NameKind}{x:Str}:∀ {binds:List (Str×Value)} {m:Str->Option Value},(∀ v,(x,v)∉binds)->bindL kindOf binds m x=m x
 | [],_,_=>rfl
 | (n,v)::r,m,h=>by
  unfold bindL
  rw [zcu fun w hw=>h w (List.mem_cons_of_mem _ hw)]
  split
  ·have:x≠n:=by rintro rfl;exact h v List.mem_cons_self
   simp [this]
  ·rfl
theorem zcs {kindOf:Str->Option NameKind}{x:Str}:∀ {binds:List (Str×Value)} {m:Str->Option Value},(∀ v,(x,v)∉binds)->bindC kindOf binds m x=m x
 | [],_,_=>rfl
 | (n,v)::r,m,h=>by
  unfold bindC
  rw [zcs fun w hw=>h w (List.mem_cons_of_mem _ hw)]
  split
  ·rfl
  ·have:x≠n:=by rintro rfl;exact h v List.mem_cons_self
   simp [this]
theorem zct {kindOf:Str->Option NameKind}{x:Str}{v:Value}:∀ {P:List Str} {vs:List Value} {i:Nat} {m:Str->Option Value},P.Nodup->P[i]?=some x->vs[i]?=some v->kindOf x=some .local->
  bindL kindOf (P.zip vs) m x=some v
 | [],_,_,_,_,h,_,_=>by simp at h
 | _::_,[],_,_,_,_,h,_=>by simp at h
 | p::P,w::vs,0,m,nd,h1,h2,hk=>by
  simp at h1 h2;subst h1;subst h2
  show bindL kindOf ((p,w)::P.zip vs) m p=_
  unfold bindL
  rw [zcu fun v hv=>(List.nodup_cons.mp nd).1 (List.of_mem_zip hv).1,if_pos hk]
  simp
 | p::P,w::vs,i+1,m,nd,h1,h2,hk=>by
  show bindL kindOf ((p,w)::P.zip vs) m x=_
  unfold bindL
  exact zct (i:=i) (List.nodup_cons.mp nd).2 (by simpa using h1) (by simpa using h2) hk
theorem zcr {kindOf:Str->Option NameKind}{x:Str}{v:Value}:∀ {P:List Str} {vs:List Value} {i:Nat} {m:Str->Option Value},P.Nodup->P[i]?=some x->vs[i]?=some v->kindOf x≠some .local->
  bindC kindOf (P.zip vs) m x=some v
 | [],_,_,_,_,h,_,_=>by simp at h
 | _::_,[],_,_,_,_,h,_=>by simp at h
 | p::P,w::vs,0,m,nd,h1,h2,hk=>by
  simp at h1 h2;subst h1;subst h2
  show bindC kindOf ((p,w)::P.zip vs) m p=_
  unfold bindC
  rw [zcs fun v hv=>(List.nodup_cons.mp nd).1 (List.of_mem_zip hv).1,if_neg hk]
  simp
 | p::P,w::vs,i+1,m,nd,h1,h2,hk=>by
  show bindC kindOf ((p,w)::P.zip vs) m x=_
  unfold bindC
  exact zcr (i:=i) (List.nodup_cons.mp nd).2 (by simpa using h1) (by simpa using h2) hk
def xH (N:List Str)(vs:List V):St:=vs.map some++List.replicate (N.length - vs.length) none
def zde (CX:CXT)(P:Program)(w:World)(K:PySem.W.Frag)(mg:Str->Option Value)(base:Heap)(N:List Str)(qual:Str)(scope:Scope)(f:Addr)(cd:Value)(A:Around)(outer:List Env)(s:Shared)(H:Hp)(E:XK):Cx where
 prog:=P
 w:=w
 K:=K
 mg:=mg
 base:=base
 A:=A.deeper (envOfC qual scope s.heap.objs.size f cd)
 N:=N
 s₀:=s
 H₀:=H
 env:=envOfC qual scope s.heap.objs.size f cd
 outer:=outer
 stack:=envOfC qual scope s.heap.objs.size f cd::outer
 ex:=[]
 calm:=true
 fn:=fun _=>true
 pn:=[]
 xe:=fun e s'=>wpAny (model P w) (A.deeper (envOfC qual scope s.heap.objs.size f cd)) (leaving (envOfC qual scope s.heap.objs.size f cd) e) (fun _ s''=>CX outer H s E e s'') (fun e' s''=>CX outer H s E e' s'') s'
theorem zej {sc:Scope}{n:Nat}{x:Str}(h:sc.names.lookup x=some .cell):∃ c,(cellsFrom n sc.names []).lookup x=some c:=by
 have q:=PySem.W.cellsFrom_some sc.names n [] (.inl h)
 exact Option.isSome_iff_exists.mp q
theorem zgl {CX:CXT}{P:Program}{w:World}{K:PySem.W.Frag}{mg:Str->Option Value}{base:Heap}{N ps:List Str}{qual:Str}{scope:Scope}{f:Addr}{cd:Value}{A:Around}{outer:List Env}{s s1:Shared}{H:Hp}{E:XK}{us:List Value}{vs:List V}
  (S:FnScope N ps scope) (hd:A.handled=none) (e0:Env0 P w K mg base A outer s H) (hl:vs.length=ps.length) (r:zY vs us)
  (x:InCallC s s.heap.objs.size (bindL (envOfC qual scope s.heap.objs.size f cd).kindOf (ps.zip us) fun _=>none) (cellsFrom (s.heap.objs.size+1) scope.names []) (bindC (envOfC qual scope s.heap.objs.size f cd).kindOf (ps.zip us) fun _=>none) s1) :
  Inv (zde CX P w K mg base N qual scope f cd A outer s H E) [] (xH N vs) H s1:=by
 have hpl:ps.length<=N.length:=by have:=congrArg List.length S.pre;rw [List.length_take] at this;lia
 obtain ⟨h1,tk,rfl,hk⟩:=x.done
 have noA:∀ b:Addr,b∉(zde CX P w K mg base N qual scope f cd A outer s H E).ex:=fun b z=>absurd (show b∈([]:List Addr) from z) (by simp)
 refine ⟨⟨e0.mod,S.kind,rfl,rfl,Nat.le_refl _,fun y z c h1 h2=>?_,fun y hy=>?_,fun y c _ h=>?_,fun _=>hd,Around.frames_deeper e0.frames,.inr ⟨rfl,rfl⟩,fun b z=>absurd z (noA b),e0.bs,e0.bsz,fun b _ _=>noA b,fun b z=>absurd z (noA b),e0.funs,e0.frf⟩,
  rfl,e0.bare,Un.kept hk,⟨_,x.toInCall.ns,fun i y v h1 h2 h3=>?_⟩,fun y c h=>⟨_,x.cell y c h⟩,e0.hok.fresh (Nat.le_refl _),fun y c h=>?_,fun p hp=>absurd (show p∈([]:List (Addr×Obj)) from hp) (by simp),e0.hok.kept hk,?_⟩
 ·exact name_of_addr x.apart (PySem.mem_of_lookup h1) (PySem.mem_of_lookup h2)
 ·have hy:scope.names.lookup y=some .cell\/scope.names.lookup y=some .free:=hy
  rcases hy with hy | hy
  ·exact zej hy
  ·exact absurd rfl (S.nofree _ (PySem.mem_of_lookup hy))
 ·exact Nat.le_of_lt (x.above y c (PySem.mem_of_lookup h))
 ·have hi:i<vs.length:=by
   unfold xH at h2
   by_cases hi:i<vs.length
   ·exact hi
   ·rw [List.getElem?_append_right (by simpa using hi)] at h2
    rw [List.getElem?_replicate] at h2
    split at h2 <;> cases h2
  have ha:vs[i]?=some v:=by
   unfold xH at h2
   rw [List.getElem?_append_left (by simpa using hi),List.getElem?_map] at h2
   cases e:vs[i]? with
   | none=>rw [e] at h2;cases h2
   | some a=>rw [e] at h2;cases h2;rfl
  obtain ⟨u,hu,rv⟩:=r.get ha
  have hp:ps[i]?=some y:=by
   rw [<- S.pre,List.getElem?_take_of_lt (by lia)];exact h1
  have ndP:ps.Nodup:=by rw [<- S.pre];exact S.nd.sublist (List.take_sublist _ _)
  refine ⟨u,rv,?_⟩
  rcases S.par y (List.mem_of_getElem? hp) with k | k
  ·exact .inl ⟨k,zct ndP hp hu k⟩
  ·obtain ⟨c,e⟩:=zej (n:=s.heap.objs.size+1) k
   refine .inr ⟨.inl k,c,e,?_⟩
   have q:=x.cell y c e
   rw [zcr ndP hp hu (by show scope.names.lookup y≠_;rw [k];decide)] at q
   exact q
 ·exact e0.hok.fresh (Nat.le_of_lt (x.above y c (PySem.mem_of_lookup h)))
 ·unfold xH
  show _=N.length
  rw [List.length_append,List.length_map,List.length_replicate]
  lia
theorem zow {CX:CXT}{P:Program}{w:World}{K:PySem.W.Frag}{mg:Str->Option Value}{base:Heap}{k:Nat}{f:Addr}{name qual:Str}{params:Arguments}{body:List Stmt}{scope:Scope}{dV kV doc pm cdv ct oc:Value}{an od:Option Addr}
  {osl:Array (Option Value)} {N ps:List Str} {sp:Sp} (lk:K.lookup f=some ⟨oc,od,.func (PySem.W.fnOf name qual params body scope dV kV doc pm an cdv ct),osl⟩) (hcd:PySem.W.codeIn K cdv qual=true) (S:FnScope N ps scope)
  (len:∀ vs H Q E,sp vs H Q E->vs.length=ps.length)
  (hbody:∀ (A:Around) (outer:List Env) (s:Shared) (H:Hp) (vs:List V) (Q:VK) (E:XK),Room k (A.deeper (envOfC qual scope s.heap.objs.size f cdv))->sp vs H Q E->
   ∃ t,PSs (zde CX P w K mg base N qual scope f cdv A outer s H E) body t/\t { nx:=fun _ H'=>Q .non H',rt:=Q } (xH N vs) H) :
  FnOk P w K mg base CX (k+1) f (PySem.W.fnOf name qual params body scope dV kV doc pm an cdv ct) ps sp:=by
 refine ⟨len,fun A outer s H args us vs Q E hr e0 hb r hsp=>?_⟩
 have hl:=len _ _ _ _ hsp
 have KX:K.In s.heap:=e0.mod.kin.keeps fun b o e=>(e0.bs b o e).1
 have lim:s.heap.NoLimit:=e0.mod.nolimit.keeps fun b o e=>(e0.bs b o e).1
 have hkind:∀ y∈ps.zip us,scope.names.lookup y.1=some .local\/(scope.names.lookup y.1=some .cell/\((cellsFrom (s.heap.objs.size+1) scope.names []).lookup y.1).isSome=true):=fun ⟨n,v⟩ hy=>by
  rcases S.par n (List.of_mem_zip hy).1 with q | q
  ·exact .inl q
  ·exact .inr ⟨q,PySem.W.cellsFrom_some _ _ _ (.inl q)⟩
 refine codeAny_call_function hr.depth (KX _ _ lk) rfl S.co S.gen rfl (PySem.W.codeRec_of KX hcd) (hb _ _ _ _ ?_)
 refine wpAny_newFunctionEnv_cells S.kind hkind fun env he s1 x=>?_
 subst he
 refine ⟨lim.keeps x.toInCall.keep,codeAny_func ?_⟩
 obtain ⟨t,ht,hq⟩:=hbody A outer s H vs Q E (hr.deeper _) hsp
 have I:Inv (zde CX P w K mg base N qual scope f cdv A outer s H E) [] (xH N vs) H s1:=zgl S hr.hd e0 hl r x
 refine wpAny_mono (ht [] s1 (xH N vs) H _ I hq) (fun fl s' hs=>?_) fun e s' hs=>hs
 have fin:∀ {σ':St} {H':Hp} {v:V} {u:Value},Inv (zde CX P w K mg base N qual scope f cdv A outer s H E) [] σ' H' s'->zX v u->Q v H'->CE outer P w H s Q u s':=
  fun {σ' H' v u} J rv q=>⟨v,H',J.os,J.bare,J.base,J.hok,rv,q⟩
 cases fl with
 | ret u=>
  obtain ⟨v,σ',H',J,rv,q⟩:=hs
  exact fin J rv q
 | next=>
  obtain ⟨σ',H',J,q⟩:=hs
  exact fin (v:=V.non) (u:=Value.none) J rfl q
 | brk=>
  obtain ⟨_,_,_,q⟩:=hs
  exact False.elim q
 | cont=>
  obtain ⟨_,_,_,q⟩:=hs
  exact False.elim q
section
variable {X:Cx}{x:Str}{p pos:Pos}{e:Expr}{es:List Expr}{t:TA}{id T:String}{r:List V->Hp->VK->Prop}
def tCB (r:List V->Hp->VK->Prop)(t:TA):TE:=fun σ H Q=>t σ H fun vs H1=>r vs H1 Q
theorem ziw (hc:zbF X (.builtin id) r)(hg:Gl X x)(hm:X.mg x=none)(hv:bootBuiltins x=some (.builtin id))(ha:PA X (e::es) t)(hn:x ≠ "__name__" := by decide)(hdb:(x==("__debug__" : Str))=false:=by decide)
  (he:starEach (e::es) X.env=(false,eval e X.env)::starEach es X.env:=by rfl) (hpl:(backTo pos (starEach es X.env)).any (·.1)=false:=by rfl):PE X (.Call (.Name x p) (e::es) [] pos) (tCB r t):=by
 intro pins s σ H Q I h
 refine wpAny_Call_Name_kw (zbt I hg hm hv ?_ hn hdb)
 exact PyProof.Rows.callWith_builtin1 (thn (ha pos pins s σ H _ I h) fun us s1 ⟨vs,H1,I1,r1,q1⟩=>hc pins s1 σ H1 vs us Q I1 r1 q1) he hpl
theorem zgO (hc:zbF X (.type T) r)(hg:Gl X x)(hm:X.mg x=none)(hv:bootBuiltins x=some (.type T))(ha:PA X (e::es) t)(hn:x ≠ "__name__" := by decide)(hdb:(x==("__debug__" : Str))=false:=by decide)
  (he:starEach (e::es) X.env=(false,eval e X.env)::starEach es X.env:=by rfl) (hpl:(backTo pos (starEach es X.env)).any (·.1)=false:=by rfl):PE X (.Call (.Name x p) (e::es) [] pos) (tCB r t):=by
 intro pins s σ H Q I h
 refine wpAny_Call_Name_kw (zbt I hg hm hv ?_ hn hdb)
 exact PyProof.Rows.callWith_type1 (thn (ha pos pins s σ H _ I h) fun us s1 ⟨vs,H1,I1,r1,q1⟩=>hc pins s1 σ H1 vs us Q I1 r1 q1) he hpl
end
section
variable {κ:Type}[DecidableEq κ]
def uY (kvs:List (κ×V))(k:κ):Option V:=(kvs.find? fun kv=>decide (kv.1=k)).map (·.2)
def zbz (kvs:List (κ×V))(k:κ)(v:V):List (κ×V):=
 if (kvs.any fun kv=>decide (kv.1=k))=true then kvs.map (fun kv=>if kv.1=k then (kv.1,v) else kv) else kvs++[(k,v)]
theorem xI {p:κ×V}{r:List (κ×V)}{k:κ}(e:p.1=k):uY (p::r) k=some p.2:=by simp [uY,List.find?_cons,e]
theorem xi {p:κ×V}{r:List (κ×V)}{k:κ}(e:¬ p.1=k):uY (p::r) k=uY r k:=by simp [uY,List.find?_cons,e]
theorem zeN (k:κ):∀ kvs:List (κ×V),(kvs.any fun kv=>decide (kv.1=k))=(uY kvs k).isSome
 | []=>rfl
 | p::r=>by
  rw [List.any_cons]
  by_cases e:p.1=k
  ·simp only [xI e,decide_eq_true e,Bool.true_or,Option.isSome_some]
  ·rw [xi e,decide_eq_false e,Bool.false_or];exact zeN k r
theorem uw (kvs:List (κ×V))(k:κ)(v:V):(zbz kvs k v).length<=kvs.length+1:=by
 unfold zbz
 split
 ·rw [List.length_map];lia
 ·rw [List.length_append,List.length_cons,List.length_nil];lia
theorem zeS.isSome_eq {o:Option V}{u:Option Value}(r:zeS o u):o.isSome=u.isSome:=by
 cases o with
 | none=>cases u with
  | none=>rfl
  | some _=>exact (show False from r).elim
 | some _=>cases u with
  | none=>exact (show False from r).elim
  | some _=>rfl
theorem zeS.getD {o:Option V}{u:Option Value}{d:V}{d':Value}(r:zeS o u)(rd:zX d d'):zX (o.getD d) (u.getD d'):=by
 cases o with
 | none=>cases u with
  | none=>exact rd
  | some _=>exact (show False from r).elim
 | some _=>cases u with
  | none=>exact (show False from r).elim
  | some _=>exact r
theorem KV.val {kvs:List (κ×V)}{vs:List (κ×Value)}(r:KV kvs vs)(k:κ):zeS (uY kvs k) (valueAt vs k):=by
 unfold KV at r
 induction r with
 | nil=>exact True.intro
 | @cons p q ps qs h t ih=>
  obtain ⟨h1,h2⟩:=h
  by_cases e:p.1=k
  ·have e':q.1=k:=h1.symm.trans e
   have b:valueAt (q::qs) k=some q.2:=by simp [valueAt,List.find?_cons,e']
   rw [xI e,b];exact h2
  ·have e':¬ q.1=k:=fun z=>e (h1.trans z)
   have b:valueAt (q::qs) k=valueAt qs k:=by simp [valueAt,List.find?_cons,e']
   rw [xi e,b];exact ih
theorem KV.any {kvs:List (κ×V)}{vs:List (κ×Value)}(r:KV kvs vs)(k:κ):(kvs.any fun kv=>decide (kv.1=k))=vs.any fun kv=>decide (kv.1=k):=by
 unfold KV at r
 induction r with
 | nil=>rfl
 | cons h t ih=>rw [List.any_cons,List.any_cons,ih,h.1]
theorem KV.repl {kvs:List (κ×V)}{vs:List (κ×Value)}(r:KV kvs vs)(k:κ){y:V}{u:Value}(ry:zX y u) :
  KV (kvs.map fun kv=>if kv.1=k then (kv.1,y) else kv) (vs.map fun kv=>if kv.1=k then (kv.1,u) else kv):=by
 unfold KV at r ⊢
 induction r with
 | nil=>exact .nil
 | @cons p q ps qs h t ih=>
  rw [List.map_cons,List.map_cons]
  refine .cons ?_ ih
  obtain ⟨h1,h2⟩:=h
  by_cases e:p.1=k
  ·rw [if_pos e,if_pos (h1.symm.trans e)];exact ⟨h1,ry⟩
  ·rw [if_neg e,if_neg (fun z=>e (h1.trans z))];exact ⟨h1,h2⟩
theorem KV.put {kvs:List (κ×V)}{vs:List (κ×Value)}(r:KV kvs vs)(k:κ){y:V}{u:Value}(ry:zX y u):KV (zbz kvs k y) (stored vs k u):=by
 unfold zbz stored
 rw [r.any k]
 by_cases e:(vs.any fun kv=>decide (kv.1=k))=true
 ·rw [if_pos e,if_pos e];exact r.repl k ry
 ·rw [if_neg e,if_neg e];exact Paired.snoc r ⟨rfl,ry⟩
theorem KV.length {kvs:List (κ×V)}{vs:List (κ×Value)}(r:KV kvs vs):kvs.length=vs.length:=Paired.length r
end
theorem ze4 {P:Program}{w:World}{k:Key}{u:Value}(r:zX (kV k) u):(zQ P w).is k u=true:=by
 cases k with
 | inl i=>obtain ⟨t,e⟩:=(show ∃ t,u=Value.int i t from r);subst e;exact za3 P w i t
 | inr x=>obtain ⟨t,e⟩:=(show ∃ t,u=Value.str x t from r);subst e;exact zdO P w x t
theorem zcB {P:Program}{w:World}:∀ {ks:List Key} {us:List Value},zY (ks.map kV) us->ItemsAre (zQ P w) ks us
 | [],_,r=>by rw [List.map_nil] at r;cases r;exact .nil
 | k::ks,_,r=>by
  rw [List.map_cons] at r
  cases r with
  | cons h t=>exact .cons (ze4 h) (zcB t)
abbrev KT (H:Hp):List (List Key×V)->List (List Key×Addr×Value)->Prop:=Paired fun p q=>p.1=q.1/\H q.2.1=some (.tup (p.1.map kV))/\zX p.2 q.2.2
theorem KT.val {H:Hp}{kvs:List (List Key×V)}{xs:List (List Key×Addr×Value)}(r:KT H kvs xs)(k:List Key):zeS (uY kvs k) ((atKey xs k).map (·.2)):=by
 induction r with
 | nil=>exact True.intro
 | @cons p q ps qs h t ih=>
  obtain ⟨h1,_,h2⟩:=h
  by_cases e:p.1=k
  ·have e':q.1=k:=h1.symm.trans e
   have b:atKey (q::qs) k=some q.2:=by simp [atKey,List.find?_cons,e']
   rw [xI e,b];exact h2
  ·have e':¬ q.1=k:=fun z=>e (h1.trans z)
   have b:atKey (q::qs) k=atKey qs k:=by simp [atKey,List.find?_cons,e']
   rw [xi e,b];exact ih
theorem KT.repl {H:Hp}{kvs:List (List Key×V)}{xs:List (List Key×Addr×Value)}(r:KT H kvs xs)(k:List Key){y:V}{u:Value}(ry:zX y u) :
  KT H (kvs.map fun kv=>if kv.1=k then (kv.1,y) else kv) (xs.map (putAt k u)):=by
 induction r with
 | nil=>exact .nil
 | @cons p q ps qs h t ih=>
  rw [List.map_cons,List.map_cons]
  refine .cons ?_ ih
  obtain ⟨h1,h2,h3⟩:=h
  unfold putAt
  by_cases e:p.1=k
  ·rw [if_pos e,if_pos (h1.symm.trans e)];exact ⟨h1,h2,ry⟩
  ·rw [if_neg e,if_neg (fun z=>e (h1.trans z))];exact ⟨h1,h2,h3⟩
theorem KT.put {H:Hp}{kvs:List (List Key×V)}{xs:List (List Key×Addr×Value)}(r:KT H kvs xs)(k:List Key){b:Addr}{y:V}{u:Value}(hb:H b=some (.tup (k.map kV)))(ry:zX y u) :
  KT H (zbz kvs k y) (storedH xs k b u):=by
 have e:(kvs.any fun kv=>decide (kv.1=k))=(atKey xs k).isSome:=by
  rw [zeN,(r.val k).isSome_eq,Option.isSome_map]
 unfold zbz storedH
 rw [e]
 by_cases q:(atKey xs k).isSome=true
 ·rw [if_pos q,if_pos q];exact r.repl k ry
 ·rw [if_neg q,if_neg q];exact Paired.snoc r ⟨rfl,hb,ry⟩
theorem KT.keeps {H H':Hp}{kvs:List (List Key×V)}{xs:List (List Key×Addr×Value)}(r:KT H kvs xs)(ht:∀ b ys,H b=some (.tup ys)->H' b=some (.tup ys)):KT H' kvs xs:=
 Paired.mapP r fun _ _ z=>⟨z.1,ht _ _ z.2.1,z.2.2⟩
section
variable {P:Program}{w:World}{H:Hp}{h:Heap}{a:Addr}
theorem znf {u:HO}(ok:HOk P w H h)(e:Rd H a u):yp P w H h a u:=e.ok ok
theorem zeY {kvs:List (Key×V)}(ok:HOk P w H h)(e:Rd H a (.dK kvs)):kvs.length<=sizeLine/\(a==sysModules)=false/\∃ vs,KV kvs vs/\h.DictOf (zQ P w) a vs:=
 show yp P w H h a (.dK kvs) from znf ok e
theorem zlP {kvs:List (Key×V)}(ok:HOk P w H h)(e:H a=some (.dK kvs)):kvs.length<=sizeLine/\(a==sysModules)=false/\∃ vs,KV kvs vs/\h.DictOf (zQ P w) a vs:=zeY ok (.inl e)
theorem zcH {ks:List Key}(ok:HOk P w H h)(e:H a=some (.tup (ks.map kV))):(tupleKind (zQ P w)).is h ks a:=by
 obtain ⟨_,its,r,o,h1,h2,⟨n,h3⟩,_⟩:=(show yp P w H h a (.tup (ks.map kV)) from ok a _ e)
 exact ⟨o,its.toArray,n,h1,h2,h3,by simpa using zcB r⟩
theorem ze0 {kvs:List (List Key×V)}(ok:HOk P w H h)(e:Rd H a (.dT kvs)):kvs.length<=sizeLine/\(a==sysModules)=false/\
  ∃ xs,KT H kvs xs/\h.DictOfH (tupleKind (zQ P w)) a xs:=by
 obtain ⟨z,y,xs,r,o,es,ep,h1,h2,h3,h4,h5⟩:=(show yp P w H h a (.dT kvs) from znf ok e)
 refine ⟨z,y,xs,r,o,es,ep,h1,h2,h3,h4,fun x hx=>?_,h5⟩
 have all:∀ {l:List (List Key×V)} {m:List (List Key×Addr×Value)},KT H l m->∀ x∈m,(tupleKind (zQ P w)).is h x.1 x.2.1:=by
  intro l m q
  induction q with
  | nil=>intro x hx;exact nomatch hx
  | @cons p q ps qs hq t ih=>
   intro x hx
   rcases List.mem_cons.mp hx with e | hx
   ·subst e
    exact zcH ok (by rw [<- hq.1];exact hq.2.1)
   ·exact ih x hx
 exact all r x hx
theorem zoo {kvs:List (List Key×V)}(ok:HOk P w H h)(e:H a=some (.dT kvs)):kvs.length<=sizeLine/\(a==sysModules)=false/\
  ∃ xs,KT H kvs xs/\h.DictOfH (tupleKind (zQ P w)) a xs:=ze0 ok (.inl e)
end
def zco (H:Hp)(a:Addr)(y:V)(r:Option V):Prop:=
 (∃ kvs k,Rd H a (.dK kvs)/\y=kV k/\r=uY kvs k)\/∃ kvs k b,Rd H a (.dT kvs)/\y = .ref b/\H b=some (.tup (k.map kV))/\r=uY kvs k
def zi6 (H:Hp)(a:Addr)(y v:V)(H':Hp):Prop:=
 (∃ kvs k,H a=some (.dK kvs)/\y=kV k/\kvs.length<sizeLine/\H'=upd H a (.dK (zbz kvs k v)))\/
 ∃ kvs k b,H a=some (.dT kvs)/\y = .ref b/\H b=some (.tup (k.map kV))/\kvs.length<sizeLine/\H'=upd H a (.dT (zbz kvs k v))
theorem zco.k {H:Hp}{a:Addr}{kvs:List (Key×V)}{k:Key}(e:H a=some (.dK kvs)):zco H a (kV k) (uY kvs k):=.inl ⟨kvs,k,.inl e,rfl,rfl⟩
theorem zi6.k {H:Hp}{a:Addr}{kvs:List (Key×V)}{k:Key}{v:V}(e:H a=some (.dK kvs))(hl:kvs.length<sizeLine):zi6 H a (kV k) v (upd H a (.dK (zbz kvs k v))):=.inl ⟨kvs,k,e,rfl,hl,rfl⟩
section
variable {X:Cx}{pins:List (Addr×Obj)}{σ:St}{H:Hp}{s:Shared}{a:Addr}{y v:V}{u r:Value}{o:Option V}{A:Around}{E:Value->Shared->Prop}
theorem Inv.big (I:Inv X pins σ H s):sysModules<s.heap.objs.size:=by
 have h:mainGlobals<s.heap.objs.size:=(I.mod.glob.keeps I.bk).lt
 exact Nat.lt_trans (by decide) h
theorem zfW {Q:Value->Shared->Prop}(hu:A.units+1<cLine)(I:Inv X pins σ H s)(g:zco H a y (some v))(ry:zX y u)(h:∀ w' s',Inv X pins σ H s'->zX v w'->Q w' s') :
  wpAny (model X.prog X.w) A (getItem (.ref a) u) Q E s:=by
 rcases g with ⟨kvs,k,e,ey,l⟩ | ⟨kvs,k,b,e,ey,eb,l⟩
 ·subst ey
  obtain ⟨z,hd,vs,rel,dd⟩:=zeY I.hok e
  obtain ⟨w',hw,rw'⟩:=zeS.some_of (v:=v) (o:=valueAt vs k) (by rw [l];exact rel.val k)
  exact wpAny_getItem_of (ze4 ry) dd.mapOf hw (h w' _ (I.tok _) rw')
 ·subst ey
  cases (show u=Value.ref b from ry)
  obtain ⟨z,hd,xs,rel,dd⟩:=ze0 I.hok e
  obtain ⟨w',hw,rw'⟩:=zeS.some_of (v:=v) (o:=(atKey xs k).map (·.2)) (by rw [l];exact rel.val k)
  obtain ⟨p,hp,hp2⟩:=Option.map_eq_some_iff.mp hw
  refine wpAny_getItem_heap (tupleKind_room_in1 hu) (zcH I.hok eb) dd hp ?_
  rw [hp2]
  exact h w' _ (I.tok _) rw'
theorem d_in {Q:Value->Shared->Prop}(hu:A.units+1<cLine)(I:Inv X pins σ H s)(g:zco H a y o)(ry:zX y u)(h:∀ s',Inv X pins σ H s'->Q (.bool o.isSome) s') :
  wpAny (model X.prog X.w) A (compareOp .In u (.ref a)) Q E s:=by
 rcases g with ⟨kvs,k,e,ey,l⟩ | ⟨kvs,k,b,e,ey,eb,l⟩
 ·subst ey
  obtain ⟨z,hd,vs,rel,dd⟩:=zeY I.hok e
  refine wpAny_in_of (ze4 ry) hd dd.mapOf ?_
  rw [<- (rel.val k).isSome_eq,<- l]
  exact h _ (I.tok _)
 ·subst ey
  cases (show u=Value.ref b from ry)
  obtain ⟨z,hd,xs,rel,dd⟩:=ze0 I.hok e
  refine wpAny_in_heap (tupleKind_room_in1 hu) (zcH I.hok eb) hd dd ?_
  have q:=(rel.val k).isSome_eq
  rw [Option.isSome_map] at q
  rw [<- q,<- l]
  exact h _ (I.tok _)
theorem zds {h':Heap}{t':Nat}{ob:HO}(I:Inv X pins σ H s)(mu:Mut (H a))(hs:Heap.SameBut a s.heap h')(he:∃ q,h'.get? a=some q)(new:yp X.prog X.w (upd H a ob) h' a ob) :
  Inv X pins σ (upd H a ob) { s with heap:=h',toks:=t' }:=
 I.write (x:=a) (e:=a) mu (.inl rfl) (fun b q hb z=>(hs.2 b hb).trans z) he new
theorem zji {P:Program}{w:World}{H':Hp}{h':Heap}{kvs:List (Key×V)}{vs:List (Key×Value)}(z:kvs.length<=sizeLine)(hd:(a==sysModules)=false)(rel:KV kvs vs)(dd:h'.DictOf (zQ P w) a vs) :
  yp P w H' h' a (.dK kvs):=⟨z,hd,vs,rel,dd⟩
theorem zfX {H':Hp}{Q:Unit->Shared->Prop}(hu:A.units+1<cLine)(I:Inv X pins σ H s)(g:zi6 H a y v H')(ry:zX y u)(rv:zX v r)(h:∀ s',Inv X pins σ H' s'->Q () s') :
  wpAny (model X.prog X.w) A (setItem (.ref a) u r) Q E s:=by
 rcases g with ⟨kvs,k,e,ey,l,eH⟩ | ⟨kvs,k,b,e,ey,eb,l,eH⟩
 ·subst ey eH
  obtain ⟨z,hd,vs,rel,dd⟩:=zlP I.hok e
  have hz:vs.length<=sizeLine:=by rw [<- rel.length];exact z
  have hl:(zbz kvs k v).length<=sizeLine:=by have:=uw kvs k v;lia
  refine wpAny_setItem_pairs (hsz:=hz) (ze4 ry) dd fun h' dd' hs=>h _ ?_
  have he:∃ q,h'.get? a=some q:=let ⟨q,_,_,hq,_⟩:=dd';⟨q,hq⟩
  exact zds I (by rw [e];exact True.intro) hs he (zji hl hd (rel.put k rv) dd')
 ·subst ey eH
  cases (show u=Value.ref b from ry)
  obtain ⟨z,hd,xs,rel,dd⟩:=zoo I.hok e
  have hz:xs.length<=sizeLine:=by rw [<- Paired.length rel];exact z
  have hl:(zbz kvs k v).length<=sizeLine:=by have:=uw kvs k v;lia
  refine wpAny_setItem_heap (hsz:=hz) (tupleKind_room_in1 hu) (zcH I.hok eb) dd fun h' dd' hs=>h _ ?_
  obtain ⟨q,es,ep,hq,h2,h3,h4,_,h5⟩:=dd'
  refine zds I (by rw [e];exact True.intro) hs ⟨q,hq⟩ ⟨hl,hd,_,(rel.put k eb rv).keeps fun c ys ec=>?_,q,es,ep,hq,h2,h3,h4,h5⟩
  rw [ze (zkp ec e (fun z=>nomatch z))]
  exact ec
end
section
variable {X:Cx}{pins:List (Addr×Obj)}{σ:St}{H:Hp}{s:Shared}{a:Addr}{kvs:List (Key×V)}{k:Key}{u:Value}{A:Around}{E:Value->Shared->Prop}
end
def znW (i:Expr):Prop:=∀ ov iv,subscripted i false ov iv=operate [ov,iv] (getItem ov iv)
theorem zlg {prog:Program}{w:World}{A:Around}{E:Value->Shared->Prop}{s:Shared}{env:Env}{value slice:Expr}{pos:Pos}{T id:String}{Q:Value->Shared->Prop}
  (hl:typeLookup (.type T) "__getitem__" = pure (some (.builtin id))) (hs:znW slice)
  (h:wpAny (model prog w) A (eval value env) (fun o s₁=>wpAny (model prog w) A (eval slice env) (fun i s₂=>s₂.TypeIs o T/\wpAny (model prog w) A (getItem o i) Q E s₂) E s₁) E s) :
  wpAny (model prog w) A (eval (.Subscript value slice pos) env) Q E s:=by
 refine Subscript_ (wpAny_mono h (fun o s₁ h₁=>wpAny_mono h₁ (fun i s₂ h₂=>?_) fun _ _ x=>x) fun _ _ x=>x)
 obtain ⟨hT,h₂⟩:=h₂
 unfold subscriptTail
 refine wpAny_bind ?_
 rw [getitemInPython_of_ne hT.not_modules]
 refine wpAny_bind (wpAny_specialOf hT hl ?_)
 have fin:wpAny (model prog w) A (subscripted slice false o i) (fun r s₃=>wpAny (model prog w) A (letTemporaryGo value o r >>= fun _=>pure r) Q E s₃) E s₂:=by
  rw [hs o i]
  exact wpAny_operating (wpAny_mono h₂ (fun r s₃ h₃=>wpAny_bind (wpAny_letTemporaryGo (wpAny_pure h₃))) fun _ _ x=>x)
 first
  | exact wpAny_pure (wpAny_bind fin)
  | exact wpAny_bind (wpAny_pure (wpAny_bind fin))
  | exact wpAny_bind fin
theorem zdt {X:Cx}{pins:List (Addr×Obj)}{σ:St}{H:Hp}{s:Shared}{a:Addr}{y:V}{o:Option V}(I:Inv X pins σ H s)(g:zco H a y o):s.TypeIs (.ref a) "dict" := by
 rcases g with ⟨kvs,k,e,_,_⟩ | ⟨kvs,k,b,e,_,_,_⟩
 ·obtain ⟨_,_,vs,_,dd⟩:=zeY I.hok e
  exact dd.typeIs
 ·obtain ⟨_,_,xs,_,dd⟩:=ze0 I.hok e
  exact dd.typeIs
def znw (td ty:TE):TE:=fun σ H Q=>td σ H fun x H1=>ty σ H1 fun y H2=>∃ a v,x = .ref a/\zco H2 a y (some v)/\Q v H2
def zpr (ty td:TE):TE:=fun σ H Q=>ty σ H fun y H1=>td σ H1 fun x H2=>∃ a o,x = .ref a/\zco H2 a y o/\Q (.bl o.isSome) H2
def znp (td ty tv:TE):TS:=fun D σ H=>tv σ H fun v H1=>td σ H1 fun x H2=>ty σ H2 fun y H3=>∃ a H4,x = .ref a/\zi6 H3 a y v H4/\D.nx σ H4
section
variable {X:Cx}{o i e value:Expr}{pos pos' tpos:Pos}{td ty tv:TE}
theorem zkE (hu:X.A.units+1<cLine)(ho:PE X o td)(hi:PE X i ty)(hs:znW i):PE X (.Subscript o i pos) (znw td ty):=by
 intro pins s σ H Q I h
 refine zlg PySem.F.slot_dict_getitem.lookup hs (thn (ho pins s σ H _ I h) fun u s1 ⟨x,H1,I1,rx,q1⟩=>thn (hi pins s1 σ H1 _ I1 q1) fun iv s2 ⟨y,H2,I2,ry,a,v,ex,g,q2⟩=>?_)
 subst ex
 obtain rfl:u=Value.ref a:=rx
 exact ⟨zdt I2 g,zfW hu I2 g ry fun w' s3 I3 rw'=>⟨v,H2,I3,rw',q2⟩⟩
theorem zmE (hu:X.A.units+1<cLine)(hi:PE X i ty)(ho:PE X o td):PC X .In i o (zpr ty td):=by
 intro pins s σ H Q I h
 refine thn (hi pins s σ H _ I h) fun iv s1 ⟨y,H1,I1,ry,q1⟩=>thn (ho pins s1 σ H1 _ I1 q1) fun u s2 ⟨x,H2,I2,rx,a,ov,ex,g,q2⟩=>?_
 subst ex
 obtain rfl:u=Value.ref a:=rx
 exact d_in hu I2 g ry fun s3 I3=>⟨.bl ov.isSome,H2,I3,rfl,q2⟩
theorem zkR (hu:X.A.units+1<cLine)(ho:PE X o td)(hi:PE X i ty)(hv:PE X value tv)(hs:swapsWith value (some (.Subscript o i pos')) pos.line X.env=pure false) :
  PS X (.Assign [.Subscript o i pos'] value pos) (znp td ty tv):=by
 intro pins s σ H D I h
 refine wpAny_Assign_Subscript (thn (hv pins s σ H _ I h) fun r s1 ⟨v,H1,I1,rv,q1⟩=>thn (ho pins s1 σ H1 _ I1 q1) fun u s2 ⟨x,H2,I2,rx,q2⟩=>thn (hi pins s2 σ H2 _ I2 q2) fun iv s3 ⟨y,H3,I3,ry,a,H4,ex,g,q3⟩=>?_) hs
 subst ex
 obtain rfl:u=Value.ref a:=rx
 exact zfX hu I3 g ry rv fun s4 I4=>⟨σ,H4,I4,q3⟩
end
theorem zh2 {P:Program}{w:World}{H:Hp}(h:Heap)(hb:sysModules<h.objs.size):yp P w H (h.push { cls:=.type "dict",data:=.dict #[] }) h.objs.size (.dK []):=
 ⟨Nat.zero_le _,beq_eq_false_iff_ne.mpr (Ne.symm (Nat.ne_of_lt hb)),[],.nil,Heap.DictOf.new h⟩
section
variable {X:Cx}{pos:Pos}
end
def zhm:List (TE×TE)->St->Hp->(List (V×V)->Hp->Prop)->Prop
 | [],_,H,Q=>Q [] H
 | (tk,tv)::r,σ,H,Q=>tk σ H fun x H1=>tv σ H1 fun y H2=>zhm r σ H2 fun ps H3=>Q ((x,y)::ps) H3
abbrev VV:List (V×V)->List (Value×Value)->Prop:=Paired fun p q=>zX p.1 q.1/\zX p.2 q.2
def PPs (X:Cx)(pos:Pos)(keys:List (Option Expr))(values:List Expr)(trs:List (TE×TE)):Prop:=
 ∀ (pins:List (Addr×Obj)) (s:Shared) (σ:St) (H:Hp) (Q:List (V×V)->Hp->Prop),Inv X pins σ H s->zhm trs σ H Q->
  wpAny (model X.prog X.w) X.A (evalPairs (pairTrees keys values X.env pos)) (fun vs s'=>∃ ps H',Inv X pins σ H' s'/\VV ps vs/\Q ps H') X.xe s
theorem zkQ {X:Cx}{pos:Pos}:PPs X pos [] [] []:=fun pins s σ H Q I h=>pairTrees_nil_walk ⟨[],H,I,.nil,h⟩
theorem ziE {X:Cx}{pos:Pos}{k v:Expr}{ks:List (Option Expr)}{vs:List Expr}{tk tv:TE}{trs:List (TE×TE)}(hk:PE X k tk)(hv:PE X v tv)(hr:PPs X pos ks vs trs) :
  PPs X pos (some k::ks) (v::vs) ((tk,tv)::trs):=fun pins s σ H Q I h=>
 pairTrees_cons_walk (thn (hk pins s σ H _ I h) fun u s1 ⟨x,H1,I1,rx,q1⟩=>thn (hv pins s1 σ H1 _ I1 q1) fun w2 s2 ⟨y,H2,I2,ry,q2⟩=>
  thn (hr pins s2 σ H2 _ I2 q2) fun ws s3 ⟨ps,H3,I3,rel,q3⟩=>⟨(x,y)::ps,H3,I3,.cons ⟨rx,ry⟩ rel,q3⟩)
def za2 (kvs more:List (Key×V)):List (Key×V):=more.foldl (fun acc kv=>zbz acc kv.1 kv.2) kvs
theorem KV.merge:∀ {more:List (Key×V)} {rs:List (Key×Value)} {kvs:List (Key×V)} {vs:List (Key×Value)},KV more rs->KV kvs vs->KV (za2 kvs more) (merged vs rs):=by
 intro more rs kvs vs r
 unfold KV at r
 induction r generalizing kvs vs with
 | nil=>intro q;exact q
 | @cons p q ps qs h t ih=>
  intro r0
  have e:KV (zbz kvs p.1 p.2) (stored vs q.1 q.2):=by
   have:=r0.put p.1 h.2
   rw [<- h.1];exact this
  exact ih e
theorem uL:∀ (more kvs:List (Key×V)),(za2 kvs more).length<=kvs.length+more.length
 | [],kvs=>by show kvs.length<=kvs.length+0;lia
 | p::r,kvs=>by
  have h1:=uL r (zbz kvs p.1 p.2)
  have h2:=uw kvs p.1 p.2
  show (za2 (zbz kvs p.1 p.2) r).length<=_
  rw [List.length_cons];lia
theorem zbo {P:Program}{w:World}:∀ {kvs:List (Key×V)} {ws:List (Value×Value)},VV (kvs.map fun kv=>(kV kv.1,kv.2)) ws->∃ rs,Carries (zQ P w) ws rs/\KV kvs rs
 | [],_,r=>by rw [List.map_nil] at r;cases r;exact ⟨[],True.intro,.nil⟩
 | p::kvs,_,r=>by
  rw [List.map_cons] at r
  cases r with
  | @cons a b as bs h t=>
   obtain ⟨rs,c,q⟩:=zbo (P:=P) (w:=w) t
   obtain ⟨b1,b2⟩:=b
   exact ⟨(p.1,b2)::rs,⟨ze4 h.1,rfl,c⟩,.cons ⟨rfl,h.2⟩ q⟩
def zny (trs:List (TE×TE)):TE:=fun σ H Q=>∀ p,H p=none->zhm trs σ (upd H p (.dK [])) fun ps H2=>H2 p=some (.dK [])/\∃ kvs:List (Key×V),ps=kvs.map (fun kv=>(kV kv.1,kv.2))/\kvs.length<=15/\Q (.ref p) (upd H2 p (.dK (za2 [] kvs)))
theorem zkF {X:Cx}{pos:Pos}{keys:List (Option Expr)}{values:List Expr}{trs:List (TE×TE)}(h:PPs X pos keys values trs)(hall:keys.all (·.isSome)=true)(hl:keys.length=values.length)(h0:keys≠[])
  (h15:keys.length<=15):PE X (.Dict keys values pos) (zny trs):=by
 intro pins s σ H Q I q
 have hn:=I.hok.fresh (Nat.le_refl s.heap.objs.size)
 have I1:=I.laid (a:=s.heap.objs.size) (o:=.dK []) (h':=s.heap.push { cls:=.type "dict",data:=.dict #[] }) (t':=s.toks) (fun _ _ q=>Heap.get?_push_of_some _ q) (Nat.le_refl _) (zh2 s.heap I.big)
 refine wpAny_Dict_walk (knd:=zQ X.prog X.w) hall hl h0 h15 (thn (h pins _ σ _ _ I1 (q _ hn)) fun ws s2 ⟨ps,H2,I2,rel,e,kvs,ep,lk,q2⟩=>?_)
 subst ep
 obtain ⟨rs,c,rk⟩:=zbo (P:=X.prog) (w:=X.w) rel
 obtain ⟨z,hd,vs0,r0,dd⟩:=zlP I2.hok e
 cases r0
 refine ⟨rs,c,dd,fun h' dd' hs=>⟨.ref s.heap.objs.size,_,?_,rfl,q2⟩⟩
 have hz:(za2 [] kvs).length<=sizeLine:=by
  have h1:=uL kvs []
  rw [List.length_nil] at h1
  rw [sizeLine_eq];lia
 have he:∃ q,h'.get? s.heap.objs.size=some q:=let ⟨q,_,_,hq,_⟩:=dd';⟨q,hq⟩
 exact zds I2 (by rw [e];exact True.intro) hs he (zji hz hd (rk.merge .nil) dd')
structure M2 (X:Cx)(o:Expr)(m:Str)(apos:Pos)(e f:Expr)(cpos:Pos):Prop where
 base:attributeBase o m X.env (eval o X.env)=eval o X.env
 few:((backTo cpos (starEach [e,f] X.env)).all (fun x=>!x.1)&&(backToKw cpos (keywordEach [] X.env)).all (fun x=>x.1.isSome)
  && decide (([e,f]:List Expr).length+([]:List Keyword).length+(if ([]:List Keyword).isEmpty then 0 else 1)<30))=true
 line:(apos.endLine==cpos.line)=true
 trees:backTo cpos (starEach [e,f] X.env)=[(false,eval e X.env),(false,eval f X.env)]
def IsD (H:Hp)(a:Addr):Prop:=(∃ kvs,Rd H a (.dK kvs))\/∃ kvs,Rd H a (.dT kvs)
theorem zl0 {X:Cx}{pins:List (Addr×Obj)}{σ:St}{H:Hp}{s:Shared}{a:Addr}(I:Inv X pins σ H s)(d:IsD H a) :
  s.TypeIs (.ref a) "dict" /\ (∀ b,Value.ref a = .ref b->∃ ob,s.heap.get? b=some ob/\ob.dict=none)/\(a==sysModules)=false:=by
 rcases d with ⟨kvs,e⟩ | ⟨kvs,e⟩
 ·obtain ⟨_,hd,vs,_,dd⟩:=zeY I.hok e
  refine ⟨dd.typeIs,fun b q=>?_,hd⟩
  cases q
  obtain ⟨ob,_,_,h1,h2,_⟩:=dd
  exact ⟨ob,h1,h2.2.1⟩
 ·obtain ⟨_,hd,xs,_,dd⟩:=ze0 I.hok e
  refine ⟨dd.typeIs,fun b q=>?_,hd⟩
  cases q
  obtain ⟨ob,_,_,h1,h2,_⟩:=dd
  exact ⟨ob,h1,h2.2.1⟩
section
variable {X:Cx}{pins:List (Addr×Obj)}{σ:St}{H:Hp}{s:Shared}{a:Addr}{y d:V}{u r:Value}{o:Option V}{A:Around}{E:Value->Shared->Prop}
theorem zlM {Q:Value->Shared->Prop}(hu:A.units+1<cLine)(I:Inv X pins σ H s)(g:zco H a y o)(ry:zX y u)(rd:zX d r)(h:∀ w' s',Inv X pins σ H s'->zX (o.getD d) w'->Q w' s') :
  wpAny (model X.prog X.w) A (call (.builtin "dict.get") [.ref a,u,r]) Q E s:=by
 rcases g with ⟨kvs,k,e,ey,l⟩ | ⟨kvs,k,b,e,ey,eb,l⟩
 ·subst ey
  obtain ⟨z,hd,vs,rel,dd⟩:=zeY I.hok e
  refine call_meetsIn PySem.F.slot_dict_get dd.typeIs PySem.F.entry_dict_get (PySem.F.args_dict_get_3 _ _ _) (meets_dict_get_default (zQ X.prog X.w) a (ze4 ry) hd r) ⟨_,dd.mapOf,h _ _ (I.tok _) ?_⟩
  rw [l]
  exact (rel.val k).getD rd
 ·subst ey
  cases (show u=Value.ref b from ry)
  obtain ⟨z,hd,xs,rel,dd⟩:=ze0 I.hok e
  refine call_meetsIn PySem.F.slot_dict_get dd.typeIs PySem.F.entry_dict_get (PySem.F.args_dict_get_3 _ _ _) (meetsH_dict_get_default (tupleKind (zQ X.prog X.w)) a b hd r) ⟨tupleKind_room_in1 hu,k,xs,zcH I.hok eb,dd,h _ _ (I.tok _) ?_⟩
  rw [l]
  exact (rel.val k).getD rd
end
def znx (td ty tx:TE):TE:=fun σ H Q=>td σ H fun x H1=>∃ a,x = .ref a/\IsD H1 a/\ty σ H1 fun y H2=>tx σ H2 fun z H3=>∃ o,zco H3 a y o/\Q (o.getD z) H3
section
variable {X:Cx}{o e f:Expr}{apos cpos:Pos}{td ty tx:TE}
theorem ziy (hu:X.A.units+1<cLine)(ho:PE X o td)(he:PE X e ty)(hf:PE X f tx)(m:M2 X o "get" apos e f cpos):PE X (.Call (.Attribute o "get" apos) [e,f] [] cpos) (znx td ty tx):=by
 intro pins s σ H Q I h
 refine wpAny_Call_method m.base m.few m.line PySem.F.plainAttrs_dict PySem.F.slot_dict_get PySem.F.type_dict_get (thn (ho pins s σ H _ I h) fun u s1 ⟨x,H1,I1,rx,a,ex,d,q1⟩=>?_)
 subst ex
 obtain rfl:u=Value.ref a:=rx
 obtain ⟨t1,t2,_⟩:=zl0 I1 d
 refine ⟨t1,t2,?_⟩
 rw [m.trees]
 refine Calls.callWith_builtin rfl (Calls.evalArgs_plain (Calls.spliced_cons (thn (he pins s1 σ H1 _ I1 q1) fun iv s2 ⟨y,H2,I2,ry,q2⟩=>
  Calls.spliced_cons (thn (hf pins s2 σ H2 _ I2 q2) fun fv s3 ⟨z,H3,I3,rz,ov,g,q3⟩=>Calls.spliced_nil ?_))))
 exact zlM hu I3 g ry rz fun w' s4 I4 rw'=>⟨_,H3,I4,rw',q3⟩
end
section
variable {X:Cx}{pins:List (Addr×Obj)}{σ:St}{H:Hp}{s:Shared}{a:Addr}{kvs:List (Key×V)}{A:Around}{E:Value->Shared->Prop}
end
section
variable {X:Cx}{pins:List (Addr×Obj)}{σ:St}{H:Hp}{s:Shared}{a:Addr}{y:V}{u:Value}{A:Around}{E:Value->Shared->Prop}
end
end L2
namespace HT
open PySem PyProof.Rows
def lexLt:List Int->List Int->Bool
 | [],[]=>false
 | [],_::_=>true
 | _::_,[]=>false
 | x::xs,y::ys=>if x=y then lexLt xs ys else decide (x<y)
section
open PySem.SeqAt
open PySem.AutoSeq1 (wpAny_loadPart')
open PySem.MeetsSeq PySem.MeetsSeq2 PySem.MeetsSeq3
end
section
variable {prog:Program}{w:World}{A:Around}{E:Value->Shared->Prop}{s:Shared}
theorem cat_tup {t b:Addr}{vs ws:List Value}{Q:Value->Shared->Prop}(ht:IsTup s.heap t vs.toArray)(hb:IsTup s.heap b ws.toArray)(hv:vs≠[])
  (h1:ws=[]->Q (.ref t) s) (h2:ws≠[]->Q (.ref s.heap.objs.size) { s with heap:=s.heap.push { cls:=.type "tuple",data:=.seq (vs++ws).toArray } })
  (hsz:vs.length+ws.length<=sizeLine):wpAny (model prog w) A (binaryOp .Add (.ref t) (.ref b)) Q E s:=by
 obtain ⟨⟨cls,dd,data,sl⟩,ho,hc,n,hd⟩:=id ht
 obtain ⟨⟨cls2,dd2,data2,sl2⟩,ho2,hc2,n2,hd2⟩:=id hb
 simp only at hc hd hc2 hd2
 subst hc hd hc2 hd2
 have e:vs.toArray++ws.toArray=(vs++ws).toArray:=by simp
 by_cases hw:ws=[]
 ·exact concat_meets ⟨_,ho,rfl⟩ ⟨_,ho2,rfl⟩ noFill_tuple_add seq_tuple_add PySem.F.slot_tuple_add PySem.F.entry_tuple_add (PySem.F.args_tuple_add_2 _ _)
   (tuple_addW1 t b vs.toArray ws.toArray n n2 dd dd2 sl sl2 (by simpa using hv) (by simp [hw])) ⟨ho,ho2,h1 hw⟩
 ·refine concat_meets ⟨_,ho,rfl⟩ ⟨_,ho2,rfl⟩ noFill_tuple_add seq_tuple_add PySem.F.slot_tuple_add PySem.F.entry_tuple_add (PySem.F.args_tuple_add_2 _ _)
   (tuple_addW2 t b vs.toArray ws.toArray n n2 dd dd2 sl sl2 (by simpa using hv) (by simpa using hw) (by rw [List.size_toArray,List.size_toArray];exact hsz)) ⟨ho,ho2,?_⟩
  rw [e]
  exact h2 hw
def sIx (n d:Nat):Option Int->Nat
 | none=>d
 | some v=>if v<0 then (v+(n:Int)).toNat else min v.toNat n
theorem sIx_none (n d:Nat):sIx n d none=d:=rfl
theorem sIx_nat (n d k:Nat):sIx n d (some (k:Int))=min k n:=by
 show (if (k:Int)<0 then ((k:Int)+(n:Int)).toNat else min (k:Int).toNat n)=min k n
 rw [if_neg (by lia),Int.toNat_natCast]
theorem znr (n d:Nat)(hd:d<=n)(o:Option Int):sIx n d o<=n:=by
 cases o with
 | none=>exact hd
 | some v=>
  show (if v<0 then (v+(n:Int)).toNat else min v.toNat n)<=n
  by_cases hv:v<0
  ·rw [if_pos hv];lia
  ·rw [if_neg hv];exact Nat.min_le_right _ _
theorem zfI (v:Int)(n d:Nat):(if v<0 then max (v+(n:Int)) 0 else min v (n:Int))=((sIx n d (some v):Nat):Int):=by
 show (if v<0 then max (v+(n:Int)) 0 else min v (n:Int))=(((if v<0 then (v+(n:Int)).toNat else min v.toNat n):Nat):Int)
 by_cases hv:v<0
 ·simp only [if_pos hv];lia
 ·simp only [if_neg hv];lia
theorem zeU (lo hi:Option Int)(n:Nat):Builtin.Slice.sliceAdjust lo hi 1 (n:Int)=(((sIx n 0 lo:Nat):Int),((sIx n n hi:Nat):Int)):=by
 have h1:¬ ((1:Int)<0):=by lia
 unfold Builtin.Slice.sliceAdjust
 simp only [h1,if_false]
 refine Prod.ext ?_ ?_
 ·cases lo with
  | none=>rfl
  | some v=>exact zfI v n 0
 ·cases hi with
  | none=>rfl
  | some v=>exact zfI v n n
theorem zfa (i j:Nat):Builtin.Slice.slicePlaces (i:Int) (j:Int) 1=j - i:=by
 unfold Builtin.Slice.slicePlaces
 have h1:(1:Int) > 0:=by lia
 simp only [h1,if_true,Int.ediv_one]
 split <;> lia
theorem zbC {v:Value}{o:Option Int}{Q:Option Int->Shared->Prop}(p:IsPart v o)(h:Q o s):wpAny (model prog w) A (Builtin.Slice.slicePartIndex v) Q E s:=by
 cases p with
 | none=>exact slicePart_none h
 | int i t=>exact slicePart_int h
theorem xQ {sl:Addr}{vl vu:Value}{lo hi:Option Int}{n:Nat}{Q:Int×Int×Nat->Shared->Prop}(hs:s.heap.IsSliceOf sl vl vu .none)(pl:IsPart vl lo)(pu:IsPart vu hi)
  (h:Q (((sIx n 0 lo:Nat):Int),1,sIx n n hi - sIx n 0 lo) s):wpAny (model prog w) A (Builtin.Slice.sliceApplied (.ref sl) (pure (n:Int))) Q E s:=by
 obtain ⟨os,hos,hcs,hds⟩:=id hs
 unfold Builtin.Slice.sliceApplied Builtin.Slice.sliceFields
 refine wpAny_bind (wpAny_bind (wpAny_field hos hds (x:=vl) rfl (wpAny_bind (wpAny_field hos hds (x:=vu) rfl (wpAny_bind (wpAny_field hos hds (x:=.none) rfl (wpAny_pure ?_)))))))
 refine wpAny_bind (slicePart_none ?_)
 show wpAny _ _ (if ((1:Int)==0)=true then _ else _) _ _ s
 rw [if_neg (by decide)]
 refine wpAny_bind (zbC pl (wpAny_bind (zbC pu (wpAny_bind (wpAny_pure ?_)))))
 show wpAny _ _ (match Builtin.Slice.sliceAdjust lo hi 1 (n:Int) with | (lo,hi)=>pure (lo,(1:Int),Builtin.Slice.slicePlaces lo hi 1)) _ _ s
 rw [zeU lo hi n]
 show wpAny _ _ (pure (((sIx n 0 lo:Nat):Int),(1:Int),Builtin.Slice.slicePlaces ((sIx n 0 lo:Nat):Int) ((sIx n n hi:Nat):Int) 1)) _ _ s
 rw [zfa]
 exact wpAny_pure h
theorem ziD (xs:Array Value)(i k:Nat):((List.range k).filterMap fun (m:Nat)=>xs[((i:Int)+(m:Int) * 1).toNat]?).toArray=((xs.toList.drop i).take k).toArray:=by
 have e:(fun (m:Nat)=>xs[((i:Int)+(m:Int) * 1).toNat]?)=fun m=>xs[i+m]?:=by
  funext m
  have:((i:Int)+(m:Int) * 1).toNat=i+m:=by lia
  rw [this]
 rw [e]
 have:=pick_run xs i k
 rw [List.filterMap_map] at this
 have e2:((fun x=>xs[x]?) ∘ fun x=>i+x)=fun m=>xs[i+m]?:=rfl
 rw [e2] at this
 rw [this]
theorem getItem_tuple_cut {t sl:Addr}{items:Array Value}{vl vu:Value}{lo hi:Option Int}{Q:Value->Shared->Prop}(ht:IsTup s.heap t items)(hs:s.heap.IsSliceOf sl vl vu .none)(pl:IsPart vl lo)(pu:IsPart vu hi)
  (hw:¬ (sIx items.size 0 lo=0/\sIx items.size items.size hi=items.size))
  (h:Q (.ref s.heap.objs.size) { s with heap:=s.heap.push { cls:=.type "tuple",data:=.seq ((items.toList.drop (sIx items.size 0 lo)).take (sIx items.size items.size hi - sIx items.size 0 lo)).toArray } })
  (hsz:items.size<=sizeLine):wpAny (model prog w) A (getItem (.ref t) (.ref sl)) Q E s:=by
 have htake:sizeOk (.seq ((items.toList.drop (sIx items.size 0 lo)).take (sIx items.size items.size hi - sIx items.size 0 lo)).toArray):=by
  show ((items.toList.drop (sIx items.size 0 lo)).take (sIx items.size items.size hi - sIx items.size 0 lo)).toArray.size<=sizeLine
  rw [List.size_toArray,List.length_take,List.length_drop,Array.length_toList]
  lia
 have hj:sIx items.size items.size hi<=items.size:=znr _ _ (Nat.le_refl _) hi
 obtain ⟨os,hos,hcs,hds⟩:=id hs
 have hTs:s.TypeIs (.ref sl) "slice" := ⟨os,hos,hcs⟩
 unfold getItem
 try with_reducible refine wpAny_holding ?_
 first | refine wpAny_bind (wpAny_pure ?_) | skip
 refine wpAny_bind (wpAny_sequenceKey ht.typeIs (by decide) ?_)
 refine wpAny_bind (wpAny_callSpecial?_slot (name:=Str.ofString "__getitem__") ht.typeIs PyProof.Rows.slot_tuple_getitem
  (wpAny_call_entry PyProof.Rows.slot_tuple_getitem ht.typeIs entry_tuple_getitem ?_ (args_tuple_getitem _ _)))
 show wpAny _ _ (Builtin.Tuple.tupleItemsOf (.ref t) >>= _) _ _ s
 refine wpAny_bind (tupleItemsOf_ ht ?_)
 refine wpAny_bind (wpAny_typeOf hTs ?_)
 rw [if_pos (by decide)]
 refine wpAny_bind (xQ hs pl pu ?_)
 have hno:¬ ((((sIx items.size 0 lo:Nat):Int)==0&&(1:Int)==1&&(sIx items.size items.size hi - sIx items.size 0 lo)==items.size)=true):=by
  intro q
  rw [Bool.and_eq_true,Bool.and_eq_true] at q
  have q1:((sIx items.size 0 lo:Nat):Int)=0:=eq_of_beq q.1.1
  have q2:sIx items.size items.size hi - sIx items.size 0 lo=items.size:=eq_of_beq q.2
  exact hw ⟨by lia,by lia⟩
 show wpAny _ _ (if (((sIx items.size 0 lo:Nat):Int)==0&&(1:Int)==1&&(sIx items.size items.size hi - sIx items.size 0 lo)==items.size)=true then _ else _) _ _ s
 rw [if_neg hno,ziD]
 first
  | exact wpAny_bind (m:=Builtin.Tuple.tupleExact _) (wpAny_newObj_type (wpAny_pure ⟨_,rfl,wpAny_pure h⟩) htake)
  | exact wpAny_bind (m:=Builtin.Tuple.tupleExact _) (wpAny_newObj_type (wpAny_bind (wpAny_pure (wpAny_pure ⟨_,rfl,wpAny_pure h⟩))) htake)
  | exact wpAny_bind (wpAny_bind (m:=Builtin.Tuple.tupleExact _) (wpAny_newObj_type (wpAny_pure (wpAny_pure ⟨_,rfl,wpAny_pure h⟩)) htake))
  | exact wpAny_bind (wpAny_bind (m:=Builtin.Tuple.tupleExact _) (wpAny_newObj_type (wpAny_pure ⟨_,rfl,wpAny_pure h⟩) htake))
end
end HT
namespace L2
open PySem PySem.Spec PyProof.Rows
abbrev TO:=St->Hp->(Option Int->Hp->Prop)->Prop
def PO (X:Cx)(e:Option Expr)(t:TO):Prop:=
 ∀ (pins:List (Addr×Obj)) (s:Shared) (σ:St) (H:Hp) (Q:Option Int->Hp->Prop),Inv X pins σ H s->t σ H Q->
  wpAny (model X.prog X.w) X.A (evalPart e X.env) (fun u s'=>∃ o H',Inv X pins σ H' s'/\IsPart u o/\Q o H') X.xe s
def zhl:TO:=fun _ H Q=>Q none H
def znF (t:TE):TO:=fun σ H Q=>t σ H fun x H1=>∃ i,x = .int i/\Q (some i) H1
section
variable {X:Cx}{e:Expr}{te:TE}{lo hi:Option Expr}{tl th:TO}{pos p2:Pos}
theorem zkO:PO X none zhl:=by
 intro pins s σ H Q I h
 rw [evalPart_none]
 exact wpAny_pure ⟨none,H,I,.none,h⟩
theorem zkP (h:PE X e te):PO X (some e) (znF te):=by
 intro pins s σ H Q I hw
 rw [evalPart_some]
 refine thn (h pins s σ H _ I hw) fun u s1 ⟨x,H1,I1,r1,q1⟩=>?_
 obtain ⟨i,rfl,q⟩:=q1
 obtain ⟨t,rfl⟩:=r1
 exact ⟨some i,H1,I1,.int i t,q⟩
def SlR (X:Cx)(r:V->Option Int->Option Int->Hp->VK->Prop):Prop:=
 ∀ (pins:List (Addr×Obj)) (s:Shared) (σ:St) (H:Hp) (x:V) (v vl vu:Value) (lo hi:Option Int) (sl:Addr) (Q:VK),Inv X pins σ H s->zX x v->s.heap.IsSliceOf sl vl vu .none->IsPart vl lo->IsPart vu hi->r x lo hi H Q->
  ∃ T id,typeLookup (.type T) "__getitem__" = pure (some (.builtin id))/\s.TypeIs v T/\wpAny (model X.prog X.w) X.A (getItem v (.ref sl)) (EP X pins σ Q) X.xe s
def tSl (r:V->Option Int->Option Int->Hp->VK->Prop)(te:TE)(tl th:TO):TE:=fun σ H Q=>te σ H fun x H1=>tl σ H1 fun l H2=>th σ H2 fun u H3=>r x l u H3 Q
theorem ziB {r:V->Option Int->Option Int->Hp->VK->Prop}(hr:SlR X r)(he:PE X e te)(hl:PO X lo tl)(hu:PO X hi th):PE X (.Subscript e (.Slice lo hi none p2) pos) (tSl r te tl th):=by
 intro pins s σ H Q I h
 refine Subscript_ (thn (he pins s σ H _ I h) fun v s1 ⟨x,H1,I1,r1,q1⟩=>?_)
 refine wpAny_Slice (thn (hl pins s1 σ H1 _ I1 q1) fun vl s2 ⟨l,H2,I2,pl,q2⟩=>thn (hu pins s2 σ H2 _ I2 q2) fun vu s3 ⟨u,H3,I3,pu,q3⟩=>?_)
 rw [evalPart_none]
 refine wpAny_pure ?_
 have I4:Inv X pins σ H3 { s3 with heap:=s3.heap.push { cls:=.type "slice",data:=.fields #[vl,vu,.none] } }:=I3.kept (t':=s3.toks) fun b ob q=>Heap.get?_push_of_some _ q
 obtain ⟨T,id,hT,ht,hg⟩:=hr pins { s3 with heap:=s3.heap.push { cls:=.type "slice",data:=.fields #[vl,vu,.none] } } σ H3 x v vl vu l u s3.heap.objs.size Q I4 r1 (Heap.IsSliceOf.new ..) pl pu q3
 show wpAny (model X.prog X.w) X.A (subscriptTail e (.Slice lo hi none p2) v (.ref s3.heap.objs.size)) (EP X pins σ Q) X.xe { s3 with heap:=s3.heap.push { cls:=.type "slice",data:=.fields #[vl,vu,.none] } }
 exact tail_any (ops:=[.ref s3.heap.objs.size,v]) ht hT hg (by with_unfolding_all rfl)
def zbf (xs:List V)(lo hi:Option Int):List V:=(xs.drop (HT.sIx xs.length 0 lo)).take (HT.sIx xs.length xs.length hi - HT.sIx xs.length 0 lo)
theorem zaM (xs:List V)(lo hi:Option Int):(zbf xs lo hi).length<=xs.length:=by
 unfold zbf
 rw [List.length_take,List.length_drop]
 lia
def rSlT (K:PySem.W.Frag):V->Option Int->Option Int->Hp->VK->Prop:=fun x lo hi H Q=>∃ a xs,x = .ref a/\SqT K H a xs/\
 ¬ (HT.sIx xs.length 0 lo=0/\HT.sIx xs.length xs.length hi=xs.length)/\∀ p,H p=none->Q (.ref p) (upd H p (.tup (zbf xs lo hi)))
theorem zns:SlR X (rSlT X.K):=by
 intro pins s σ H x v vl vu lo hi sl Q I rx hs pl pu h
 obtain ⟨a,xs,rfl,hx,hw,q⟩:=h
 cases rx
 obtain ⟨its,r,ht,hz⟩:=I.tuple hx
 have hlen:its.toArray.size=xs.length:=by rw [List.size_toArray];exact r.length.symm
 refine ⟨"tuple",_,PyProof.Rows.slot_tuple_getitem.lookup,ht.typeIs,?_⟩
 refine HT.getItem_tuple_cut ht hs pl pu (by rw [hlen];exact hw) ?_ (by rw [hlen];exact hz)
 rw [hlen]
 refine ⟨.ref s.heap.objs.size,_,I.laid (t':=s.toks) (o:=.tup (zbf xs lo hi)) (fun b ob q=>Heap.get?_push_of_some _ q) (Nat.le_refl _) ?_,rfl,q _ (I.hok.fresh (Nat.le_refl _))⟩
 exact ⟨Nat.le_trans (zaM xs lo hi) hz,_,(r.drop (HT.sIx xs.length 0 lo)).take (HT.sIx xs.length xs.length hi - HT.sIx xs.length 0 lo),ui.new _ _⟩
def zpk (K:PySem.W.Frag):R2:=fun x y H Q=>∃ a b xs ys,x = .ref a/\y = .ref b/\SqT K H a xs/\SqT K H b ys/\xs≠[]/\xs.length+ys.length<=sizeLine/\
 (ys=[]->Q (.ref a) H)/\(ys≠[]->∀ p,H p=none->Q (.ref p) (upd H p (.tup (xs++ys))))
theorem zY.nil_iff {xs:List V}{us:List Value}(r:zY xs us):us=[]↔xs=[]:=by
 cases r with
 | nil=>simp
 | cons _ _=>simp
theorem zkv:OpR X (binaryOp .Add) (zpk X.K):=by
 intro pins s σ H x y v u Q I rx ry h
 obtain ⟨a,b,xs,ys,rfl,rfl,ha,hb,hx,hz,q1,q2⟩:=h
 cases rx
 cases ry
 obtain ⟨its,r1,p1,_⟩:=I.tuple ha
 obtain ⟨its2,r2,p2,_⟩:=I.tuple hb
 refine HT.cat_tup p1 p2 (fun z=>hx (r1.nil_iff.mp z)) (fun z=>⟨.ref a,H,I,rfl,q1 (r2.nil_iff.mp z)⟩) (fun z=>?_) (by rw [<- r1.length,<- r2.length];exact hz)
 refine ⟨.ref s.heap.objs.size,_,I.laid (t':=s.toks) (o:=.tup (xs++ys)) (fun b ob q=>Heap.get?_push_of_some _ q) (Nat.le_refl _) ?_,rfl,q2 (fun w=>z (r2.nil_iff.mpr w)) _ (I.hok.fresh (Nat.le_refl _))⟩
 exact ⟨by rw [List.length_append];exact hz,_,r1.append r2,ui.new _ _⟩
end
def ixN (n:Nat)(i:Int):Option Nat:=if 0<=i then (if i<n then some i.toNat else none) else if -(n:Int)<=i then some (i+n).toNat else none
def atI {α:Type}(xs:List α)(i:Int):Option α:=(ixN xs.length i).bind fun j=>xs[j]?
theorem zj5 {n:Nat}{i:Int}{j:Nat}(h:ixN n i=some j):seqIndex? i n=some j/\j<n/\-(n:Int)<=i/\i<n:=by
 unfold ixN at h
 by_cases h0:0<=i
 ·rw [if_pos h0] at h
  by_cases h1:i<n
  ·rw [if_pos h1] at h
   have e:i.toNat=j:=Option.some.inj h
   exact ⟨by rw [seqIndex_of h0 h1,e],by lia,by lia,h1⟩
  ·rw [if_neg h1] at h;cases h
 ·rw [if_neg h0] at h
  by_cases h1:-(n:Int)<=i
  ·rw [if_pos h1] at h
   have e:(i+n).toNat=j:=Option.some.inj h
   exact ⟨by rw [seqIndex_neg (by lia) h1,e],by lia,h1,by lia⟩
  ·rw [if_neg h1] at h;cases h
theorem zfE {α:Type}{xs:List α}{i:Int}{v:α}(h:atI xs i=some v):∃ j,seqIndex? i xs.length=some j/\xs[j]?=some v/\j<xs.length/\-(xs.length:Int)<=i/\i<xs.length:=by
 unfold atI at h
 cases e:ixN xs.length i with
 | none=>rw [e] at h;cases h
 | some j=>
  rw [e] at h
  obtain ⟨h1,h2,h3,h4⟩:=zj5 e
  exact ⟨j,h1,h,h2,h3,h4⟩
theorem zdk {α:Type}{xs:List α}{j:Nat}{v:α}(h:xs[j]?=some v):atI xs (j:Int)=some v:=by
 have hj:j<xs.length:=(List.getElem?_eq_some_iff.mp h).1
 have e:ixN xs.length (j:Int)=some j:=by
  unfold ixN
  rw [if_pos (by lia),if_pos (by lia)];simp
 unfold atI;rw [e];exact h
def zdh (b:Expr):Prop:=∀ o i,subscripted b false o i=operate [o,i] (getItem o i)
def IxR (X:Cx)(r:R2):Prop:=
 ∀ (value slice:Expr) (pins:List (Addr×Obj)) (s:Shared) (σ:St) (H:Hp) (x y:V) (v u:Value) (Q:VK),Inv X pins σ H s->zX x v->zX y u->r x y H Q->
  subscripted slice false v u=operate [v,u] (getItem v u)->wpAny (model X.prog X.w) X.A (subscriptTail value slice v u) (EP X pins σ Q) X.xe s
def MtR (X:Cx)(id:String)(r:V->List V->Hp->VK->Prop):Prop:=
 ∀ (pins:List (Addr×Obj)) (s:Shared) (σ:St) (H:Hp) (x:V) (xs:List V) (v:Value) (us:List Value) (Q:VK),Inv X pins σ H s->zX x v->zY xs us->r x xs H Q->
  wpAny (model X.prog X.w) X.A (call (.builtin id) (v::us)) (EP X pins σ Q) X.xe s
section
variable {X:Cx}{a b:Expr}{ta tb:TE}{pos:Pos}
theorem zpa {r:R2}(hr:IxR X r)(ha:PE X a ta)(hb:PE X b tb)(hs:zdh b):PE X (.Subscript a b pos) (tOp r ta tb):=by
 intro pins s σ H Q I h
 exact Subscript_ (zod ha hb I h fun v u s2 x y H2 I2 rx ry q=>hr a b pins s2 σ H2 x y v u Q I2 rx ry q (hs _ _))
def zn3 (K:PySem.W.Frag):R2:=fun x y H Q=>∃ p xs i v,x = .ref p/\y = .int i/\SqL K H p xs/\atI xs i=some v/\Q v H
def zn4 (K:PySem.W.Frag):R2:=fun x y H Q=>∃ p xs i v,x = .ref p/\y = .int i/\SqT K H p xs/\atI xs i=some v/\Q v H
theorem zj6:IxR X (zn3 X.K):=by
 intro value slice pins s σ H x y v u Q I rx ry h hs
 obtain ⟨p,xs,i,z,rfl,rfl,hq,he,q⟩:=h
 cases rx
 obtain ⟨t,rfl⟩:=ry
 obtain ⟨its,r,pl,hz⟩:=I.list hq
 obtain ⟨j,h1,h2,h3,h4,h5⟩:=zfE he
 obtain ⟨w,ew,rw'⟩:=r.get h2
 have hl:=r.length
 have hn:=zgC
 have fin:EP X pins σ Q w s:=⟨z,H,I,rw',q⟩
 by_cases h0:0<=i
 ·have hj:i.toNat=j:=by
   rw [seqIndex_of h0 h5] at h1
   exact Option.some.inj h1
  exact item_listR pl.isList h0 (by lia) (by rw [hj];simpa using ew) fin hs
 ·have hj:(i+(its.toArray.size:Int)).toNat=j:=by
   rw [seqIndex_neg (by lia) h4] at h1
   rw [List.size_toArray,<- hl]
   exact Option.some.inj h1
  exact subscriptTail_builtinR (x:=w) pl.isList.typeIs slot_list_getitem.lookup
   (wpAny_getItem_list_neg (Q:=fun r s'=>r=w/\EP X pins σ Q r s') pl.isList (by lia) (by rw [List.size_toArray] <;> lia) (by lia) (by rw [hj];simpa using ew) ⟨rfl,fin⟩) hs
theorem zl2:IxR X (zn4 X.K):=by
 intro value slice pins s σ H x y v u Q I rx ry h hs
 obtain ⟨p,xs,i,z,rfl,rfl,hq,he,q⟩:=h
 cases rx
 obtain ⟨t,rfl⟩:=ry
 obtain ⟨its,r,pl,hz⟩:=I.tuple hq
 obtain ⟨j,h1,h2,h3,h4,h5⟩:=zfE he
 obtain ⟨w,ew,rw'⟩:=r.get h2
 have hl:=r.length
 have hn:=zgC
 have fin:EP X pins σ Q w s:=⟨z,H,I,rw',q⟩
 exact subscriptTail_builtinR (x:=w) pl.typeIs slot_tuple_getitem.lookup
  (getItem_tuple (j:=j) (Q:=fun r s'=>r=w/\EP X pins σ Q r s') pl (by lia) (by lia) (by rw [List.size_toArray,<- hl];exact h1) (by simpa using ew) ⟨rfl,fin⟩) hs
theorem zc6 (lo hi:Option Int)(n:Nat):(sliceBounds lo hi none n).1=((HT.sIx n 0 lo:Nat):Int)/\(sliceBounds lo hi none n).2.1=((HT.sIx n n hi:Nat):Int)/\(sliceBounds lo hi none n).2.2=1:=by
 refine ⟨?_,?_,rfl⟩
 ·cases lo with
  | none=>simp [sliceBounds,HT.sIx]
  | some i=>
   simp only [sliceBounds,HT.sIx,Option.getD_none,show (1:Int) > 0 by decide,if_true]
   by_cases h:i<0
   ·simp only [h,if_true] <;> lia
   ·simp only [h,if_false] <;> lia
 ·cases hi with
  | none=>simp [sliceBounds,HT.sIx]
  | some i=>
   simp only [sliceBounds,HT.sIx,Option.getD_none,show (1:Int) > 0 by decide,if_true]
   by_cases h:i<0
   ·simp only [h,if_true] <;> lia
   ·simp only [h,if_false] <;> lia
theorem zce (its:List Value)(lo hi:Option Int):slicePick its.toArray lo hi none=((its.drop (HT.sIx its.length 0 lo)).take (HT.sIx its.length its.length hi - HT.sIx its.length 0 lo)).toArray:=by
 obtain ⟨h1,h2,h3⟩:=zc6 lo hi its.toArray.size
 unfold slicePick
 rw [h1,h2,h3]
 simp only [sliceRange_one,pick_run,List.size_toArray] <;> rfl
def rSlL (K:PySem.W.Frag):V->Option Int->Option Int->Hp->VK->Prop:=fun x lo hi H Q=>∃ a xs,x = .ref a/\SqL K H a xs/\∀ p,H p=none->Q (.ref p) (upd H p (.lst (zbf xs lo hi)))
theorem zlc:SlR X (rSlL X.K):=by
 intro pins s σ H x v vl vu lo hi sl Q I rx hs pl pu h
 obtain ⟨a,xs,rfl,hx,q⟩:=h
 cases rx
 obtain ⟨its,r,ht,hz⟩:=I.list hx
 have hlen:=r.length
 refine ⟨"list",_,slot_list_getitem.lookup,ht.isList.typeIs,?_⟩
 refine wpAny_getItem_list_slice ht.isList hs pl pu .none (by simp) ?_ (by rw [List.size_toArray] <;> lia)
 rw [zce,<- hlen]
 refine ⟨.ref s.heap.objs.size,_,I.laid (t':=s.toks) (o:=.lst (zbf xs lo hi)) (fun b ob q=>Heap.get?_push_of_some _ q) (Nat.le_refl _) ?_,rfl,q _ (I.hok.fresh (Nat.le_refl _))⟩
 exact ⟨Nat.le_trans (zaM xs lo hi) hz,_,0,(r.drop (HT.sIx xs.length 0 lo)).take (HT.sIx xs.length xs.length hi - HT.sIx xs.length 0 lo),Heap.get?_push_size _ rfl⟩
def zbM:V->Bool
 | .non=>true
 | .bl _=>true
 | .int _=>true
 | .str _=>true
 | _=>false
def eqV:V->V->Bool
 | .non,.non=>true
 | .bl a,.bl b=>a==b
 | .bl a,.int b=>(if a then 1 else 0)==b
 | .int a,.bl b=>a==(if b then 1 else 0)
 | .int a,.int b=>a==b
 | .str a,.str b=>a==b
 | _,_=>false
theorem zlQ {A:Around}{s:Shared}{y x:V}{u v:Value}(ry:zX y u)(rx:zX x v)(fy:zbM y=true)(fx:zbM x=true):SeqAt.EqAt A s u v (eqV y x):=by
 cases y with
 | non=>
  cases ry
  cases x with
  | non=>cases rx;exact SeqAt.EqAt.same _
  | bl b=>cases rx;exact SeqAt.EqAt.none_bool b
  | int b=>obtain ⟨t,rfl⟩:=rx;exact SeqAt.EqAt.none_int b t
  | str b=>obtain ⟨t,rfl⟩:=rx;exact SeqAt.EqAt.none_str b t
  | _=>exact absurd (show false=true from fx) Bool.false_ne_true
 | bl a=>
  cases ry
  cases x with
  | non=>cases rx;exact SeqAt.EqAt.bool_none a
  | bl b=>cases rx;exact SeqAt.EqAt.bool_bool a b
  | int b=>obtain ⟨t,rfl⟩:=rx;exact SeqAt.EqAt.bool_int a b t
  | str b=>obtain ⟨t,rfl⟩:=rx;exact SeqAt.EqAt.bool_str a b t
  | _=>exact absurd (show false=true from fx) Bool.false_ne_true
 | int a=>
  obtain ⟨t',rfl⟩:=ry
  cases x with
  | non=>cases rx;exact SeqAt.EqAt.int_none a t'
  | bl b=>cases rx;exact SeqAt.EqAt.int_bool a t' b
  | int b=>obtain ⟨t,rfl⟩:=rx;exact SeqAt.EqAt.int_int a t' b t
  | str b=>obtain ⟨t,rfl⟩:=rx;exact SeqAt.EqAt.int_str a t' b t
  | _=>exact absurd (show false=true from fx) Bool.false_ne_true
 | str a=>
  obtain ⟨t',rfl⟩:=ry
  cases x with
  | non=>cases rx;exact SeqAt.EqAt.str_none a t'
  | bl b=>cases rx;exact SeqAt.EqAt.str_bool a t' b
  | int b=>obtain ⟨t,rfl⟩:=rx;exact SeqAt.EqAt.str_int a t' b t
  | str b=>obtain ⟨t,rfl⟩:=rx;exact SeqAt.EqAt.str_str a t' b t
  | _=>exact absurd (show false=true from fx) Bool.false_ne_true
 | _=>exact absurd (show false=true from fy) Bool.false_ne_true
def eqU (x:V)(u:Value):Bool:=match u with
 | .none=>eqV .non x
 | .bool b=>eqV (.bl b) x
 | .int i _=>eqV (.int i) x
 | .str z _=>eqV (.str z) x
 | _=>false
theorem zjj {x y:V}{u:Value}(r:zX y u)(f:zbM y=true):eqU x u=eqV y x:=by
 cases y with
 | non=>cases r;rfl
 | bl b=>cases r;rfl
 | int i=>obtain ⟨t,rfl⟩:=r;rfl
 | str z=>obtain ⟨t,rfl⟩:=r;rfl
 | _=>exact absurd (show false=true from f) Bool.false_ne_true
theorem zdi {x:V}:∀ {xs:List V} {us:List Value},zY xs us->xs.all zbM=true->us.any (eqU x)=xs.any fun y=>eqV y x
 | _,_,.nil,_=>rfl
 | y::xs,u::us,.cons r t,f=>by
  rw [List.all_cons,Bool.and_eq_true] at f
  rw [List.any_cons,List.any_cons,zjj r f.1,zdi t f.2]
theorem zbV {A:Around}{s:Shared}{x:V}{v:Value}(rx:zX x v)(fx:zbM x=true):∀ {xs:List V} {us:List Value},zY xs us->xs.all zbM=true->∀ u∈us,SeqAt.EqAt A s u v (eqU x u)
 | _,_,.nil,_=>fun u hu=>by cases hu
 | y::xs,u::us,.cons r t,f=>fun u' hu=>by
  rw [List.all_cons,Bool.and_eq_true] at f
  rcases List.mem_cons.mp hu with rfl | hu
  ·rw [zjj r f.1];exact zlQ r rx f.1 fx
  ·exact zbV rx fx t f.2 u' hu
def inV (x:V)(xs:List V):Bool:=xs.any fun y=>eqV y x
def rIn (K:PySem.W.Frag)(neg:Bool):R2:=fun x y H Q=>∃ p xs,y = .ref p/\(SqL K H p xs\/SqT K H p xs)/\zbM x=true/\xs.all zbM=true/\Q (.bl (if neg then !inV x xs else inV x xs)) H
theorem zcX:OpR X (compareOp .NotIn) (rIn X.K true):=by
 intro pins s σ H x y v u Q I rx ry h
 obtain ⟨p,xs,rfl,hq,fx,fs,q⟩:=h
 cases ry
 rcases hq with hq | hq
 ·obtain ⟨its,r,pl,hz⟩:=I.list hq
  refine SeqAt.notIn_listAt (eqU x) pl.isList (fun w hw=>zbV rx fx r fs w (by simpa using hw)) ⟨.bl _,H,I,rfl,?_⟩
  rw [show its.toArray.any (eqU x)=its.any (eqU x) by simp,zdi r fs]
  exact q
 ·obtain ⟨its,r,pl,hz⟩:=I.tuple hq
  refine SeqAt.notIn_tupleAt (eqU x) pl (fun w hw=>zbV rx fx r fs w (by simpa using hw)) ⟨.bl _,H,I,rfl,?_⟩
  rw [show its.toArray.any (eqU x)=its.any (eqU x) by simp,zdi r fs]
  exact q
theorem zcw:zbF X (.type "list") (fun xs H Q=>∃ p ys,xs=[.ref p]/\(SqL X.K H p ys\/SqT X.K H p ys)/\∀ l,H l=none->Q (.ref l) (upd H l (.lst ys))):=by
 intro pins s σ H xs us Q I r h
 obtain ⟨p,ys,rfl,hq,q⟩:=h
 obtain ⟨u,rfl,rx⟩:=zcm r
 cases rx
 have fin:∀ (its:List Value),zY ys its->ys.length<=sizeLine->∀ (h':Heap) (c':Nat),(∀ b o',s.heap.get? b=some o'->h'.get? b=some o')->
   h'.get? s.heap.objs.size=some { cls:=.type "list",dict:=none,data:=.seq its.toArray c',slots:=#[] }->EP X pins σ Q (.ref s.heap.objs.size) { s with heap:=h' }:=fun its r' hz h' c' kp e=>
  ⟨.ref s.heap.objs.size,_,I.laid (t':=s.toks) kp (Nat.le_refl _) (show yp X.prog X.w _ h' _ (.lst ys) from ⟨hz,its,c',r',e⟩),rfl,q _ (I.hok.fresh (Nat.le_refl _))⟩
 rcases hq with hq | hq
 ·obtain ⟨its,r',pl,hz⟩:=I.list hq
  have hlen:=r'.length
  obtain ⟨o,ho,hc,n,hd⟩:=pl.isList
  exact call_list_seq p (.inl rfl) ho hc hd (fun h' c' kp e=>fin its r' hz h' c' kp e) (by simp only [List.size_toArray] <;> lia)
 ·obtain ⟨its,r',pl,hz⟩:=I.tuple hq
  have hlen:=r'.length
  obtain ⟨o,ho,hc,n,hd⟩:=pl
  exact call_list_seq p (.inr rfl) ho hc hd (fun h' c' kp e=>fin its r' hz h' c' kp e) (by simp only [List.size_toArray] <;> lia)
theorem zbJ:zbF X (.type "tuple") (fun xs H Q=>∃ p ys,xs=[.ref p]/\((SqL X.K H p ys/\∀ l,H l=none->Q (.ref l) (upd H l (.tup ys)))\/(SqT X.K H p ys/\Q (.ref p) H))):=by
 intro pins s σ H xs us Q I r h
 obtain ⟨p,ys,rfl,h⟩:=h
 obtain ⟨u,rfl,rx⟩:=zcm r
 cases rx
 rcases h with ⟨hq,q⟩ | ⟨hq,q⟩
 ·obtain ⟨its,r',pl,hz⟩:=I.list hq
  have hlen:=r'.length
  refine call_tuple_list pl.isList (fun h' kp=>?_) (by simp only [List.size_toArray] <;> lia)
  have I1:Inv X pins σ H { s with heap:=h' }:=I.kept (t':=s.toks) kp
  have I2:Inv X pins σ (upd H h'.objs.size (.tup ys)) { s with heap:=h'.push { cls:=.type "tuple",data:=.seq its.toArray } }:=
   I1.laid (t':=s.toks) (fun b o e=>Heap.get?_push_of_some _ e) (Nat.le_refl _) (show yp X.prog X.w _ _ _ (.tup ys) from ⟨hz,its,r',ui.new _ _⟩)
  exact ⟨.ref h'.objs.size,_,I2,rfl,q _ (I1.hok.fresh (Nat.le_refl _))⟩
 ·obtain ⟨its,r',pl,hz⟩:=I.tuple hq
  exact call_tuple_same pl ⟨.ref p,H,I,rfl,q⟩
def tyV (K:PySem.W.Frag)(T:String)(x:V)(H:Hp):Prop:=match x with
 | .str _=>T = "str"
 | .int _=>T = "int"
 | .ref p=>(T = "list" /\ ∃ xs,SqL K H p xs)\/(T = "tuple" /\ ∃ o,K.lookup p=some o/\o.cls = .type "tuple" /\ o.dict=none)\/
   (T = "dict" /\ ((∃ kvs,H p=some (.dK kvs))\/∃ kvs,H p=some (.dT kvs)))\/(T = "set" /\ ∃ S n,H p=some (.set S n))
 | _=>False
theorem znJ {pins:List (Addr×Obj)}{σ:St}{H:Hp}{s:Shared}{T:String}{x:V}{v:Value}(I:Inv X pins σ H s)(r:zX x v)(ty:tyV X.K T x H) :
  s.TypeIs v T/\∀ a,v = .ref a->∃ ob,s.heap.get? a=some ob/\ob.dict=none:=by
 cases x with
 | str z=>
  obtain ⟨t,rfl⟩:=r
  cases (show T = "str" from ty)
  exact ⟨typeIs_str s z t,fun _ e=>nomatch e⟩
 | int i=>
  obtain ⟨t,rfl⟩:=r
  cases (show T = "int" from ty)
  exact ⟨typeIs_int s i t,fun _ e=>nomatch e⟩
 | ref p=>
  cases r
  rcases ty with ⟨rfl,xs,hq⟩ | ⟨rfl,o,hk,hc,hd⟩ | ⟨rfl,hk⟩ | ⟨rfl,S,n,hk⟩
  ·obtain ⟨its,_,pl,_⟩:=I.list hq
   refine ⟨pl.isList.typeIs,fun a e=>?_⟩
   cases e
   obtain ⟨o,n,e,c,hd,_⟩:=pl
   exact ⟨o,e,hd⟩
  ·refine ⟨⟨o,I.kIn p o hk,hc⟩,fun a e=>?_⟩
   cases e
   exact ⟨o,I.kIn _ o hk,hd⟩
  ·have z:∃ o,s.heap.get? p=some o/\o.ExactDict:=by
    rcases hk with ⟨kvs,hk⟩ | ⟨kvs,hk⟩
    ·obtain ⟨_,_,_,_,o,_,_,e,ex,_⟩:=I.hok p _ hk
     exact ⟨o,e,ex⟩
    ·obtain ⟨_,_,_,_,o,_,_,e,ex,_⟩:=I.hok p _ hk
     exact ⟨o,e,ex⟩
   obtain ⟨o,e,ex⟩:=z
   refine ⟨⟨o,e,ex.1⟩,fun a e2=>?_⟩
   cases e2
   exact ⟨o,e,ex.2.1⟩
  ·obtain ⟨o,_,_,_,e,ex,_⟩:=I.hok p _ hk
   refine ⟨⟨o,e,ex.1⟩,fun a e2=>?_⟩
   cases e2
   exact ⟨o,e,ex.2.1⟩
 | _=>exact False.elim ty
def tBM (K:PySem.W.Frag)(T:String)(r:V->List V->Hp->VK->Prop)(to:TE)(t:TA):TE:=fun σ H Q=>to σ H fun x H1=>tyV K T x H1/\t σ H1 fun xs H2=>r x xs H2 Q
variable {o e:Expr}{es:List Expr}{to:TE}{t:TA}{name:Str}{apos cpos:Pos}{T id:String}{r:V->List V->Hp->VK->Prop}
theorem zo8 (pa:PlainAttrs T)(slot:Slot T name id)(hty:typeOf (.builtin id)=pure (.type "method_descriptor"))(hm:MtR X id r)(ho:PE X o to)(ha:PA X (e::es) t)
  (hbase:attributeBase o name X.env (eval o X.env)=eval o X.env:=by rfl)
  (hfew:((backTo cpos (starEach (e::es) X.env)).all (fun x=>!x.1)&&(backToKw cpos (keywordEach [] X.env)).all (fun x=>x.1.isSome)
   && decide ((e::es).length+([]:List Keyword).length+(if ([]:List Keyword).isEmpty then 0 else 1)<30))=true:=by rfl)
  (hline:(apos.endLine==cpos.line)=true:=by rfl) (hs:starEach (e::es) X.env=(false,eval e X.env)::starEach es X.env:=by rfl) (hplain:(backTo cpos (starEach es X.env)).any (·.1)=false:=by rfl) :
  PE X (.Call (.Attribute o name apos) (e::es) [] cpos) (tBM X.K T r to t):=by
 intro pins s σ H Q I h
 refine wpAny_Call_method_late hbase hfew hline rfl (thn (ho pins s σ H _ I h) fun v s1 ⟨x,H1,I1,r1,ty,q1⟩=>?_)
 obtain ⟨h1,h2⟩:=znJ I1 r1 ty
 refine ⟨T,id,pa,slot,hty,h1,h2,?_⟩
 have hA:=ha cpos pins s1 σ H1 _ I1 q1
 rw [hs] at hA ⊢
 refine Calls.callWith_builtin (by show (false || (backTo cpos (starEach es X.env)).any (·.1))=false;rw [hplain] <;> rfl) (Calls.evalArgs_plain ?_)
 exact thn hA fun us s2 ⟨vs,H2,I2,r2,q2⟩=>hm pins s2 σ H2 x vs v us Q I2 r1 r2 q2
end
def MtM (X:Cx)(id:String)(r:V->List V->Hp->VK->Prop):Prop:=
 ∀ (pins:List (Addr×Obj)) (s:Shared) (σ:St) (H:Hp) (x:V) (xs:List V) (v:Value) (us:List Value) (Q:VK),Inv X pins σ H s->zX x v->zY xs us->r x xs H Q->
  wpAny (model X.prog X.w) X.A (call (.builtin id) (v::us)) (EP X pins σ Q) X.xe s
theorem zY.one:∀ {x:V} {us:List Value},zY [x] us->∃ u,us=[u]/\zX x u
 | _,_,.cons r .nil=>⟨_,rfl,r⟩
section
variable {X:Cx}{pins:List (Addr×Obj)}{σ:St}{H:Hp}{s:Shared}{l b:Addr}{xs ys zs:List V}
theorem Inv.lset {its its':List Value}{n:Nat}{f:Array Value->Array Value}{t':Nat}(I:Inv X pins σ H s)(hH:H l=some (.lst xs))
  (e:s.heap.get? l=some { cls:=.type "list",data:=.seq its.toArray n }) (hf:f its.toArray=its'.toArray) (hv:zY ys its') (hz:ys.length<=sizeLine) :
  Inv X pins σ (upd H l (.lst ys)) { s with heap:=s.heap.update l (Obj.mapSeq f),toks:=t' }:=by
 have q:=PySem.IsL.update e f
 rw [hf] at q
 refine I.write (x:=l) (e:=l) (by rw [hH];exact trivial) (.inl rfl) (fun b' u hb hu=>(Heap.get?_update_other s.heap (Obj.mapSeq f) (Ne.symm hb)).trans hu) ⟨_,q⟩ ?_
 exact ⟨hz,its',_,hv,q⟩
theorem Inv.lnew {its:List Value}{t':Nat}(I:Inv X pins σ H s)(hv:zY ys its)(hz:ys.length<=sizeLine) :
  Inv X pins σ (upd H s.heap.objs.size (.lst ys)) { s with heap:=s.heap.push { cls:=.type "list",data:=.seq its.toArray },toks:=t' }:=
 I.laid (fun _ _ q=>Heap.get?_push_of_some _ q) (Nat.le_refl _) ⟨hz,its,0,hv,Heap.get?_push_size _ rfl⟩
theorem Inv.fresh (I:Inv X pins σ H s):H s.heap.objs.size=none:=I.hok.fresh (Nat.le_refl _)
theorem Inv.lstM (I:Inv X pins σ H s)(hH:H l=some (.lst xs)):xs.length<=sizeLine/\∃ (its:List Value) (n:Nat),zY xs its/\xs.length=its.length/\s.heap.get? l=some { cls:=.type "list",data:=.seq its.toArray n }:=by
 obtain ⟨z,its,n,r,e⟩:=I.hok l _ hH
 exact ⟨z,its,n,r,r.length,e⟩
end
section
variable {X:Cx}
def zg0:V->List V->Hp->VK->Prop:=fun x vs H Q=>∃ l xs y,x = .ref l/\vs=[y]/\H l=some (.lst xs)/\xs.length<sizeLine/\Q .non (upd H l (.lst (xs++[y])))
theorem uP:MtM X "list.append" zg0:=by
 intro pins s σ H x vs v us Q I rx rv h
 obtain ⟨l,xs,y,rfl,rfl,hH,hz,q⟩:=h
 cases rx
 obtain ⟨u,rfl,ru⟩:=rv.one
 obtain ⟨z,its,n,r,hl,e⟩:=I.lstM hH
 refine call_meets F.slot_list_append ⟨_,e,rfl⟩ F.entry_list_append (F.args_list_append_2 _ _) (PySem.list_append l its.toArray n u (by rw [List.size_toArray];lia)) ⟨e,?_⟩
 refine ⟨.non,_,I.lset (its':=its++[u]) hH e (by simp) (r.append (.cons ru .nil)) ?_,rfl,q⟩
 rw [List.length_append,List.length_singleton]
 lia
def rCat:R2:=fun x y H Q=>∃ l b xs zs,x = .ref l/\y = .ref b/\H l=some (.lst xs)/\H b=some (.lst zs)/\xs.length+zs.length<=sizeLine/\∀ p,H p=none->Q (.ref p) (upd H p (.lst (xs++zs)))
theorem zms:OpR X (binaryOp .Add) rCat:=by
 intro pins s σ H x y v u Q I rx ry h
 obtain ⟨l,b,xs,zs,rfl,rfl,hH,hB,hz,q⟩:=h
 cases rx
 cases ry
 obtain ⟨z,its,n,r,hl,e⟩:=I.lstM hH
 obtain ⟨z2,its2,n2,r2,hl2,e2⟩:=I.lstM hB
 refine PySem.P.add_list e e2 ?_ (by rw [List.size_toArray,List.size_toArray];lia)
 have ea:its.toArray++its2.toArray=(its++its2).toArray:=by simp
 rw [ea]
 exact ⟨.ref _,_,I.lnew (t':=s.toks) (r.append r2) (by rw [List.length_append];lia),rfl,q _ I.fresh⟩
end
section
variable {prog:Program}{w:World}{A:Around}{E:Value->Shared->Prop}{s:Shared}
end
section
variable {X:Cx}
end
end L2
namespace Att
open PySem PySem.W PySem.Calls PyProof.Rows
theorem zaR {P:Params}{h:Heap}:∀ (ns:List Int) (vs:List Value),WellAll P h vs (ns.map WData.int)->IntsAre vs ns:=by
 intro ns
 induction ns with
 | nil=>
  intro vs w
  rw [List.map_nil] at w
  cases w
  exact .nil
 | cons n ns ih=>
  intro vs w
  rw [List.map_cons] at w
  cases w with
  | cons a b=>
   cases a
   exact .cons _ _ (ih _ b)
theorem zhf {l:OpenLaw}{n:Nat}(hn:l.most=some n){P:Params}{h:Heap}{args:List WData}{vals:List Value}
  (hpre:l.row.toRowW.claim.pre args=true) (hwl:WellAll P h vals args) :
  ∃ a vs ns,vals=[Value.ref a]/\args=[WData.list (ns.map WData.int)]/\h.get? a=some { cls:=.type "list",data:=.seq vs.toArray }/\IntsAre vs ns/\ns.length<=n:=by
 have hsh:WShape.hasAll [] args [.list .int]=true:=(pre_splitW hpre).1
 have hc:l.pre.holds [] { args:=args }=true:=(pre_splitW hpre).2
 obtain ⟨d,r,rfl,h1,h2⟩:=hasAllW_cons hsh
 obtain rfl:=hasAllW_nil h2
 obtain ⟨xs,rfl,h3⟩:=hasW_list h1
 obtain ⟨ns,rfl⟩:=items_int h3
 have hlen:ns.length<=n:=by
  unfold OpenLaw.pre at hc
  have h4:(WTm.not (.lt (.lit (.int (n:Int))) (.len (.arg 0)))).holds [] { args:=[.list (ns.map .int)] }=true:=by
   have h4:=(holds_andW hc).1
   rw [hn] at h4
   exact h4
  have h5:=condW_of h4 (w_not (w_lt w_lit (w_len_list (w_arg rfl))))
  rw [List.length_map] at h5
  refine Nat.le_of_not_lt fun q=>?_
  have q':(n:Int)<((ns.length:Nat):Int):=by lia
  first
   | (rw [decide_eq_true q'] at h5;exact absurd h5 (by decide))
   | (simp at h5;lia)
 cases hwl with
 | cons w1 w2=>
  cases w2
  cases w1 with
  | list ho hall=>exact ⟨_,_,ns,rfl,rfl,ho,zaR ns _ hall,hlen⟩
theorem zgU (l:OpenLaw)(args:List WData):l.row.toRowW.claim.post args (.bool true) args=true:=
 postW_of (r:=l.row.toRowW) (X:=(true==true))
  (show WShape.has [] (.bool true) .bool=true by first | rfl | decide | simp [WShape.has,WShape.arms,WShape.armsAll])
  (show (WTm.eq .res (.lit (.bool true))).value [] { args:=args,res:=some (.bool true),after:=args }=some (.bool (true==true)) from w_eq_bool (w_res rfl) w_lit) rfl
theorem attach_call {l:OpenLaw}{n:Nat}{q:Program}{loose:List Str}{XP:(Str->Option Value)->Heap->Prop}{YP:World->Heap->Prop}{d:DefRec}
  (hn:l.most=some n) (hdf:d.params.defaults=[])
  (call:∀ (w:World) (s₀ s₁:Shared) (mg mb:Str->Option Value) (fa:Addr) (o:Obj) (pm cd doc:Value) (a:Addr) (vs:List Value) (ns:List Int),
   Ground q loose [] XP w s₀ mg mb s₁.heap->YP w s₁.heap->
   s₁.heap.get? fa=some o->o.data = .func (docDef d.name d.params d.body d.scope pm cd doc)->s₁.heap.CodeRec cd d.name->mg d.name=some (.ref fa)->
   s₁.heap.get? a=some { cls:=.type "list",data:=.seq vs.toArray }->IntsAre vs ns->ns.length<=n->s₁.gens = #[]->
   codeAny (model l.prog w) callerA (.call (.ref fa) ⟨[.ref a],[]⟩) (fun r s'=>r = .ok (.ret (.bool true))/\OldK s₁.heap s'.heap/\s'.os=s₁.os/\AllBare s'.gens) s₁) :
  WalkO q loose XP YP l.row.toRowW d [] (fun f vs=>PySem.call f vs):=by
 intro w s₀ s₁ mg mb G Y fa o pm cd doc dV kV ho hd hcd hD hmg hg args vals as hpre hlay hrd hwl hlo
 obtain rfl:dV = .none:=Dflts.none hD hdf
 obtain rfl:kV = .none:=Dflts.noKw hD
 obtain ⟨a,vs,ns,rfl,rfl,hobj,hints,hlen⟩:=zhf hn hpre hwl
 refine enter_call (codeAny_mono (call w s₀ s₁ mg mb fa o pm cd doc a vs ns G Y ho (fd_plain hd) hcd hmg hobj hints hlen hg) fun r s' hq=>?_)
 obtain ⟨rfl,h2,h3,h4⟩:=hq
 exact ⟨.inl ⟨.bool true,.bool true,[],rfl,fun _=>rfl,.bool true,zgU l _,fun _=>⟨List.Pairwise.nil,fun _ hm=>(nomatch hm)⟩⟩,h2,h3,h4⟩
section
variable {prog:Program}{w:World}{A:Around}{E:Value->Shared->Prop}{s:Shared}{K:Frag}
def ledger (h:Heap)(L d:Addr):List (Addr×Obj):=(List.range h.objs.size).filterMap fun a=>if a=L\/a=d then none else (h.get? a).map fun o=>(a,o)
end
end Att
namespace L2
open PySem PySem.Spec PyProof.Rows
theorem zdc:∀ {vs:List Value} {ns:List Int},IntsAre vs ns->zY (ns.map V.int) vs
 | _,_,.nil=>.nil
 | _,_,.cons n t h=>.cons ⟨t,rfl⟩ (zdc h)
def zoa (H:Hp):Prop:=∀ b,H b=none\/∃ o xs,H b=some (.frz o (.lst xs))
theorem zih {P:Program}{w:World}{K:PySem.W.Frag}{mg mb:Str->Option Value}{CX:CXT}{k:Nat}{fa a:Addr}{fd:FuncData}{x:Str}{sp:Sp}{s₁:Shared}{vs:List Value}{ns:List Int}
  (KX:K.In s₁.heap) (hns:s₁.heap.Ns mainGlobals mg) (hb:s₁.heap.Ns builtinsNs mb) (hbb:∀ x:Str,x ≠ "__name__" -> mb x=bootBuiltins x) (hlim:s₁.heap.NoLimit) (hg:s₁.gens = #[])
  (ha:s₁.heap.get? a=some { cls:=.type "list",data:=.seq vs.toArray }) (hi:IntsAre vs ns) (hl:ns.length<=sizeLine) (hr:Room k callerA)
  (F:∀ base:Heap,K.In base->base.Ns mainGlobals mg->FnOk P w K mg base CX k fa fd [x] sp) (hbind:∀ (s:Shared) (u:Value),BindsTo s fd ⟨[u],[]⟩ [(x,u)])
  (hsp:∀ H:Hp,zoa H->SqL K H a (ns.map V.int)->sp [.ref a] H (fun v _=>v = .bl true) fun _ _ _=>False)
  (hCX:∀ H e s',CX [] H s₁ (fun _ _ _=>False) e s'->False) :
  codeAny (model P w) callerA (.call (.ref fa) ⟨[.ref a],[]⟩) (fun r s'=>r = .ok (.ret (.bool true))/\OldK s₁.heap s'.heap/\s'.os=s₁.os/\AllBare s'.gens) s₁:=by
 have rv:=zdc hi
 have lenV:=hi.length
 have core:∀ H:Hp,zoa H->SqL K H a (ns.map V.int)->HOk P w H s₁.heap->(∀ b,H b≠none->b=a)->(H a≠none->K.lookup a=none)->
   codeAny (model P w) callerA (.call (.ref fa) ⟨[.ref a],[]⟩) (fun r s'=>r = .ok (.ret (.bool true))/\OldK s₁.heap s'.heap/\s'.os=s₁.os/\AllBare s'.gens) s₁:=by
  intro H hO hS hok hA hK
  have base_of:∀ {b:Addr} {o:Obj},s₁.heap.get? b=some o->H b=none->(zia s₁.heap H).get? b=some o:=fun e n=>zib e n
  have noA:∀ {b:Addr} {o:Obj} {es:Array DictEntry} {ep:Nat},s₁.heap.get? b=some o->o.data = .dict es ep->H b=none:=fun {b o es ep} e d=>by
   cases q:H b with
   | none=>rfl
   | some u=>
    have e':b=a:=hA b (by rw [q];simp)
    subst e'
    rw [ha] at e;cases e
    have d':Data.seq vs.toArray _=Data.dict es ep:=d
    cases d'
  have nsK:∀ {b:Addr} {m:Str->Option Value},s₁.heap.Ns b m->(zia s₁.heap H).Ns b m:=fun {b m} ⟨o,es,ep,e,d,r⟩=>⟨o,es,ep,base_of e (noA e d),d,r⟩
  have hKb:K.In (zia s₁.heap H):=fun b o e=>base_of (KX b o e) (by
   cases q:H b with
   | none=>rfl
   | some u=>
    have e':b=a:=hA b (by rw [q];simp)
    subst e'
    rw [hK (by rw [q];simp)] at e;cases e)
  have hM:Mod K mg (zia s₁.heap H):=⟨hKb,nsK hns,⟨mb,nsK hb,hbb⟩,let ⟨mc,h1,h2⟩:=hlim;⟨mc,nsK h1,h2⟩⟩
  have e0:Env0 P w K mg (zia s₁.heap H) callerA [] s₁ H:=⟨rfl,hM,fun b o e=>zks e,Nat.le_of_eq (zgi _ _),trivial,fun b hb=>absurd (show b∈([]:List Addr) from hb) (by simp),hok,.of_eq hg⟩
  refine codeAny_mono ((F _ hKb (nsK hns)).run callerA [] s₁ H ⟨[.ref a],[]⟩ [.ref a] [.ref a] _ _ hr e0 (hbind s₁ (.ref a)) (.cons rfl .nil) (hsp H hO hS)) fun r s' h=>?_
  cases r with
  | error e=>exact (hCX H e s' h).elim
  | ok fl=>
   cases fl with
   | next=>exact False.elim h
   | brk=>exact False.elim h
   | cont=>exact False.elim h
   | ret u=>
    obtain ⟨v,H',os,bare,un,hok',r',q⟩:=h
    have q':v = .bl true:=q
    subst q'
    obtain rfl:u=Value.bool true:=r'
    refine ⟨rfl,OldK.of_keep fun b o e=>?_,os,bare⟩
    cases q:H b with
    | none=>exact un.keep b o e q (by intro z;exact absurd (show b∈([]:List Addr) from z) (by simp)) (by simp)
    | some u=>
     rcases hO b with z | ⟨ob,xs,z⟩
     ·rw [q] at z;cases z
     ·have z2:=un.frzs b ob _ z
      obtain ⟨e1,_⟩:=hok b _ z
      obtain ⟨e2,_⟩:=hok' b _ z2
      rw [e] at e1;cases e1
      exact e2
 cases hk:K.lookup a with
 | some o=>
  have e:=KX a o hk
  rw [ha] at e
  cases e
  refine core (fun _=>none) (fun _=>.inl rfl) (.inr ⟨_,vs.toArray,_,hk,rfl,rfl,rfl,by rw [List.size_toArray,lenV];exact hl,by simpa using rv⟩) (fun b u z=>by have z':(none:Option HO)=some u:=z;cases z') (fun b z=>absurd rfl z) fun z=>absurd rfl z
 | none=>
  refine core (fun b=>if b=a then some (.frz { cls:=.type "list",data:=.seq vs.toArray } (.lst (ns.map V.int))) else none) (fun b=>?_) (.inl (.inr ⟨{ cls:=.type "list",data:=.seq vs.toArray },if_pos rfl⟩)) (fun b u z=>?_) (fun b z=>?_) fun _=>hk
  ·by_cases hb:b=a
   ·exact .inr ⟨_,_,if_pos hb⟩
   ·exact .inl (if_neg hb)
  ·by_cases hb:b=a
   ·have z':=(if_pos hb).symm.trans z
    cases z'
    subst hb
    exact ⟨ha,by rw [List.length_map];exact hl,vs,_,rv,ha⟩
   ·have z':=(if_neg hb).symm.trans z
    cases z'
  ·by_cases hb:b=a
   ·exact hb
   ·exact absurd (if_neg hb) z
theorem zlq {l:PySem.W.OpenLaw}{n k:Nat}{q:Program}{loose:List Str}{XP:(Str->Option Value)->Heap->Prop}{YP:World->Heap->Prop}{d:DefRec}{K:Params->PySem.W.Frag}{CX:World->CXT}{sp:World->Sp}{x:Str}
  (hn:l.most=some n) (hn2:n<=sizeLine) (hdf:d.params.defaults=[]) (hr:Room k callerA)
  (hY:∀ (w:World) (h:Heap),YP w h->(K w.params).In h)
  (F:∀ (w:World) (mg:Str->Option Value) (fa:Addr) (h:Heap),(K w.params).In h->h.Ns mainGlobals mg->mg d.name=some (.ref fa)->
   ∃ fd:FuncData,(∀ (s:Shared) (u:Value),BindsTo s fd ⟨[u],[]⟩ [(x,u)])/\
    ∀ base:Heap,(K w.params).In base->base.Ns mainGlobals mg->FnOk l.prog w (K w.params) mg base (CX w) k fa fd [x] (sp w))
  (hsp:∀ (w:World) (H:Hp) (a:Addr) (ns:List Int),ns.length<=n->zoa H->SqL (K w.params) H a (ns.map V.int)->sp w [.ref a] H (fun v _=>v = .bl true) fun _ _ _=>False)
  (hCX:∀ (w:World) (H:Hp) (s:Shared) (e:Value) (s':Shared),CX w [] H s (fun _ _ _=>False) e s'->False) :
  PySem.W.WalkO q loose XP YP l.row.toRowW d [] (fun f vs=>PySem.call f vs):=by
 refine Att.attach_call hn hdf fun w s₀ s₁ mg mb fa o pm cd doc a vs ns G Y ho hd hcd hmg hobj hints hlen hg=>?_
 have KX:=hY w _ Y
 obtain ⟨fd,hb,hF⟩:=F w mg fa _ KX G.T.g hmg
 exact zih KX G.T.g G.T.b G.T.builtins G.T.nolimit hg hobj hints (Nat.le_trans hlen hn2) hr hF hb (fun H hO hS=>hsp w H a ns hlen hO hS) fun H e s'=>hCX w H s₁ e s'
def zr (s:Stmt):Arguments:=match s with
 | .FunctionDef _ a _ _ _ _ _ _ _ _=>a
 | _=>{ posonlyargs:=[],args:=[],vararg:=none,kwonlyargs:=[],kw_defaults:=[],kwarg:=none,defaults:=[] }
def zi (s:Stmt):List Stmt:=match s with
 | .FunctionDef _ _ b _ _ _ _ _ _ _=>b
 | _=>[]
def za (s:Stmt):Scope:=match s with
 | .FunctionDef _ _ _ _ _ _ sc _ _ _=>sc
 | _=>{ kind:=.function,names:=[],isGenerator:=false,isCoroutine:=false }
abbrev CX0:CXT:=fun _ _ _ _ _ _=>False
abbrev E0:XK:=fun _ _ _=>False
theorem zo6 {X:Cx}:zfB CX0 X E0:=fun _ _ _ _ _ _ _ h=>h.elim
structure Fun (K:PySem.W.Frag)(x qual:Str)(st:Stmt)(f:Addr)(fd:FuncData):Prop where
 ex:∃ (oc:Value) (od:Option Addr) (kV doc pm:Value) (an:Option Addr) (cdv ct:Value) (osl:Array (Option Value)),
  fd=PySem.W.fnOf x qual (zr st) (zi st) (za st) .none kV doc pm an cdv ct/\K.lookup f=some ⟨oc,od,.func fd,osl⟩/\PySem.W.codeIn K cdv qual=true
 kp:PySem.W.keepIn K (.ref f)=true
section
variable {P:Program}{w:World}{K:PySem.W.Frag}{mg:Str->Option Value}{base:Heap}
theorem Fun.ok {x qual:Str}{st:Stmt}{f:Addr}{fd:FuncData}{N ps:List Str}{k:Nat}{sp:Sp}(F:Fun K x qual st f fd)(S:FnScope N ps (za st))(len:∀ vs H Q E,sp vs H Q E->vs.length=ps.length)
  (hbody:∀ (cdv:Value) (A:Around) (outer:List Env) (s:Shared) (H:Hp) (vs:List V) (Q:VK) (E:XK),Room k (A.deeper (envOfC qual (za st) s.heap.objs.size f cdv))->sp vs H Q E->
   ∃ t,PSs (zde CX0 P w K mg base N qual (za st) f cdv A outer s H E).nox (zi st) t/\t { nx:=fun _ H'=>Q .non H',rt:=Q } (xH N vs) H):FnOk P w K mg base CX0 (k+1) f fd ps sp:=by
 obtain ⟨oc,od,kV,doc,pm,an,cdv,ct,osl,rfl,lk,hcd⟩:=F.ex
 refine zow lk hcd S len fun A outer s H vs Q E hr hsp=>?_
 obtain ⟨t,h,q⟩:=hbody cdv A outer s H vs Q E hr hsp
 exact ⟨t,h.nox,q⟩
theorem Fun.binds {x qual:Str}{st:Stmt}{f:Addr}{fd:FuncData}{ps:List Str}(F:Fun K x qual st f fd)
  (h:∀ (kV doc pm:Value) (an:Option Addr) (cdv ct:Value) (us:List Value),us.length=ps.length->bindArgs (PySem.W.fnOf x qual (zr st) (zi st) (za st) .none kV doc pm an cdv ct) ⟨us,[]⟩=pure (ps.zip us)):zeR K fd ps []:=by
 obtain ⟨oc,od,kV,doc,pm,an,cdv,ct,osl,rfl,lk,hcd⟩:=F.ex
 exact .all (h kV doc pm an cdv ct)
theorem zN {x qual:Str}{st:Stmt}{f:Addr}{oc:Value}{od an:Option Addr}{osl:Array (Option Value)}{kV doc pm cdv ct:Value}(l:K.lookup f=some ⟨oc,od,.func (PySem.W.fnOf x qual (zr st) (zi st) (za st) .none kV doc pm an cdv ct),osl⟩)
  (c:PySem.W.codeIn K cdv qual=true) (k:PySem.W.keepIn K (.ref f)=true):Fun K x qual st f (PySem.W.fnOf x qual (zr st) (zi st) (za st) .none kV doc pm an cdv ct):=⟨⟨oc,od,kV,doc,pm,an,cdv,ct,osl,rfl,l,c⟩,k⟩
end
theorem zgj {A:Around}{k:Nat}(hr:Room k A):A.units+1<cLine:=Nat.lt_of_le_of_lt (Nat.add_le_add_left (by decide:1<=64) _) hr.units
theorem uV {n:Nat}(h:n<=1000):n<sizeLine:=Nat.lt_of_le_of_lt h (by decide)
section
variable {X:Cx}
theorem pv (i:Nat){x:Str}{pos:Pos}(hN:X.N[i]?=some x:=by rfl)(hv:Vis X.env.scope x:=by first | exact Or.inl rfl | exact Or.inr (Or.inl rfl) | exact Or.inr (Or.inr rfl))(hd:(x==("__debug__" : Str))=false:=by decide)
  (hcd:(x==("__classdict__" : Str))=false:=by decide):PE X (.Name x pos) (zlh i):=zjw hN hv hd hcd
end
theorem iteF {A B:Prop}(h:B):if false=true then A else B:=by
 rw [if_neg Bool.false_ne_true]
 exact h
theorem zj1 {c A B:Prop}[Decidable c](h1:c->A)(h2:¬ c->B):if c then A else B:=by
 by_cases h:c
 ·rw [if_pos h]
  exact h1 h
 ·rw [if_neg h]
  exact h2 h
def yL (H H':Hp):Prop:=∀ b o,H b=some o->H' b=some o
theorem yL.seq {K:PySem.W.Frag}{H H':Hp}{a:Addr}{xs:List V}(e:yL H H')(h:SqL K H a xs):SqL K H' a xs:=by
 rcases h with (h | ⟨o,h⟩) | h
 ·exact .inl (.inl (e _ _ h))
 ·exact .inl (.inr ⟨o,e _ _ h⟩)
 ·exact .inr h
section
variable {κ:Type}[DecidableEq κ]
end
section
variable {X:Cx}
theorem zdl:zbF X (.builtin "isinstance") (fun xs H Q=>∃ x T t b,xs=[x,.ty T]/\TyOf X.K H x t/\PySem.W.kitOne X.K t (.type T)=some b/\Q (.bl b) H):=by
 intro pins s σ H xs us Q I r h
 obtain ⟨x,T,t,b,rfl,ty,e,q⟩:=h
 obtain ⟨u,c,rfl,ru,rc⟩:=znT r
 cases rc
 exact zgn I ru ty e fun tk=>⟨.bl b,H,I.tok tk,rfl,q⟩
theorem zdT:OpR X (compareOp .IsNot) (fun x y H Q=>∃ a b,x = .bl a/\y = .bl b/\Q (.bl (a != b)) H):=by
 intro pins s σ H x y v u Q I rx ry h
 obtain ⟨a,b,rfl,rfl,q⟩:=h
 cases rx
 cases ry
 exact isnot_bool ⟨.bl _,H,I,rfl,q⟩
def zg1 (K:PySem.W.Frag):R2:=fun x y H Q=>∃ a b xs ys,x = .ref a/\y = .ref b/\H a=some (.tup xs)/\H b=some (.tup ys)/\xs.length+ys.length<=sizeLine/\
 ∀ p H',H' p=some (.tup (xs++ys))->yL H H'->Q (.ref p) H'
theorem zku:OpR X (binaryOp .Add) (zg1 X.K):=by
 intro pins s σ H x y v u Q I rx ry h
 obtain ⟨a,b,xs,ys,rfl,rfl,ha,hb,hz,q⟩:=h
 by_cases hx:xs=[]
 ·subst hx
  cases rx
  cases ry
  obtain ⟨its,r1,p1,_⟩:=I.tuple (.of ha)
  obtain ⟨its2,r2,p2,_⟩:=I.tuple (.of hb)
  obtain ⟨⟨cls,dd,data,sl⟩,ho,hc,n,hd⟩:=id p1
  obtain ⟨⟨cls2,dd2,data2,sl2⟩,ho2,hc2,n2,hd2⟩:=id p2
  simp only at hc hd hc2 hd2
  subst hc hd hc2 hd2
  have hi:its=[]:=r1.nil_iff.mpr rfl
  exact concat_meets ⟨_,ho,rfl⟩ ⟨_,ho2,rfl⟩ noFill_tuple_add seq_tuple_add PySem.F.slot_tuple_add PySem.F.entry_tuple_add (PySem.F.args_tuple_add_2 _ _)
   (tuple_addW0 a b its.toArray its2.toArray n n2 dd dd2 sl sl2 (by simp [hi])) ⟨ho,ho2,⟨.ref b,H,I,rfl,q b H hb fun _ _ e=>e⟩⟩
 ·refine zkv pins s σ H _ _ v u Q I rx ry ⟨a,b,xs,ys,rfl,rfl,.of ha,.of hb,hx,hz,fun e=>?_,fun e p hp=>?_⟩
  ·subst e
   exact q a H (by rw [List.append_nil];exact ha) fun _ _ e=>e
  ·exact q p _ zh fun c o e=>by rw [ze (zb e hp)];exact e
end
section
variable {X:Cx}
end
end L2
namespace HT
open PySem PySem.Spec PyProof.Rows
section
variable {prog:Program}{w:World}{A:Around}{E:Value->Shared->Prop}{s:Shared}
theorem getItem_tuple_whole {t sl:Addr}{items:Array Value}{vl vu:Value}{lo hi:Option Int}{Q:Value->Shared->Prop}(ht:IsTup s.heap t items)(hs:s.heap.IsSliceOf sl vl vu .none)(pl:IsPart vl lo)(pu:IsPart vu hi)
  (hw:sIx items.size 0 lo=0/\sIx items.size items.size hi=items.size) (h:Q (.ref t) s) (hsz:items.size<=sizeLine):wpAny (model prog w) A (getItem (.ref t) (.ref sl)) Q E s:=by
 obtain ⟨os,hos,hcs,hds⟩:=id hs
 have hTs:s.TypeIs (.ref sl) "slice" := ⟨os,hos,hcs⟩
 unfold getItem
 try with_reducible refine wpAny_holding ?_
 first | refine wpAny_bind (wpAny_pure ?_) | skip
 refine wpAny_bind (wpAny_sequenceKey ht.typeIs (by decide) ?_)
 refine wpAny_bind (wpAny_callSpecial?_slot (name:=Str.ofString "__getitem__") ht.typeIs PyProof.Rows.slot_tuple_getitem
  (wpAny_call_entry PyProof.Rows.slot_tuple_getitem ht.typeIs entry_tuple_getitem ?_ (args_tuple_getitem _ _)))
 show wpAny _ _ (Builtin.Tuple.tupleItemsOf (.ref t) >>= _) _ _ s
 refine wpAny_bind (tupleItemsOf_ ht ?_)
 refine wpAny_bind (wpAny_typeOf hTs ?_)
 rw [if_pos (by decide)]
 refine wpAny_bind (xQ hs pl pu ?_)
 have hyes:(((sIx items.size 0 lo:Nat):Int)==0&&(1:Int)==1&&(sIx items.size items.size hi - sIx items.size 0 lo)==items.size)=true:=by
  rw [hw.1,hw.2]
  simp
 show wpAny _ _ (if (((sIx items.size 0 lo:Nat):Int)==0&&(1:Int)==1&&(sIx items.size items.size hi - sIx items.size 0 lo)==items.size)=true then _ else _) _ _ s
 rw [if_pos hyes]
 unfold Builtin.Tuple.tupleIsExact
 refine wpAny_bind (wpAny_bind (wpAny_typeOf ht.typeIs ?_))
 refine wpAny_pure ?_
 rw [if_pos (by decide)]
 refine wpAny_bind (wpAny_rule ?_)
 exact wpAny_pure ⟨_,rfl,wpAny_pure h⟩
end
end HT
namespace L2
open PySem PySem.Spec PyProof.Rows
section
variable {X:Cx}
def rSlA:V->Option Int->Option Int->Hp->VK->Prop:=fun x lo hi H Q=>∃ a xs,x = .ref a/\H a=some (.tup xs)/\∀ p H',H' p=some (.tup (zbf xs lo hi))->yL H H'->Q (.ref p) H'
theorem zld:SlR X rSlA:=by
 intro pins s σ H x v vl vu lo hi sl Q I rx hs pl pu h
 obtain ⟨a,xs,rfl,ha,q⟩:=h
 by_cases hw:HT.sIx xs.length 0 lo=0/\HT.sIx xs.length xs.length hi=xs.length
 ·cases rx
  obtain ⟨its,r,ht,hz⟩:=I.tuple (.of ha)
  have hlen:its.toArray.size=xs.length:=by rw [List.size_toArray];exact r.length.symm
  refine ⟨"tuple",_,PyProof.Rows.slot_tuple_getitem.lookup,ht.typeIs,?_⟩
  refine HT.getItem_tuple_whole ht hs pl pu (by rw [hlen];exact hw) ⟨.ref a,H,I,rfl,q a H ?_ fun _ _ e=>e⟩ (by rw [hlen];exact hz)
  unfold zbf
  rw [hw.1,hw.2,List.drop_zero,Nat.sub_zero,List.take_length]
  exact ha
 ·exact zns pins s σ H _ v vl vu lo hi sl Q I rx hs pl pu ⟨a,xs,rfl,.of ha,hw,fun p hp=>q p _ zh fun c o e=>by rw [ze (zb e hp)];exact e⟩
inductive Dt where
 | non | bl (b:Bool) | int (i:Int) | str (x:Str) | tup (l:List Dt) | lst (l:List Dt) | dct
mutual
def Is (H:Hp):Dt->V->Prop
 | .non,v=>v = .non
 | .bl b,v=>v = .bl b
 | .int i,v=>v = .int i
 | .str x,v=>v = .str x
 | .tup l,v=>∃ a xs,v = .ref a/\H a=some (.tup xs)/\IsL H l xs
 | .lst l,v=>∃ a xs,v = .ref a/\H a=some (.lst xs)/\IsL H l xs
 | .dct,v=>∃ a kvs,v = .ref a/\H a=some (.dK kvs)/\uY kvs (Sum.inr "at" : Key)=none
def IsL (H:Hp):List Dt->List V->Prop
 | [],xs=>xs=[]
 | d::ds,xs=>∃ x r,xs=x::r/\Is H d x/\IsL H ds r
end
def zu (H H':Hp):Prop:=∀ b o,H b=some o->(∀ kvs,o = .dK kvs->uY kvs (Sum.inr "at" : Key)=none)->H' b=some o
theorem zu.refl (H:Hp):zu H H:=fun _ _ e _=>e
theorem zu.trans {H H1 H2:Hp}(a:zu H H1)(b:zu H1 H2):zu H H2:=fun c o e n=>b c o (a c o e n) n
theorem zu.same {H H1:Hp}(a:yL H H1):zu H H1:=fun c o e _=>a c o e
theorem zu.upd {H:Hp}{p:Addr}{o:HO}(h:H p=none):zu H (upd H p o):=fun c u e _=>by rw [ze (zb e h)];exact e
theorem yL.upd {H:Hp}{p:Addr}{o:HO}(h:H p=none):yL H (upd H p o):=fun c u e=>by rw [ze (zb e h)];exact e
theorem zu.tup {H H1:Hp}(a:zu H H1){p:Addr}{xs:List V}(h:H p=some (.tup xs)):H1 p=some (.tup xs):=a _ _ h fun _ e=>by cases e
theorem zu.lst {H H1:Hp}(a:zu H H1){p:Addr}{xs:List V}(h:H p=some (.lst xs)):H1 p=some (.lst xs):=a _ _ h fun _ e=>by cases e
mutual
theorem Is.stay {H H1:Hp}(a:zu H H1):∀ {d:Dt} {v:V},Is H d v->Is H1 d v
 | .non,_,h=>h
 | .bl _,_,h=>h
 | .int _,_,h=>h
 | .str _,_,h=>h
 | .tup l,v,h=>by
  obtain ⟨p,xs,e,hp,hl⟩:=h
  exact ⟨p,xs,e,a.tup hp,IsL.stay a hl⟩
 | .lst l,v,h=>by
  obtain ⟨p,xs,e,hp,hl⟩:=h
  exact ⟨p,xs,e,a.lst hp,IsL.stay a hl⟩
 | .dct,v,h=>by
  obtain ⟨p,kvs,e,hp,hl⟩:=h
  exact ⟨p,kvs,e,a _ _ hp fun kvs' e=>by cases e;exact hl,hl⟩
theorem IsL.stay {H H1:Hp}(a:zu H H1):∀ {ds:List Dt} {xs:List V},IsL H ds xs->IsL H1 ds xs
 | [],_,h=>h
 | d::ds,xs,h=>by
  obtain ⟨x,r,e,h1,h2⟩:=h
  exact ⟨x,r,e,Is.stay a h1,IsL.stay a h2⟩
end
theorem IsL.length {H:Hp}:∀ {ds:List Dt} {xs:List V},IsL H ds xs->xs.length=ds.length
 | [],_,h=>by cases h;rfl
 | d::ds,xs,h=>by
  obtain ⟨x,r,rfl,_,h2⟩:=h
  rw [List.length_cons,List.length_cons,IsL.length h2]
theorem IsL.get {H:Hp}:∀ {ds:List Dt} {xs:List V} {i:Nat} {x:V},IsL H ds xs->xs[i]?=some x->∃ d,ds[i]?=some d/\Is H d x
 | [],_,_,_,h,e=>by cases h;simp at e
 | d::ds,xs,i,x,h,e=>by
  obtain ⟨y,r,rfl,h1,h2⟩:=h
  cases i with
  | zero=>simp at e;subst e;exact ⟨d,rfl,h1⟩
  | succ i=>
   obtain ⟨d',q1,q2⟩:=IsL.get (i:=i) (x:=x) h2 (by simpa using e)
   exact ⟨d',by simpa using q1,q2⟩
theorem IsL.getD {H:Hp}:∀ {ds:List Dt} {xs:List V} {i:Nat} {d:Dt},IsL H ds xs->ds[i]?=some d->∃ x,xs[i]?=some x/\Is H d x
 | [],_,_,_,_,e=>by simp at e
 | d::ds,xs,i,x,h,e=>by
  obtain ⟨y,r,rfl,h1,h2⟩:=h
  cases i with
  | zero=>simp at e;subst e;exact ⟨y,rfl,h1⟩
  | succ i=>
   obtain ⟨d',q1,q2⟩:=IsL.getD (i:=i) (d:=x) h2 (by simpa using e)
   exact ⟨d',by simpa using q1,q2⟩
theorem IsL.append {H:Hp}:∀ {ds es:List Dt} {xs ys:List V},IsL H ds xs->IsL H es ys->IsL H (ds++es) (xs++ys)
 | [],_,_,_,h,k=>by cases h;exact k
 | d::ds,es,xs,ys,h,k=>by
  obtain ⟨y,r,rfl,h1,h2⟩:=h
  exact ⟨y,r++ys,rfl,h1,IsL.append h2 k⟩
theorem IsL.take {H:Hp}:∀ {ds:List Dt} {xs:List V} (n:Nat),IsL H ds xs->IsL H (ds.take n) (xs.take n)
 | _,_,0,_=>by simp [IsL]
 | [],_,n+1,h=>by cases h;simp [IsL]
 | d::ds,xs,n+1,h=>by
  obtain ⟨y,r,rfl,h1,h2⟩:=h
  exact ⟨y,r.take n,rfl,h1,IsL.take n h2⟩
theorem IsL.drop {H:Hp}:∀ {ds:List Dt} {xs:List V} (n:Nat),IsL H ds xs->IsL H (ds.drop n) (xs.drop n)
 | _,_,0,h=>h
 | [],_,n+1,h=>by cases h;simp [IsL]
 | d::ds,xs,n+1,h=>by
  obtain ⟨y,r,rfl,h1,h2⟩:=h
  exact IsL.drop n h2
theorem IsL.one {H:Hp}{d:Dt}{x:V}(h:Is H d x):IsL H [d] [x]:=⟨x,[],rfl,h,rfl⟩
theorem IsL.ints {H:Hp}:∀ {ns:List Int},IsL H (ns.map .int) (ns.map .int)
 | []=>rfl
 | n::ns=>⟨_,_,rfl,rfl,IsL.ints⟩
theorem IsL.of_ints {H:Hp}:∀ {ns:List Int} {xs:List V},IsL H (ns.map .int) xs->xs=ns.map .int
 | [],_,h=>h
 | n::ns,xs,h=>by
  obtain ⟨y,r,rfl,h1,h2⟩:=h
  cases h1
  rw [IsL.of_ints h2]
  rfl
def Dt.ty:Dt->String
 | .non => "NoneType" | .bl _ => "bool" | .int _ => "int" | .str _ => "str" | .tup _ => "tuple" | .lst _ => "list" | .dct => "dict"
theorem Is.ty {K:PySem.W.Frag}{H:Hp}:∀ {d:Dt} {v:V},Is H d v->TyOf K H v (.type d.ty)
 | .non,_,h=>by cases h;exact .non
 | .bl _,_,h=>by cases h;exact .bl _
 | .int _,_,h=>by cases h;exact .int _
 | .str _,_,h=>by cases h;exact .str _
 | .tup l,v,h=>by obtain ⟨p,xs,rfl,hp,hl⟩:=h;exact .tup hp
 | .lst l,v,h=>by obtain ⟨p,xs,rfl,hp,hl⟩:=h;exact .lst hp
 | .dct,v,h=>by obtain ⟨p,xs,rfl,hp,hl⟩:=h;exact .dK hp
@[reducible] def Dt.isTup:Dt->Bool
 | .tup _=>true | _=>false
@[reducible] def Dt.isLst:Dt->Bool
 | .lst _=>true | _=>false
@[reducible] def Dt.isInt:Dt->Bool
 | .int _=>true | .bl _=>true | _=>false
@[reducible] def Dt.isBl:Dt->Bool
 | .bl _=>true | _=>false
def Dt.isWhole:Dt->Bool
 | .int _=>true | _=>false
theorem zkc (K:PySem.W.Frag)(d:Dt):PySem.W.kitOne K (.type d.ty) (.type "tuple")=some d.isTup:=by cases d <;> rfl
theorem zkb (K:PySem.W.Frag)(d:Dt):PySem.W.kitOne K (.type d.ty) (.type "int")=some d.isInt:=by cases d <;> rfl
theorem zmd (K:PySem.W.Frag)(d:Dt):PySem.W.kitOne K (.type d.ty) (.type "bool")=some d.isBl:=by cases d <;> rfl
end
def zdm (env:Env):List (Str×NameKind)->List (Str×Addr)->List (Str×Addr)
 | [],cs=>cs
 | x::r,cs=>zdm env r (if (x.2==NameKind.free)=true then (x.1,(env.cells.lookup x.1).getD 0)::cs else cs)
theorem u5 {env:Env}{scope:Scope}(h:∀ x∈scope.names,x.2 = .free->∃ c,env.cells.lookup x.1=some c):closureFor scope env=pure (zdm env scope.names []):=by
 have gen:∀ (names:List (Str×NameKind)) (cs:List (Str×Addr)),(∀ x∈names,x.2 = .free->∃ c,env.cells.lookup x.1=some c)->
   (forIn names cs (fun x r=>match x with
    | (name,kind)=>if (kind==NameKind.free)=true then do let a <- cellOf env name;pure (ForInStep.yield ((name,a)::r)) else pure (ForInStep.yield r)):Sem (List (Str×Addr)))=pure (zdm env names cs):=by
  intro names
  induction names with
  | nil=>intro cs _;rfl
  | cons x r ih=>
   intro cs hh
   obtain ⟨n,k⟩:=x
   rw [List.forIn_cons]
   by_cases hk:(k==NameKind.free)=true
   ·obtain ⟨c,hc⟩:=hh (n,k) List.mem_cons_self (eq_of_beq hk)
    have hc':env.cells.lookup n=some c:=hc
    have e:cellOf env n=pure c:=by unfold cellOf;rw [hc']
    simp only [hk,if_true,e,pure_bind]
    rw [ih _ fun y hy=>hh y (List.mem_cons_of_mem _ hy)]
    show pure _=pure (zdm env r (if (k==NameKind.free)=true then (n,(env.cells.lookup n).getD 0)::cs else cs))
    rw [if_pos hk,hc']
    rfl
   ·simp only [hk,pure_bind]
    have e2:zdm env ((n,k)::r) cs=zdm env r cs:=by
     show zdm env r (if (k==NameKind.free)=true then _ else cs)=_
     rw [if_neg hk]
    rw [e2]
    exact ih _ fun y hy=>hh y (List.mem_cons_of_mem _ hy)
 unfold closureFor
 have:=gen scope.names [] h
 simpa using this
theorem xS {env:Env}:∀ {names:List (Str×NameKind)} {cs:List (Str×Addr)} {x:Str} {c:Addr},(∀ y∈names,y.2 = .free->∃ c,env.cells.lookup y.1=some c)->(zdm env names cs).lookup x=some c->env.cells.lookup x=some c\/cs.lookup x=some c
 | [],_,_,_,_,h=>.inr h
 | (n,k)::r,cs,x,c,hh,h=>by
  have ih:=xS (names:=r) (x:=x) (c:=c) (fun y hy=>hh y (List.mem_cons_of_mem _ hy)) h
  rcases ih with ih | ih
  ·exact .inl ih
  ·by_cases hk:(k==NameKind.free)=true
   ·obtain ⟨c',hc⟩:=hh (n,k) List.mem_cons_self (eq_of_beq hk)
    have hc':env.cells.lookup n=some c':=hc
    rw [if_pos hk,hc'] at ih
    rw [List.lookup_cons] at ih
    cases e:x==n with
    | true=>
     rw [e] at ih
     have:=eq_of_beq e
     subst this
     have ih':some c'=some c:=ih
     cases ih'
     exact .inl hc'
    | false=>
     rw [e] at ih
     exact .inr ih
   ·rw [if_neg hk] at ih
    exact .inr ih
theorem zbn {env:Env}:∀ {names:List (Str×NameKind)} {cs:List (Str×Addr)} {x:Str},(∃ c,cs.lookup x=some c)->∃ c,(zdm env names cs).lookup x=some c
 | [],_,_,h=>h
 | (n,k)::r,cs,x,h=>by
  refine zbn (names:=r) ?_
  by_cases hk:(k==NameKind.free)=true
  ·rw [if_pos hk,List.lookup_cons]
   cases e:x==n with
   | true=>exact ⟨_,rfl⟩
   | false=>exact h
  ·rw [if_neg hk]
   exact h
theorem zaw {env:Env}:∀ {names:List (Str×NameKind)} {cs:List (Str×Addr)} {x:Str},names.lookup x=some .free->∃ c,(zdm env names cs).lookup x=some c
 | [],_,_,h=>by simp at h
 | (n,k)::r,cs,x,h=>by
  rw [List.lookup_cons] at h
  cases e:x==n with
  | true=>
   rw [e] at h
   have h':some k=some NameKind.free:=h
   cases h'
   refine zbn (names:=r) ?_
   rw [if_pos (by rfl),List.lookup_cons,e]
   exact ⟨_,rfl⟩
  | false=>
   rw [e] at h
   exact zaw (names:=r) h
theorem ym {env:Env}:∀ {names:List (Str×NameKind)} {x:Str} {k:NameKind},(∀ y∈names,y.2≠.cell)->
  (names.map fun (n,k)=>if (k==NameKind.free&&env.scope.kind==.function&&env.kindOf n==some .cell) then (n,NameKind.cell) else (n,k)).lookup x=some k->(k = .cell\/k = .free)->names.lookup x=some .free
 | [],_,_,_,h,_=>by simp at h
 | (n,k)::r,x,k',hc,h,hk=>by
  have ih:=@ym env r x k' (fun y hy=>hc y (List.mem_cons_of_mem _ hy))
  rw [List.map_cons] at h
  rw [List.lookup_cons]
  by_cases hcond:(k==NameKind.free&&env.scope.kind==.function&&env.kindOf n==some .cell)=true
  ·have h':List.lookup x ((n,NameKind.cell)::r.map fun (n,k)=>if (k==NameKind.free&&env.scope.kind==.function&&env.kindOf n==some .cell) then (n,NameKind.cell) else (n,k))=some k':=by
    have:=h
    simp only [hcond,if_true] at this
    exact this
   rw [List.lookup_cons] at h'
   cases e:x==n with
   | true=>
    have:k = .free:=by
     rw [Bool.and_eq_true,Bool.and_eq_true] at hcond
     exact eq_of_beq hcond.1.1
    subst this
    rfl
   | false=>
    rw [e] at h'
    exact ih h' hk
  ·have h':List.lookup x ((n,k)::r.map fun (n,k)=>if (k==NameKind.free&&env.scope.kind==.function&&env.kindOf n==some .cell) then (n,NameKind.cell) else (n,k))=some k':=by
    have:=h
    simp only [hcond] at this
    exact this
   rw [List.lookup_cons] at h'
   cases e:x==n with
   | true=>
    rw [e] at h'
    have h2:some k=some k':=h'
    cases h2
    rcases hk with hk | hk
    ·exact absurd hk (hc (n,k) List.mem_cons_self)
    ·subst hk;rfl
   | false=>
    rw [e] at h'
    exact ih h' hk
theorem yZ {env:Env}:∀ {names:List (Str×NameKind)} {x:Str},names.lookup x=some .free->
  (names.map fun (n,k)=>if (k==NameKind.free&&env.scope.kind==.function&&env.kindOf n==some .cell) then (n,NameKind.cell) else (n,k)).lookup x=some .cell\/
  (names.map fun (n,k)=>if (k==NameKind.free&&env.scope.kind==.function&&env.kindOf n==some .cell) then (n,NameKind.cell) else (n,k)).lookup x=some .free
 | [],_,h=>by simp at h
 | (n,k)::r,x,h=>by
  have ih:=@yZ env r x
  rw [List.lookup_cons] at h
  rw [List.map_cons]
  cases e:x==n with
  | true=>
   rw [e] at h
   have h':some k=some NameKind.free:=h
   cases h'
   by_cases hcond:((NameKind.free==NameKind.free)&&env.scope.kind==.function&&env.kindOf n==some .cell)=true
   ·left;simp only [hcond,if_true];rw [List.lookup_cons,e]
   ·right;simp only [hcond];rw [if_neg Bool.false_ne_true,List.lookup_cons,e]
  | false=>
   rw [e] at h
   have h':r.lookup x=some NameKind.free:=h
   by_cases hcond:((k==NameKind.free)&&env.scope.kind==.function&&env.kindOf n==some .cell)=true
   ·simp only [hcond,if_true];rw [List.lookup_cons,e];exact ih h'
   ·simp only [hcond];rw [if_neg Bool.false_ne_true,List.lookup_cons,e];exact ih h'
def zo (X:Cx)(scope:Scope)(N:List Str)(C:Addr)(s:Shared)(H:Hp)(ex:List Addr):Cx where
 prog:=X.prog
 w:=X.w
 K:=X.K
 mg:=X.mg
 base:=X.base
 A:=X.A
 N:=N
 s₀:=s
 H₀:=H
 env:=compEnvC scope (zdm X.env scope.names []) C X.env
 outer:=X.stack
 stack:=X.stack
 ex:=ex
 fn:=fun _=>false
 calm:=X.calm
 pn:=[]
 xe:=fun _ _=>False
def caps (XN:List Str)(Xnames names:List (Str×NameKind))(N:List Str)(cix:List (Option Nat)):Bool:=
 N.length==cix.length&&(names.all fun y=>y.2 != .cell)&&((N.zip cix).all fun p=>match p.2 with
  | none=>true
  | some i=>XN[i]?==some p.1&&names.lookup p.1==some .free&&(Xnames.lookup p.1==some .cell || Xnames.lookup p.1==some .free)) &&
 (names.all fun y=>y.2 != .free || (Xnames.lookup y.1==some .cell || Xnames.lookup y.1==some .free))
def zcx (σ:St)(cix:List (Option Nat)):St:=cix.map fun o=>match o with
 | none=>none
 | some i=>(σ[i]?).join
structure CompOk (X:Cx)(scope:Scope)(N:List Str)(cix:List (Option Nat)):Prop where
 kind:scope.kind = .function
 names:∀ x∈scope.names,x.2 = .local->scope.names.lookup x.1=some .local
 caps:caps X.N X.env.scope.names scope.names N cix=true
section
variable {X:Cx}{pins:List (Addr×Obj)}{σ:St}{H:Hp}{s:Shared}{scope:Scope}{N:List Str}{cix:List (Option Nat)}
theorem CompOk.cell (c:CompOk X scope N cix):∀ y∈scope.names,y.2≠.cell:=fun y hy e=>by
 have h:=c.caps
 unfold L2.caps at h
 rw [Bool.and_eq_true,Bool.and_eq_true,Bool.and_eq_true] at h
 have:=List.all_eq_true.mp h.1.1.2 y hy
 rw [e] at this
 exact absurd this (by decide)
theorem CompOk.len (c:CompOk X scope N cix):N.length=cix.length:=by
 have h:=c.caps
 unfold L2.caps at h
 rw [Bool.and_eq_true,Bool.and_eq_true,Bool.and_eq_true] at h
 exact eq_of_beq h.1.1.1
theorem CompOk.cells (c:CompOk X scope N cix)(ok:X.Ok):∀ x∈scope.names,x.2 = .free->∃ a,X.env.cells.lookup x.1=some a:=fun x hx e=>by
 have h:=c.caps
 unfold L2.caps at h
 rw [Bool.and_eq_true] at h
 have q:=List.all_eq_true.mp h.2 x hx
 rw [e] at q
 have q':(X.env.scope.names.lookup x.1==some NameKind.cell || X.env.scope.names.lookup x.1==some NameKind.free)=true:=by simpa using q
 rcases Bool.or_eq_true_iff.mp q' with q | q
 ·exact ok.has _ (.inl (eq_of_beq q))
 ·exact ok.has _ (.inr (eq_of_beq q))
theorem CompOk.cap (c:CompOk X scope N cix){j i:Nat}{x:Str}(h1:N[j]?=some x)(h2:cix[j]?=some (some i)):X.N[i]?=some x/\scope.names.lookup x=some .free/\(X.env.scope.names.lookup x=some .cell\/X.env.scope.names.lookup x=some .free):=by
 have h:=c.caps
 unfold L2.caps at h
 rw [Bool.and_eq_true,Bool.and_eq_true] at h
 have hm:(x,some i)∈N.zip cix:=by
  refine List.mem_of_getElem? (i:=j) ?_
  rw [List.getElem?_zip_eq_some]
  exact ⟨h1,h2⟩
 have q:=List.all_eq_true.mp h.1.2 _ hm
 simp only [Bool.and_eq_true] at q
 refine ⟨eq_of_beq q.1.1,eq_of_beq q.1.2,?_⟩
 rcases Bool.or_eq_true_iff.mp q.2 with q | q
 ·exact .inl (eq_of_beq q)
 ·exact .inr (eq_of_beq q)
theorem zbN {fp:List Addr}{h':Heap}{tk:Nat}{m:Str->Option Value}(I:Inv X pins σ H s)(c:CompOk X scope N cix)(hf:∀ b∈fp,zdg X pins H b)(hfo:∀ b∈fp,b<s.heap.objs.size)
  (hn:h'.Ns s.heap.objs.size m) (hk:∀ b o,s.heap.get? b=some o->h'.get? b=some o) :
  Inv (zo X scope N s.heap.objs.size s H fp) [] (zcx σ cix) H { s with heap:=h',toks:=tk }:=by
 have hcl:=c.cells I.ok
 have back:∀ x a,(zdm X.env scope.names []).lookup x=some a->X.env.cells.lookup x=some a:=fun x a e=>by
  rcases xS hcl e with z | z
  ·exact z
  ·simp at z
 refine ⟨⟨I.mod,c.kind,I.ok.glob,I.ok.blt,Nat.le_refl _,fun x y a e1 e2=>I.ok.inj x y a (back x a e1) (back y a e2),fun x hx=>?_,fun x a z _=>absurd (show (false:Bool)=true from z) (by decide),I.ok.hd,I.ok.frames,.inl rfl,
  fun b hb=>⟨Nat.ne_of_lt (hfo b hb),fun x a e=>(hf b hb).2.2.2.2.1 x a (back x a e)⟩,I.bs,Nat.le_trans I.ok.bsz I.sz,fun b o e hb=>?_,fun b hb z=>?_,I.stack,I.stkFree⟩,
  I.os ▸ rfl,I.bare,Un.kept hk,⟨m,hn,fun j x v h1 h2 h3=>?_⟩,fun x a e=>?_,I.hok.fresh (Nat.le_refl _),fun x a e=>I.freeC x a (back x a e),fun p hp=>absurd (show p∈([]:List (Addr×Obj)) from hp) (by simp),I.hok.kept hk,?_⟩
 ·have hx':((relabel scope X.env).names.lookup x=some .cell\/(relabel scope X.env).names.lookup x=some .free):=hx
  rcases hx' with z | z
  ·exact zaw (ym c.cell z (.inl rfl))
  ·exact zaw (ym c.cell z (.inr rfl))
 ·rcases (hf b hb).2.2.2.1 with z | z
  ·exact I.ok.noex b o e z
  ·exact absurd (Nat.lt_of_lt_of_le (Heap.lt_size e) (Nat.le_trans I.ok.bsz z)) (Nat.lt_irrefl _)
 ·rcases List.mem_cons.mp (I.stkSub b z) with e | e
  ·exact (hf b hb).2.1 e
  ·exact (hf b hb).2.2.1 e
 ·have h1':N[j]?=some x:=h1
  unfold zcx at h2
  rw [List.getElem?_map] at h2
  cases e:cix[j]? with
  | none=>rw [e] at h2;cases h2
  | some o=>
   rw [e] at h2
   cases o with
   | none=>cases h2
   | some i=>
    have h2':(σ[i]?).join=some v:=Option.some.inj h2
    have h2'':σ[i]?=some (some v):=by
     cases q:σ[i]? with
     | none=>rw [q] at h2';cases h2'
     | some z=>rw [q] at h2';have:z=some v:=h2';rw [this]
    obtain ⟨q1,q2,q3⟩:=c.cap h1' e
    obtain ⟨m0,hn0,hl0⟩:=I.loc
    obtain ⟨u,ru,hu⟩:=hl0 i x v q1 h2'' (q3.elim (fun z=>.inr (.inl z)) fun z=>.inr (.inr z))
    refine ⟨u,ru,.inr ⟨yZ q2,?_⟩⟩
    rcases hu with ⟨z,_⟩ | ⟨_,a,ha,hcell⟩
    ·have z':X.env.scope.names.lookup x=some .local:=z
     rcases q3 with q3 | q3 <;> rw [z'] at q3 <;> cases q3
    ·obtain ⟨a',ha'⟩:=zaw (env:=X.env) (cs:=[]) q2
     have:a'=a:=by have:=(back x a' ha').symm.trans ha;exact Option.some.inj this
     subst this
     obtain ⟨oc,hoc,hd⟩:=hcell
     exact ⟨a',ha',oc,hk _ _ hoc,hd⟩
 ·obtain ⟨v,oc,hoc,hd⟩:=I.cell x a (back x a e)
  exact ⟨v,oc,hk _ _ hoc,hd⟩
 ·show (zcx σ cix).length=N.length
  unfold zcx
  rw [List.length_map,c.len]
theorem zdE {P:Program}{w:World}{H:Hp}{h h':Heap}{a:Addr}(x:HOk P w H h)(hn:H a=none)(hs:Heap.SameBut a h h'):HOk P w H h':=fun b o e=>by
 refine (x b o e).stay (fun c u hc q=>(hs.2 c ?_).trans q) (fun _ q=>q) fun _ _ q=>q
 rcases hc with rfl | hc
 ·exact zb e hn
 ·exact zb hc hn
theorem u9 {fp:List Addr}{σ':St}{H':Hp}{s':Shared}{h'':Heap}(I:Inv X pins σ H s)(hf:∀ b∈fp,zdg X pins H b)(I':Inv (zo X scope N s.heap.objs.size s H fp) [] σ' H' s')(hs:Heap.SameBut s.heap.objs.size s'.heap h'') :
  Inv X pins σ H' { s' with heap:=h'' }:=by
 have ne:∀ b o,s.heap.get? b=some o->b≠s.heap.objs.size:=fun b o e=>Nat.ne_of_lt (Heap.lt_size e)
 have u:=I'.base
 refine Inv.call' (ch:=fp) I I'.os ⟨fun b o e n hb hx=>?_,fun b o e n hb hx=>?_,u.free,fun b o e hx=>?_,u.tups,u.frzs,u.tbls⟩ (zdE I'.hok I'.free hs) I'.bare fun b hb=>⟨(hf b hb).2.2.2.1,(hf b hb).2.1,(hf b hb).2.2.2.2.1,(hf b hb).2.2.2.2.2⟩
 ·exact (hs.2 b (ne b o e)).trans (u.keep b o e n hb hx)
 ·obtain ⟨sl,q⟩:=u.slot b o e n hb hx
  exact ⟨sl,(hs.2 b (ne b o e)).trans q⟩
 ·obtain ⟨o',q⟩:=u.there b o e hx
  exact ⟨o',(hs.2 b (ne b o e)).trans q⟩
end
section
variable {prog:Program}{w:World}{A:Around}{R:Result->Shared->Prop}{s:Shared}
theorem uC {elt target iter:Expr}{ifs:List Expr}{scope:Scope}{pos:Pos}{it acc:Value}{env:Env}(I:Nat->Shared->Prop)
  (turn:∀ n s,I n s->wpAny (model prog w) A (pyNext it) (fun r s₁=>match r with
   | none=>R (.ok .next) s₁
   | some v=>wpAny (model prog w) A (letOwnedTupleGo target it v) (fun _ s₂=>wpAny (model prog w) A (assign target env v) (fun _ s₃=>
     wpAny (model prog w) A (forIn ifs true fun c r=>if r=true then do let ok <- isTrue c env (eval c env);pure (ForInStep.yield ok) else pure (ForInStep.yield r)) (fun ok s₄=>
      if ok=true then wpAny (model prog w) A (eval elt env) (fun x s₅=>
       wpAny (model prog w) A (call (.builtin "list.append") [acc,x]) (fun _ s₆=>∃ m,m<n/\I m s₆) (fun _ _=>False) s₅) (fun _ _=>False) s₄
      else ∃ m,m<n/\I m s₄) (fun _ _=>False) s₃) (fun _ _=>False) s₂) (fun _ _=>False) s₁) (fun _ _=>False) s)
  (n:Nat) (h:I n s) :
  codeAny (model prog w) A (.compLoop (.ListComp elt [⟨target,iter,ifs,0⟩] scope pos) 0 it acc env) R s:=by
 refine codeAny_loop rfl I (fun n s hI=>?_) n h
 show wpAny _ A ((compTurn (.ListComp elt [⟨target,iter,ifs,0⟩] scope pos) 0 it acc env).onRaise (fun x=>do noteFrame x env;theTreesLotGoes x)) _ _ s
 refine wpAny_noted ?_
 rw [compTurn_list]
 refine wpAny_bind (wpAny_standAt (wpAny_bind (wpAny_mono (turn n s hI) (fun r s₁ h₁=>?_) fun _ _ h'=>h'.elim)))
 cases r with
 | none=>exact wpAny_pure h₁
 | some v=>
  refine wpAny_bind (wpAny_mono h₁ (fun _ s₂ h₂=>?_) fun _ _ h'=>h'.elim)
  refine wpAny_bind (wpAny_mono h₂ (fun _ s₃ h₃=>wpAny_bind (wpAny_mono h₃ (fun ok s₄ h₄=>?_) fun _ _ h'=>h'.elim)) fun _ _ h'=>h'.elim)
  cases ok with
  | false=>exact wpAny_pure ⟨rfl,h₄⟩
  | true=>
   exact wpAny_bind (wpAny_bind (wpAny_mono h₄ (fun x s₅ h₅=>wpAny_bind (wpAny_mono h₅ (fun _ s₆ h₆=>wpAny_pure (wpAny_pure ⟨rfl,h₆⟩)) fun _ _ h'=>h'.elim)) fun _ _ h'=>h'.elim))
end
def PTs (X:Cx)(ifs:List Expr)(t:TT):Prop:=
 ∀ (pins:List (Addr×Obj)) (s:Shared) (σ:St) (H:Hp) (Q:Bool->Hp->Prop),Inv X pins σ H s->t σ H Q->
  wpAny (model X.prog X.w) X.A (forIn ifs true fun c r=>if r=true then do let ok <- isTrue c X.env (eval c X.env);pure (ForInStep.yield ok) else pure (ForInStep.yield r)) (TP X pins σ Q) X.xe s
def zag:TT:=fun _ H Q=>Q true H
theorem zkX {X:Cx}:PTs X [] zag:=fun pins s σ H Q I h=>wpAny_tests_nil ⟨H,I,h⟩
theorem zkY {X:Cx}{c:Expr}{t:TT}(h:PT X c t):PTs X [c] t:=fun pins s σ H Q I q=>wpAny_tests_one (h pins s σ H Q I q)
def ziV (wi:TI)(g:TG)(ti:TT)(te:TE)(cix:List (Option Nat)):TE:=fun σ H Q=>wi σ H fun J H1=>∀ acc,H1 acc=none->∃ W:Nat->Nat->St->Hp->Prop,(∃ m,W 0 m (zcx σ cix) (upd H1 acc (.lst [])))/\
 ∀ i m σ' H',W i m σ' H'->(J.stop i H'/\Q (.ref acc) H')\/(J.go i H'/\∃ N:St->Hp->Prop,(∀ σ2 H2,N σ2 H2->∃ m',m'<m/\W (i+1) m' σ2 H2)/\
  ∀ x H2,J.yld i H' x H2->g x σ' H2 fun σ3 H3=>ti σ3 H3 fun ok H4=>if ok=true then te σ3 H4 fun v H5=>∃ xs,H5 acc=some (.lst xs)/\xs.length<sizeLine/\N σ3 (upd H5 acc (.lst (xs++[v]))) else N σ3 H4)
theorem zkD {X:Cx}{elt tg iter:Expr}{ifs:List Expr}{scope:Scope}{pos:Pos}{wi:TI}{g:TG}{ti:TT}{te:TE}{N:List Str}{cix:List (Option Nat)}(hc:X.calm=true)(c:CompOk X scope N cix)
  (hi:PI X tg iter wi) (hg:∀ C s H ex,PG (zo X scope N C s H ex) tg g) (ht:∀ C s H ex,PTs (zo X scope N C s H ex) ifs ti) (he:∀ C s H ex,PE (zo X scope N C s H ex) elt te)
  (hs:∀ x,foldedSetIterable iter X.env x=pure x:=by intro _;rfl):PE X (.ListComp elt [⟨tg,iter,ifs,0⟩] scope pos) (ziV wi g ti te cix):=by
 intro pins s σ H Q I h
 rw [eval_ListComp]
 refine wpAny_comprehension_free (use:=none) rfl hs (u5 (c.cells I.ok)) c.kind c.names (thn (hi pins s σ H _ I h) fun xv s1 h1=>thn h1 fun itv s2 h2=>?_)
 obtain ⟨it,fp,tn,J,H2,e,I2,T,st2,f2,q2⟩:=h2
 subst e
 refine wpAny_newObj_type (wpAny_newFunctionEnv c.cell (by intro y hy;simp at hy) (fun h4 hns4 hsb4=>?_) c.kind)
 dsimp only at hns4 hsb4 ⊢
 have hnone:=I2.hok.fresh (Nat.le_refl s2.heap.objs.size)
 have I3:Inv X pins σ (upd H2 s2.heap.objs.size (.lst [])) { s2 with heap:=s2.heap.push { cls:=.type "list",dict:=none,data:=.seq ([]:List Value).toArray },toks:=s2.toks }:=I2.lnew (t':=s2.toks) .nil (by simp)
 obtain ⟨W,⟨m0,w0⟩,turn⟩:=q2 s2.heap.objs.size hnone
 have ltF:∀ b∈fp,b<s2.heap.objs.size:=fun b hb=>by
  obtain ⟨o,ho,_⟩:=T.obj _ _ st2 b hb
  exact Heap.lt_size ho
 have f3:∀ b∈fp,zdg X pins (upd H2 s2.heap.objs.size (.lst [])) b:=fun b hb=>⟨by rw [ze (Nat.ne_of_lt (ltF b hb))];exact (f2 b hb).1,(f2 b hb).2⟩
 have kp:∀ b o,(s2.heap.push { cls:=.type "list",dict:=none,data:=.seq ([]:List Value).toArray }).get? b=some o->h4.get? b=some o:=fun b o e=>
  hsb4.extBut b o (Nat.ne_of_lt (Heap.lt_size e)) (Heap.get?_push_of_some _ e)
 have sz3:s2.heap.objs.size<(s2.heap.push { cls:=.type "list",dict:=none,data:=.seq ([]:List Value).toArray }).objs.size:=by rw [Heap.size_push];exact Nat.lt_succ_self _
 have I4:=zbN (tk:=s2.toks+([]:List (Str×Value)).length) I3 c f3 (fun b hb=>Nat.lt_trans (ltF b hb) sz3) hns4 kp
 have st4:tn 0 h4:=T.keep _ _ _ st2 fun b hb o e=>kp b o (Heap.get?_push_of_some _ e)
 generalize hX:zo X scope N (s2.heap.push { cls:=.type "list",dict:=none,data:=.seq ([]:List Value).toArray }).objs.size
  { s2 with heap:=s2.heap.push { cls:=.type "list",dict:=none,data:=.seq ([]:List Value).toArray },toks:=s2.toks } (upd H2 s2.heap.objs.size (.lst [])) fp=X' at I4
 have pX:X'.prog=X.prog:=by rw [<- hX];rfl
 have wX:X'.w=X.w:=by rw [<- hX];rfl
 have KX:X'.K=X.K:=by rw [<- hX];rfl
 have AX:X'.A=X.A:=by rw [<- hX];rfl
 have cX:X'.calm=true:=by rw [<- hX];exact hc
 have xX:X'.xe=fun _ _=>False:=by rw [<- hX];rfl
 have eX:X'.env=compEnvC scope (zdm X.env scope.names []) (s2.heap.push { cls:=.type "list",dict:=none,data:=.seq ([]:List Value).toArray }).objs.size X.env:=by rw [<- hX];rfl
 have hg':PG X' tg g:=by rw [<- hX];exact hg _ _ _ _
 have ht':PTs X' ifs ti:=by rw [<- hX];exact ht _ _ _ _
 have he':PE X' elt te:=by rw [<- hX];exact he _ _ _ _
 have f4:∀ {H':Hp},(∀ b∈fp,H' b=none)->∀ b∈fp,zdg X' [] H' b:=fun {H'} hn b hb=>by
  refine ⟨hn b hb,?_,?_,.inl ?_,?_,?_⟩
  ·rw [eX];exact Nat.ne_of_lt (Nat.lt_trans (ltF b hb) sz3)
  ·have e1:X'.fs=frs X.stack:=by rw [<- hX];rfl
   rw [e1]
   intro z
   rcases List.mem_cons.mp (I2.stkSub b z) with e | e
   ·exact (f2 b hb).2.1 e
   ·exact (f2 b hb).2.2.1 e
  ·rw [<- hX];exact hb
  ·rw [eX]
   intro x a e
   rcases xS (c.cells I.ok) e with z | z
   ·exact (f2 b hb).2.2.2.2.1 x a z
   ·simp at z
  ·intro p hp
   have e1:X'.pn++([]:List (Addr×Obj))=[]:=by rw [<- hX];rfl
   rw [e1] at hp
   simp at hp
 have loop:∀ s4:Shared,s4={ s2 with heap:=h4,toks:=s2.toks+([]:List (Str×Value)).length }->
   codeAny (model X.prog X.w) X.A (.compLoop (.ListComp elt [⟨tg,iter,ifs,0⟩] scope pos) 0 (.ref it) (.ref s2.heap.objs.size) X'.env)
    (compPost (model X.prog X.w) X.A X.xe none (EP X pins σ Q) (.ref s2.heap.objs.size) (s2.heap.push { cls:=.type "list",dict:=none,data:=.seq ([]:List Value).toArray }).objs.size) s4:=by
  rintro s4 rfl
  refine uC (fun n s'=>∃ i σ' H',Inv X' [] σ' H' s'/\tn i s'.heap/\(∀ b∈fp,H' b=none)/\W i n σ' H') ?_ m0 ⟨0,zcx σ cix,_,I4,st4,fun b hb=>(f3 b hb).1,w0⟩
  rintro n s5 ⟨i,σ5,H5,I5,st5,fr5,w5⟩
  rcases turn i n σ5 H5 w5 with ⟨stop,qn⟩ | ⟨go,Nx,hN,step⟩
  ·have:=T.done X' pX wX KX cX i [] s5 σ5 H5 (fun _ _=>False) I5 (f4 fr5) st5 stop
   rw [AX] at this
   refine thn this fun r s6 ⟨hr,I6⟩=>?_
   subst hr
   obtain ⟨m6,hn6,_⟩:=I6.loc
   rw [eX] at hn6
   refine ⟨m6,hn6,fun h7 hs7=>?_⟩
   have I6':=I6
   rw [<- hX] at I6'
   exact ⟨.ref s2.heap.objs.size,H5,u9 I3 f3 I6' hs7,rfl,qn⟩
  ·have:=T.item X' pX wX KX cX i [] s5 σ5 H5 (fun _ _=>False) I5 (f4 fr5) st5 go
   rw [AX] at this
   refine thn this fun r s6 ⟨u,hr,h6⟩=>?_
   subst hr
   refine thn h6 fun _ s7 ⟨x,H7,I7,r7,y7,st7,fr7⟩=>?_
   have I7':=I7.pinned (f4 fr7) (T.obj _ _ st7)
   have a7:=hg' _ s7 σ5 H7 x u _ I7' r7 (step x H7 y7)
   rw [pX,wX,AX,xX] at a7
   refine thn a7 fun _ s8 ⟨σ8,H8,I8,q8⟩=>?_
   have t8:=ht' _ s8 σ8 H8 _ I8 q8
   rw [pX,wX,AX,xX] at t8
   refine thn t8 fun ok s9 ⟨H9,I9,q9⟩=>?_
   have again:∀ {s':Shared} {σ':St} {H':Hp},Inv X' ([]++xP fp s7.heap) σ' H' s'->Nx σ' H'->∃ m,m<n/\∃ i σ' H',Inv X' [] σ' H' s'/\tn i s'.heap/\(∀ b∈fp,H' b=none)/\W i m σ' H':=fun {s' σ' H'} J' n'=>by
    obtain ⟨m',hm,w'⟩:=hN σ' H' n'
    refine ⟨m',hm,i+1,σ',H',J'.unpinned,T.keep _ _ _ st7 fun b hb o e=>(J'.pin (b,o) (List.mem_append_right _ (List.mem_append_right _ (zT hb e)))).1,fun b hb=>?_,w'⟩
    obtain ⟨o,e,d⟩:=T.obj _ _ st7 b hb
    exact (J'.pin (b,o) (List.mem_append_right _ (List.mem_append_right _ (zT hb e)))).2.1
   cases ok with
   | false=>exact again I9 q9
   | true=>
    have e9:=he' _ s9 σ8 H9 _ I9 q9
    rw [pX,wX,AX,xX] at e9
    refine thn e9 fun u2 s10 ⟨v,H10,I10,r10,q10⟩=>?_
    obtain ⟨xs,hxs,hlt,nx⟩:=q10
    have m10:=uP (X:=X') _ s10 σ8 H10 (.ref s2.heap.objs.size) [v] (.ref s2.heap.objs.size) [u2] (fun _ H'=>Nx σ8 H') I10 rfl (.cons r10 .nil) ⟨_,xs,v,rfl,rfl,hxs,hlt,nx⟩
    rw [pX,wX,AX,xX] at m10
    refine thn m10 fun _ s11 ⟨_,H11,I11,_,n11⟩=>again I11 n11
 have l0:=loop _ rfl
 rw [eX] at l0
 exact codeAny_compStart_list l0 (T.self X.A 0 _ _ _ st4 l0)
structure Dfn (K:PySem.W.Frag)(mg:Str->Option Value)(x:Str)(st:Stmt)(ps:List Str)(f:Addr)(fd:FuncData):Prop where
 F:Fun K x x st f fd
 b:zeR K fd ps []
 m:mg x=some (.ref f)
section
variable {X:Cx}
theorem zo9 {x:Str}{st:Stmt}{ps:List Str}{f:Addr}{fd:FuncData}{sp:Sp}{j k:Nat}{e:Expr}{es:List Expr}{t:TA}{p pos:Pos}(D:Dfn X.K X.mg x st ps f fd)(G:FnOk X.prog X.w X.K X.mg X.base CX0 j f fd ps sp)(hr:Room k X.A)
  (ha:PA X (e::es) t) (hjk:j<=k:=by decide) (hg:Gl X x:=by rfl) (hdb:(x==("__debug__" : Str))=false:=by decide) (he:starEach (e::es) X.env=(false,eval e X.env)::starEach es X.env:=by rfl) (hpl:(backTo pos (starEach es X.env)).any (·.1)=false:=by rfl) :
  PE X (.Call (.Name x p) (e::es) [] pos) (zfj sp [] E0 t):=
 zkB G (hr.mono hjk) hg D.m D.F.kp D.b .nil zo6 ha hdb he hpl
end
structure QE (X:Cx)(e:Expr)(t:TE):Prop where
 run:PE X e t
structure QT (X:Cx)(e:Expr)(t:TT):Prop where
 run:PT X e t
structure QW (X:Cx)(e:Expr)(t:TT):Prop where
 run:PW X e t
structure QC (X:Cx)(op:CmpOp)(a b:Expr)(t:TE):Prop where
 run:PC X op a b t
structure QA (X:Cx)(es:List Expr)(t:TA):Prop where
 run:PA X es t
structure QS (X:Cx)(s:Stmt)(t:TS):Prop where
 run:PS X s t
structure QSs (X:Cx)(s:List Stmt)(t:TS):Prop where
 run:PSs X s t
structure QG (X:Cx)(e:Expr)(t:TG):Prop where
 run:PG X e t
structure QGs (X:Cx)(es:List Expr)(t:TGs):Prop where
 run:PGs X es t
structure QI (X:Cx)(tg e:Expr)(t:TI):Prop where
 run:PI X tg e t
structure QO (X:Cx)(e:Option Expr)(t:TO):Prop where
 run:PO X e t
structure QP (X:Cx)(pos:Pos)(ks:List (Option Expr))(vs:List Expr)(t:List (TE×TE)):Prop where
 run:PPs X pos ks vs t
structure QTs (X:Cx)(es:List Expr)(t:TT):Prop where
 run:PTs X es t
structure OpQ (X:Cx)(f:Value->Value->Sem Value)(r:R2):Prop where
 run:OpR X f r
structure UnQ (X:Cx)(f:Value->Sem Value)(r:V->Hp->VK->Prop):Prop where
 run:UnR X f r
structure CallQ (X:Cx)(f:Value)(r:List V->Hp->VK->Prop):Prop where
 run:zbF X f r
structure IxQ (X:Cx)(r:R2):Prop where
 run:IxR X r
structure SlQ (X:Cx)(r:V->Option Int->Option Int->Hp->VK->Prop):Prop where
 run:SlR X r
section
variable {X:Cx}{e a b c:Expr}{es:List Expr}{te ta tb tc:TE}{t u:TT}{pos p:Pos}
theorem qv (i:Nat){x:Str}{pos:Pos}(hN:X.N[i]?=some x:=by rfl)(hv:Vis X.env.scope x:=by first | exact Or.inl rfl | exact Or.inr (Or.inl rfl) | exact Or.inr (Or.inr rfl))(hd:(x==("__debug__" : Str))=false:=by decide)
  (hcd:(x==("__classdict__" : Str))=false:=by decide):QE X (.Name x pos) (zlh i):=⟨zjw hN hv hd hcd⟩
theorem zl {i:Int}{j:Nat}:QE X (.Constant (.int i) j pos) (tC (.int i)):=⟨zmG⟩
theorem zk0 {k:Bool}{j:Nat}:QE X (.Constant (.bool k) j pos) (tC (.bl k)):=⟨zo7⟩
theorem xf {x:Str}{j:Nat}:QE X (.Constant (.str x) j pos) (tC (.str x)):=⟨zmK⟩
theorem ziK {x:Str}{v:V}(hg:Gl X x)(h:∃ w,zX v w/\X.mg x=some w)(hd:(x==("__debug__" : Str))=false:=by decide):QE X (.Name x pos) (tC v):=by
 obtain ⟨w,r,hm⟩:=h
 exact ⟨zkG hg hm r hd⟩
theorem zk1 {x:Str}{v:V}{w:Value}(hg:Gl X x)(hm:X.mg x=none)(hv:bootBuiltins x=some w)(r:zX v w)(hn:x ≠ "__name__" := by decide)(hd:(x==("__debug__" : Str))=false:=by decide):QE X (.Name x pos) (tC v):=⟨zkA hg hm hv r hn hd⟩
theorem xZ:OpQ X (binaryOp .Add) (rI0 fun i j=>.int (i+j)):=⟨zmr⟩
theorem zmC:OpQ X (binaryOp .Sub) (rI0 fun i j=>.int (i - j)):=⟨zmy⟩
theorem xO:OpQ X (binaryOp .Mult) (rI zi5 fun i j=>.int (i * j)):=⟨zmv⟩
theorem zdV:OpQ X (binaryOp .FloorDiv) (rI CDiv fun i j=>.int (i / j)):=⟨zkw⟩
theorem uS:OpQ X (binaryOp .Mod) (rI (fun _ j=>0<j) fun i j=>.int (i % j)):=⟨zmu⟩
theorem zgM:OpQ X (binaryOp .Pow) (rI CPow fun i j=>.int (i ^ j.toNat)):=⟨zmx⟩
theorem zb6:OpQ X (binaryOp .Add) (zg1 X.K):=⟨zku⟩
theorem zmz:OpQ X (binaryOp .Add) rCat:=⟨zms⟩
theorem zky:OpQ X (compareOp .Lt) (rI0 fun i j=>.bl (decide (i<j))):=⟨zo2⟩
theorem zat:OpQ X (compareOp .LtE) (rI0 fun i j=>.bl (decide (i<=j))):=⟨zo1⟩
theorem zmB:OpQ X (compareOp .Gt) (rI0 fun i j=>.bl (decide (j<i))):=⟨zo0⟩
theorem zo4:OpQ X (compareOp .GtE) (rI0 fun i j=>.bl (decide (j<=i))):=⟨zoZ⟩
theorem zkx:OpQ X (compareOp .Eq) rEq:=⟨zoY⟩
theorem zcY:OpQ X (compareOp .NotEq) rNe:=⟨zo3⟩
theorem y8:OpQ X (compareOp .IsNot) (fun x y H Q=>∃ a b,x = .bl a/\y = .bl b/\Q (.bl (a != b)) H):=⟨zdT⟩
theorem zan:OpQ X (compareOp .NotIn) (rIn X.K true):=⟨zcX⟩
theorem zdb:UnQ X (unaryOp .USub) (rU fun i=>.int (-i)):=⟨znM⟩
theorem z5 {op:Operator}{r:R2}(ho:OpQ X (binaryOp op) r)(ha:QE X a ta)(hb:QE X b tb):QE X (.BinOp a op b pos) (tOp r ta tb):=⟨zpb ho.run ha.run hb.run⟩
theorem zpi {op:UnaryOp}{r:V->Hp->VK->Prop}(ho:UnQ X (unaryOp op) r)(ha:QE X a ta):QE X (.UnaryOp op a pos) (tUn r ta):=⟨zpc ho.run ha.run⟩
theorem zb8 {op:CmpOp}{r:R2}(ho:OpQ X (compareOp op) r)(ha:QE X a ta)(hb:QE X b tb)(hm:behindInMarks op b=false):QE X (.Compare a [op] [b] pos) (tOp r ta tb):=⟨zkC ho.run ha.run hb.run hm⟩
theorem uA {op:CmpOp}{r:R2}(ho:OpQ X (compareOp op) r)(ha:QE X a ta)(hb:QE X b tb)(hm:behindInMarks op b=false):QT X (.Compare a [op] [b] pos) (zhn (tOp r ta tb)):=⟨zkW ho.run ha.run hb.run hm⟩
theorem ziI {op op':CmpOp}{r r':R2}(ho:OpQ X (compareOp op) r)(ho':OpQ X (compareOp op') r')(ha:QE X a ta)(hb:QE X b tb)(hc:QE X c tc)(hm:lastMarks [op,op'] [b,c]=false:=by with_unfolding_all rfl) :
  QE X (.Compare a [op,op'] [b,c] pos) (zc8 r r' ta tb tc):=⟨zix ho.run ho'.run ha.run hb.run hc.run hm⟩
theorem ziN {op op':CmpOp}{r r':R2}(ho:OpQ X (compareOp op) r)(ho':OpQ X (compareOp op') r')(ha:QE X a ta)(hb:QE X b tb)(hc:QE X c tc)(hm:lastMarks [op,op'] [b,c]=false:=by with_unfolding_all rfl) :
  QT X (.Compare a [op,op'] [b,c] pos) (zhn (zc8 r r' ta tb tc)):=⟨ziH ho.run ho'.run ha.run hb.run hc.run hm⟩
theorem zm3 (hu:X.A.units+1<cLine)(ha:QE X a ta)(hb:QE X b tb):QC X .In a b (zpr ta tb):=⟨zmE hu ha.run hb.run⟩
theorem zna {op:CmpOp}(h:QC X op a b te)(h1:behindInMarks op b=false:=by first | exact zbW _ (by decide) (by decide) | rfl):QT X (.Compare a [op] [b] pos) (tB te):=⟨zmY h.run h1⟩
theorem zjB (h:QE X e te)(he:∀ whole,isTrue e X.env whole=(do let v <- whole;standAt e.pos;holding [v] (truthy v)):=by intro _;rfl):QT X e (tB te):=⟨zm0 h.run he⟩
theorem znb (h:QT X a t):QT X (.UnaryOp .Not a pos) (tNot t):=⟨zmZ h.run⟩
theorem zd1 (h:QT X a t):QW X (.BoolOp .And [a] pos) t:=⟨zkZ h.run⟩
theorem znc (h:QT X a t):QW X (.BoolOp .Or [a] pos) t:=⟨zm2 h.run⟩
theorem zjC {z6:List Expr}(h:QT X a t)(h':QW X (.BoolOp .And (b::z6) pos) u):QW X (.BoolOp .And (a::b::z6) pos) (tAnd t u):=⟨zm1 h.run h'.run⟩
theorem zpj {z6:List Expr}(h:QT X a t)(h':QW X (.BoolOp .Or (b::z6) pos) u):QW X (.BoolOp .Or (a::b::z6) pos) (tOr t u):=⟨zph h.run h'.run⟩
theorem QW.pt (h:QW X e t):QT X e t:=⟨h.run.pt⟩
theorem zm7 {op:BoolOp}(h:QE X a ta):QE X (.BoolOp op [a] pos) ta:=⟨zmJ h.run⟩
theorem zm4 {z6:List Expr}(ha:QE X a ta)(hb:QE X (.BoolOp .And (b::z6) pos) tb):QE X (.BoolOp .And (a::b::z6) pos) (znv ta tb):=⟨zmF ha.run hb.run⟩
theorem zm6 (ha:QE X a ta):QE X (.UnaryOp .Not a pos) (znE ta):=⟨zmI ha.run⟩
theorem ziL (hc:QT X c t)(ha:QE X a ta)(hb:QE X b tb):QE X (.IfExp c a b pos) (tIf t ta tb):=⟨ziA hc.run ha.run hb.run⟩
theorem zA:QA X [] znD:=⟨zmD⟩
theorem zd {ts:TA}(ha:QE X e te)(hr:QA X es ts)(hs:starEach (e::es) X.env=(false,eval e X.env)::starEach es X.env:=by rfl):QA X (e::es) (zfk te ts):=⟨zkz ha.run hr.run hs⟩
theorem zeE {x1}{ts:TA}(h:QA X es ts):QE X (.Tuple es x1 pos) (tTup ts):=⟨zmL h.run⟩
theorem zeD {ts:TA}(h:QA X es ts):QE X (.List es pos) (tLst ts):=⟨zmH h.run⟩
theorem zk6:QP X pos [] [] []:=⟨zkQ⟩
theorem zcb {k v:Expr}{ks:List (Option Expr)}{vs:List Expr}{tk tv:TE}{trs:List (TE×TE)}(hk:QE X k tk)(hv:QE X v tv)(hr:QP X pos ks vs trs):QP X pos (some k::ks) (v::vs) ((tk,tv)::trs):=⟨ziE hk.run hv.run hr.run⟩
theorem zk3 {keys:List (Option Expr)}{values:List Expr}{trs:List (TE×TE)}(h:QP X pos keys values trs)(hall:keys.all (·.isSome)=true)(hl:keys.length=values.length)(h0:keys≠[])(h15:keys.length<=15):QE X (.Dict keys values pos) (zny trs):=⟨zkF h.run hall hl h0 h15⟩
theorem zgY:QO X none zhl:=⟨zkO⟩
theorem zgZ (h:QE X e te):QO X (some e) (znF te):=⟨zkP h.run⟩
theorem zle:SlQ X rSlA:=⟨zld⟩
theorem zhi:SlQ X (rSlL X.K):=⟨zlc⟩
theorem zb9 {r:V->Option Int->Option Int->Hp->VK->Prop}{lo hi:Option Expr}{tl th:TO}{p2:Pos}(hr:SlQ X r)(he:QE X e te)(hl:QO X lo tl)(hu:QO X hi th):QE X (.Subscript e (.Slice lo hi none p2) pos) (tSl r te tl th):=⟨ziB hr.run he.run hl.run hu.run⟩
theorem xa:IxQ X (zn3 X.K):=⟨zj6⟩
theorem xz:IxQ X (zn4 X.K):=⟨zl2⟩
theorem zfb {r:R2}(hr:IxQ X r)(ha:QE X a ta)(hb:QE X b tb)(hs:zdh b):QE X (.Subscript a b pos) (tOp r ta tb):=⟨zpa hr.run ha.run hb.run hs⟩
theorem xE (hu:X.A.units+1<cLine)(ha:QE X a ta)(hb:QE X b tb)(hs:znW b):QE X (.Subscript a b pos) (znw ta tb):=⟨zkE hu ha.run hb.run hs⟩
theorem yJ:CallQ X (.builtin "len") (fun xs H Q=>∃ x n,xs=[x]/\znV X.K x H n/\Q (.int n) H):=⟨zhV⟩
theorem zfM:CallQ X (.builtin "abs") (fun xs H Q=>∃ i,xs=[.int i]/\Q (.int (if i<0 then -i else i)) H):=⟨zhU⟩
theorem zjN (hc:X.calm=true):CallQ X (.builtin "min") (fun xs H Q=>∃ i j,xs=[.int i,.int j]/\Q (.int (if j<i then j else i)) H):=⟨zfG hc⟩
theorem zfN:CallQ X (.builtin "isinstance") (fun xs H Q=>∃ x T t b,xs=[x,.ty T]/\TyOf X.K H x t/\PySem.W.kitOne X.K t (.type T)=some b/\Q (.bl b) H):=⟨zdl⟩
theorem zeX:CallQ X (.type "list") (fun xs H Q=>∃ p ys,xs=[.ref p]/\(SqL X.K H p ys\/SqT X.K H p ys)/\∀ l,H l=none->Q (.ref l) (upd H l (.lst ys))):=⟨zcw⟩
theorem zaK:CallQ X (.type "tuple") (fun xs H Q=>∃ p ys,xs=[.ref p]/\((SqL X.K H p ys/\∀ l,H l=none->Q (.ref l) (upd H l (.tup ys)))\/(SqT X.K H p ys/\Q (.ref p) H))):=⟨zbJ⟩
theorem yH {id:String}{r:List V->Hp->VK->Prop}{x:Str}{ts:TA}(hc:CallQ X (.builtin id) r)(hg:Gl X x)(hm:X.mg x=none)(hv:bootBuiltins x=some (.builtin id))(ha:QA X (e::es) ts)(hn:x ≠ "__name__" := by decide)(hdb:(x==("__debug__" : Str))=false:=by decide)
  (he:starEach (e::es) X.env=(false,eval e X.env)::starEach es X.env:=by rfl) (hpl:(backTo pos (starEach es X.env)).any (·.1)=false:=by rfl):QE X (.Call (.Name x p) (e::es) [] pos) (tCB r ts):=⟨ziw hc.run hg hm hv ha.run hn hdb he hpl⟩
theorem uT {T:String}{r:List V->Hp->VK->Prop}{x:Str}{ts:TA}(hc:CallQ X (.type T) r)(hg:Gl X x)(hm:X.mg x=none)(hv:bootBuiltins x=some (.type T))(ha:QA X (e::es) ts)(hn:x ≠ "__name__" := by decide)(hdb:(x==("__debug__" : Str))=false:=by decide)
  (he:starEach (e::es) X.env=(false,eval e X.env)::starEach es X.env:=by rfl) (hpl:(backTo pos (starEach es X.env)).any (·.1)=false:=by rfl):QE X (.Call (.Name x p) (e::es) [] pos) (tCB r ts):=⟨zgO hc.run hg hm hv ha.run hn hdb he hpl⟩
theorem zba {x:Str}{st:Stmt}{ps:List Str}{f:Addr}{fd:FuncData}{sp:Sp}{j k:Nat}{ts:TA}(D:Dfn X.K X.mg x st ps f fd)(G:FnOk X.prog X.w X.K X.mg X.base CX0 j f fd ps sp)(hr:Room k X.A)
  (ha:QA X (e::es) ts) (hjk:j<=k:=by decide) (hg:Gl X x:=by rfl) (hdb:(x==("__debug__" : Str))=false:=by decide) (he:starEach (e::es) X.env=(false,eval e X.env)::starEach es X.env:=by rfl) (hpl:(backTo pos (starEach es X.env)).any (·.1)=false:=by rfl) :
  QE X (.Call (.Name x p) (e::es) [] pos) (zfj sp [] E0 ts):=⟨zo9 D G hr ha.run hjk hg hdb he hpl⟩
theorem x4 {i:Nat}{x:Str}(hN:X.N.Nodup)(hi:X.N[i]?=some x)(hx:Loc X.env.scope x)(hf:X.fn x=true\/X.env.scope.names.lookup x=some .local:=by first | exact .inl rfl | exact .inr rfl | assumption):QG X (.Name x pos) (u8 i):=⟨zkK hN hi hx hf⟩
theorem zgW:QGs X [] gNil:=⟨zkL⟩
theorem zca {g:TG}{gs:TGs}(h1:QG X e g)(h2:QGs X es gs)(hs:(assignEach (e::es) X.env).map (·.2)=assign e X.env::(assignEach es X.env).map (·.2):=by rfl):QGs X (e::es) (zlV g gs):=⟨ziC h1.run h2.run hs⟩
theorem zjz {k:Nat}{gs:TGs}{n:Nat}(hc:X.calm=true)(h:QGs X es gs)(hn:(assignEach es X.env).length=n:=by rfl)(hst:(assignEach es X.env).findIdx? (·.1)=none:=by rfl):QG X (.Tuple es k pos) (zox X.K n gs):=⟨zmR hc h.run hn hst⟩
theorem zdY {tg:Expr}(hl:QE X e te):QI X tg e (zjZ X.K te):=⟨zkN hl.run⟩
theorem zjA {tg:Expr}(hl:QE X e te):QI X tg e (zoz X.K te):=⟨zmS hl.run⟩
theorem zc0 {tg:Expr}{ts:TA}(hg:Gl X "range")(hm:X.mg "range" = none)(ha:QA X [a] ts)(hs:starEach [a] X.env=[(false,eval a X.env)]:=by rfl):QI X tg (.Call (.Name "range" p) [a] [] pos) (zlZ ts):=⟨zgR hg hm ha.run hs⟩
theorem zd0:QTs X [] zag:=⟨zkX⟩
theorem zk9 (h:QT X c t):QTs X [c] t:=⟨zkY h.run⟩
theorem zk2 {elt tg iter:Expr}{ifs:List Expr}{scope:Scope}{wi:TI}{g:TG}{ti:TT}{N:List Str}{cix:List (Option Nat)}(hc:X.calm=true)(c:CompOk X scope N cix)
  (hi:QI X tg iter wi) (hg:∀ C s H ex,QG (zo X scope N C s H ex) tg g) (ht:∀ C s H ex,QTs (zo X scope N C s H ex) ifs ti) (he:∀ C s H ex,QE (zo X scope N C s H ex) elt te)
  (hs:∀ x,foldedSetIterable iter X.env x=pure x:=by intro _;rfl):QE X (.ListComp elt [⟨tg,iter,ifs,0⟩] scope pos) (ziV wi g ti te cix):=⟨zkD hc c hi.run (fun C s H ex=>(hg C s H ex).run) (fun C s H ex=>(ht C s H ex).run) (fun C s H ex=>(he C s H ex).run) hs⟩
end
section
variable {X:Cx}{st:Stmt}{sts body a b:List Stmt}{t u:TS}{e o i:Expr}{te td ty tv:TE}{pos:Pos}
theorem zae:QSs X [] znC:=⟨zkU⟩
theorem zm (h1:QS X st t)(h2:QSs X sts u):QSs X (st::sts) (zpu t u):=⟨ziG h1.run h2.run⟩
theorem ye (h1:QS X st t):QSs X [st] t:=⟨zkV h1.run⟩
theorem zk7 (he:QE X e te)(hs:swapsWith e none pos.line X.env=pure false:=by rfl):QS X (.Expr e pos) (znz te):=⟨zkS he.run hs⟩
theorem uU (he:QE X e te):QS X (.Return (some e) pos) (zpt te):=⟨zmW he.run⟩
theorem zfc {c:Expr}{tc:TT}(hc:QT X c tc)(ha:QSs X a t)(hb:QSs X b u):QS X (.If c a b pos) (tIfS tc t u):=⟨zpf hc.run ha.run hb.run⟩
theorem yd {i:Nat}{x:Str}{pos':Pos}(hN:X.N.Nodup)(hi:X.N[i]?=some x)(hx:Loc X.env.scope x)(he:QE X e te)(hs:swapsWith e (some (.Name x pos')) pos.line X.env=pure false:=by rfl)(hf:X.fn x=true\/X.env.scope.names.lookup x=some .local:=by first | exact .inl rfl | exact .inr rfl | assumption) :
  QS X (.Assign [.Name x pos'] e pos) (zfi te (u8 i)):=⟨zmX hN hi hx he.run hs hf⟩
theorem zm9 {tg:Expr}{g:TG}(he:QE X e te)(hg:QG X tg g)(hs:swapsWithSole [tg] e pos.line X.env=pure false:=by rfl)(hw:swappedStores [tg] e X.env=pure none:=by rfl)
  (h1:(assignEach [tg] X.env).map (·.2)=[assign tg X.env]:=by rfl):QS X (.Assign [tg] e pos) (zfi te g):=⟨zmU he.run hg.run hs hw h1⟩
theorem zdZ {pos':Pos}(hu:X.A.units+1<cLine)(ho:QE X o td)(hi:QE X i ty)(hv:QE X e tv)(hs:swapsWith e (some (.Subscript o i pos')) pos.line X.env=pure false):QS X (.Assign [.Subscript o i pos'] e pos) (znp td ty tv):=⟨zkR hu ho.run hi.run hv.run hs⟩
theorem zc1 {tg iter:Expr}{wi:TI}{g:TG}(hp:PassesOwn (model X.prog X.w) X.A X.env X.xe)(hc:X.calm=true)(hi:QI X tg iter wi)(hg:QG X tg g)(hb:QSs X body t)(hs:∀ x,foldedSetIterable iter X.env x=pure x:=by intro _;rfl):QS X (.For tg iter body [] pos) (zps wi g t):=⟨zmV hp hc hi.run hg.run hb.run hs⟩
end
theorem Fun.okQ {P:Program}{w:World}{K:PySem.W.Frag}{mg:Str->Option Value}{base:Heap}{x qual:Str}{st:Stmt}{f:Addr}{fd:FuncData}{N ps:List Str}{k:Nat}{sp:Sp}(F:Fun K x qual st f fd)(S:FnScope N ps (za st))(len:∀ vs H Q E,sp vs H Q E->vs.length=ps.length)
  (hbody:∀ (cdv:Value) (A:Around) (outer:List Env) (s:Shared) (H:Hp) (vs:List V) (Q:VK) (E:XK),Room k (A.deeper (envOfC qual (za st) s.heap.objs.size f cdv))->sp vs H Q E->
   ∃ t,QSs (zde CX0 P w K mg base N qual (za st) f cdv A outer s H E).nox (zi st) t/\t { nx:=fun _ H'=>Q .non H',rt:=Q } (xH N vs) H):FnOk P w K mg base CX0 (k+1) f fd ps sp:=
 F.ok S len fun cdv A outer s H vs Q E hr h=>by
  obtain ⟨t,h1,h2⟩:=hbody cdv A outer s H vs Q E hr h
  exact ⟨t,h1.run,h2⟩
theorem s_ca:¬ (("cells" : Str) = "at"):=by decide +kernel
theorem s_cl:¬ (("cells" : Str) = "left"):=by decide +kernel
theorem s_al:¬ (("at" : Str) = "left"):=by decide +kernel
theorem zoE:¬ (Sum.inr "cells" : Key)=(Sum.inr "at" : Key):=fun z=>s_ca (Sum.inr.inj z)
theorem zoF:¬ (Sum.inr "cells" : Key)=(Sum.inr "left" : Key):=fun z=>s_cl (Sum.inr.inj z)
theorem znZ:¬ (Sum.inr "at" : Key)=(Sum.inr "left" : Key):=fun z=>s_al (Sum.inr.inj z)
def uX (c:Addr)(a l:Int):List (Key×V):=[(Sum.inr "cells",.ref c),(Sum.inr "at",.int a),(Sum.inr "left",.int l)]
theorem zpd (c:Addr)(a l:Int):uY (uX c a l) (Sum.inr "cells" : Key)=some (.ref c):=xI rfl
theorem zkJ (c:Addr)(a l:Int):uY (uX c a l) (Sum.inr "at" : Key)=some (.int a):=by
 unfold uX
 rw [xi zoE,xI rfl]
theorem zpe (c:Addr)(a l:Int):uY (uX c a l) (Sum.inr "left" : Key)=some (.int l):=by
 unfold uX
 rw [xi zoF,xi znZ,xI rfl]
theorem zmO (c:Addr)(a l b:Int):zbz (uX c a l) (Sum.inr "at" : Key) (.int b)=uX c b l:=by
 unfold zbz uX
 have e1:=zoE
 have e2:¬ (Sum.inr "left" : Key)=(Sum.inr "at" : Key):=fun z=>znZ z.symm
 simp [e1,e2]
theorem zmP (c:Addr)(a l b:Int):zbz (uX c a l) (Sum.inr "left" : Key) (.int b)=uX c a b:=by
 unfold zbz uX
 have e1:=zoF
 have e2:=znZ
 simp [e1,e2]
theorem zmN (c:Addr)(a l:Int):za2 [] (uX c a l)=uX c a l:=by
 unfold za2 uX
 have e1:=zoE
 have e2:=zoF
 have e3:=znZ
 simp [zbz,e1,e2,e3]
structure Pen (H:Hp)(p c:Addr)(ns:List Int)(n:Nat):Prop where
 ob:∃ a l:Int,H p=some (.dK (uX c a l))/\0<=a/\a<=n/\0<=l
 ls:H c=some (.lst (ns.map V.int))
 len:ns.length<=63
theorem Pen.mono {H:Hp}{p c:Addr}{ns:List Int}{n m:Nat}(P:Pen H p c ns n)(h:n<=m):Pen H p c ns m:=by
 obtain ⟨⟨a,l,h1,h2,h3,h4⟩,h5,h6⟩:=P
 exact ⟨⟨a,l,h1,h2,by lia,h4⟩,h5,h6⟩
theorem Pen.same {H H':Hp}{p c:Addr}{ns:List Int}{n:Nat}(P:Pen H p c ns n)(h:yL H H'):Pen H' p c ns n:=by
 obtain ⟨⟨a,l,h1,h2,h3,h4⟩,h5,h6⟩:=P
 exact ⟨⟨a,l,h _ _ h1,h2,h3,h4⟩,h _ _ h5,h6⟩
theorem zcf {H:Hp}{p c:Addr}{a l:Int}{o:HO}(h:H p=some (.dK (uX c a l))):zu H (upd H p o):=fun b u e n=>by
 by_cases hb:b=p
 ·subst hb
  rw [h] at e
  cases e
  have:=n _ rfl
  rw [zkJ] at this
  cases this
 ·rw [ze hb];exact e
section
variable {H:Hp}{p c:Addr}{a l:Int}
theorem zeC (h:H p=some (.dK (uX c a l))):zco H p (.str "cells") (some (.ref c)):=by
 have:=zco.k (k:=(Sum.inr "cells" : Key)) h
 rw [zpd] at this
 exact this
theorem zmM (h:H p=some (.dK (uX c a l))):zco H p (.str "at") (some (.int a)):=by
 have:=zco.k (k:=(Sum.inr "at" : Key)) h
 rw [zkJ] at this
 exact this
theorem zgP (h:H p=some (.dK (uX c a l))):zco H p (.str "left") (some (.int l)):=by
 have:=zco.k (k:=(Sum.inr "left" : Key)) h
 rw [zpe] at this
 exact this
theorem zmQ (h:H p=some (.dK (uX c a l)))(b:Int):zi6 H p (.str "at") (.int b) (upd H p (.dK (uX c b l))):=by
 have:=zi6.k (k:=(Sum.inr "at" : Key)) (v:=.int b) h (by show 3<sizeLine;decide)
 rw [zmO] at this
 exact this
theorem zjx (h:H p=some (.dK (uX c a l)))(b:Int):zi6 H p (.str "left") (.int b) (upd H p (.dK (uX c a b))):=by
 have:=zi6.k (k:=(Sum.inr "left" : Key)) (v:=.int b) h (by show 3<sizeLine;decide)
 rw [zmP] at this
 exact this
end
theorem zlz (ns:List Int)(a:Int)(h:0<((ns.map V.int).length:Int)):∃ z,atI (ns.map V.int) (a % ((ns.map V.int).length:Int))=some (.int z):=by
 have h0:=Int.emod_nonneg a (show ((ns.map V.int).length:Int)≠0 by lia)
 have h1:=Int.emod_lt_of_pos a h
 generalize hm:a % ((ns.map V.int).length:Int)=m at h0 h1
 obtain ⟨j,rfl⟩:∃ j:Nat,m=j:=⟨m.toNat,by lia⟩
 have hj:j<ns.length:=by rw [List.length_map] at h1;lia
 exact ⟨ns[j],zdk (by simp [hj])⟩
theorem zhT (a:Int):∃ z,atI ([.int 2147483647,.int 2147483629,.int 2147483587,.int 2147483579,.int 2147483563,.int 2147483549,.int 2147483543]:List V) (a % 7)=some (.int z)/\0<z/\z<=2147483647:=by
 have h0:=Int.emod_nonneg a (show (7:Int)≠0 by decide)
 have h1:=Int.emod_lt_of_pos a (show (0:Int)<7 by decide)
 generalize a % 7=m at h0 h1
 obtain ⟨j,rfl⟩:∃ j:Nat,m=j:=⟨m.toNat,by lia⟩
 have hj:j=0\/j=1\/j=2\/j=3\/j=4\/j=5\/j=6:=by lia
 rcases hj with rfl | rfl | rfl | rfl | rfl | rfl | rfl <;> exact ⟨_,zdk rfl,by decide,by decide⟩
theorem ziT {a:Int}{n:Nat}(h0:0<=a)(h1:a<=n)(h2:n<=1000000):0<=60013 * a * a/\60013 * a * a<=60013000000000000:=by
 have e:60013 * a * a=60013 * (a * a):=Int.mul_assoc _ _ _
 have m0:0<=a * a:=Int.mul_nonneg h0 h0
 have m1:a * a<=1000000 * 1000000:=Int.mul_le_mul (by lia) (by lia) h0 (by lia)
 rw [e]
 lia
theorem zdj {xs:List V}{i:Int}(h0:0<=i)(h1:i<xs.length):∃ v,atI xs i=some v/\v∈xs:=by
 obtain ⟨j,rfl⟩:∃ j:Nat,i=j:=⟨i.toNat,by lia⟩
 have hj:j<xs.length:=by lia
 exact ⟨xs[j],zdk (List.getElem?_eq_getElem hj),List.getElem_mem hj⟩
theorem meet {α:Type}{G:Prop}(P:α->Prop)(h:(∀ a,P a)->G)(r:∀ a,P a):G:=h r
theorem zoW {G:Prop}(P:Prop)(h:P->G)(r:P):G:=h r
def zeJ:Sp:=fun vs H Q _=>∃ (p c:Addr) (ns:List Int) (n:Nat) (zE:Int),vs=[.ref p,.int zE]/\Pen H p c ns n/\n<=1000000/\1<=zE/\zE<1073741824/\
 ∀ (r:Int) (H':Hp),0<=r->r<zE->Pen H' p c ns (n+1)->zu H H'->Q (.int r) H'
def ziS (K:PySem.W.Frag):Sp:=fun vs H Q _=>∃ (a:Addr) (ns:List Int),vs=[.ref a]/\SqL K H a (ns.map V.int)/\ns.length<=63/\∀ (p c:Addr) (H':Hp),Pen H' p c ns 0->yL H H'->Q (.ref p) H'
def xm (ns:List Int):Int:=ns.foldl (· * ·) 1
theorem uc (ns:List Int)(n:Int):xm (ns++[n])=xm ns * n:=by unfold xm;rw [List.foldl_append];rfl
theorem zv {α:Type}{l:List α}{i:Nat}{x:α}(h:l[i]?=some x):l.take (i+1)=l.take i++[x]:=by
 rw [List.take_succ,h];rfl
def zhh:Sp:=fun vs H Q _=>∃ (a:Addr) (ns:List Int),vs=[.ref a]/\H a=some (.tup (ns.map V.int))/\(∀ n∈ns,2<=n/\n<=4)/\Q (.int (xm ns)) H
def zeK:Sp:=fun vs H Q _=>∃ (p c:Addr) (ns:List Int) (n:Nat) (most:Int),vs=[.ref p,.int most]/\Pen H p c ns n/\n+20<=1000000/\4<=most/\most<=256/\
 ∀ (a:Addr) (rm:List Int) (H':Hp),H' a=some (.tup (rm.map V.int))->rm≠[]->rm.length<=8->(∀ r∈rm,2<=r/\r<=4)->xm rm<=most->Pen H' p c ns (n+10)->zu H H'->Q (.ref a) H'
def zhg (K:PySem.W.Frag):Sp:=fun vs H Q _=>∃ (a:Addr) (ns:List Int),vs=[.ref a]/\SqL K H a (ns.map V.int)/\ns.length<=63/\∀ H',Q (.bl true) H'
theorem zjs {g:TG}{x:V}{σ:St}{H:Hp}{A B:St->Hp->Prop}(h:g x σ H A):g x σ H fun σ3 H3=>zag σ3 H3 fun ok H4=>if ok=true then A σ3 H4 else B σ3 H4:=by
 have e:(fun σ3 H3=>zag σ3 H3 fun ok H4=>if ok=true then A σ3 H4 else B σ3 H4)=A:=by
  funext σ3 H3
  show (if true=true then A σ3 H3 else B σ3 H3)=A σ3 H3
  rw [if_pos rfl]
 rw [e]
 exact h
section
variable {prog:Program}{w:World}{A:Around}{E:Value->Shared->Prop}{s:Shared}
theorem yy {it t:Addr}{i:Nat}{items}{x:Value}{Q:Value->Shared->Prop}(hit:s.heap.IsTupleIter it t i)(ht:s.heap.IsTuple t items)(hx:items[i]?=some x)
  (hQ:∀ h',h'.IsTupleIter it t (i+1)->Heap.SameBut it s.heap h'->Q x { s with heap:=h' }):wpAny (model prog w) A (Builtin.SmallTypes.nextOf (.ref it)) Q E s:=by
 obtain ⟨o,ho,hc,hd⟩:=id hit
 obtain ⟨ol,hol,_,nl,hdl⟩:=ht
 unfold Builtin.SmallTypes.nextOf
 refine wpAny_bind (wpAny_callSpecial?_slot (name:=Str.ofString "__next__") hit.typeIs F.slot_tuple_iterator_next
  (wpAny_call_entry F.slot_tuple_iterator_next hit.typeIs F.entry_tuple_iterator_next ?_ (F.args_tuple_iterator_next_1 _)))
 show wpAny _ _ (field (.ref it) 0 >>= _) _ _ s
 refine wpAny_bind (wpAny_field ho hd (x:=.ref t) rfl ?_)
 show wpAny _ _ (if (Value.ref t==Value.none)=true then _ else _) _ _ s
 rw [if_neg (show ¬ ((Value.ref t==Value.none)=true) from Bool.false_ne_true)]
 show wpAny _ _ (field (.ref it) 1 >>= _) _ _ s
 refine wpAny_bind (wpAny_field ho hd (x:=.int i 0) rfl ?_)
 show wpAny _ _ (seqItems? (.ref t) >>= _) _ _ s
 refine wpAny_bind (wpAny_seqItems hol hdl ?_)
 simp only [Int.toNat_natCast,hx]
 refine wpAny_bind (wpAny_setField ho hd (by simp) (wpAny_pure ⟨x,rfl,wpAny_pure (hQ _ ?_ (Heap.SameBut.update ..))⟩))
 exact ⟨_,Heap.get?_update_self _ ho (Obj.isFreed_of_fields (Obj.data_mapFields hd _)),(Obj.cls_mapFields ..).trans hc,by
  rw [Obj.data_mapFields hd];simp [rawInt]⟩
theorem yM {it t:Addr}{i:Nat}{items}{Q:Value->Shared->Prop}(hh:A.handled=none)(hit:s.heap.IsTupleIter it t i)(ht:s.heap.IsTuple t items)(hx:items[i]?=none)
  (hE:∀ h' e,Heap.ExtBut it s.heap h'->(∃ o,h'.get? e=some o/\o.cls = .type "StopIteration")->E (.ref e) { s with heap:=h' }):wpAny (model prog w) A (Builtin.SmallTypes.nextOf (.ref it)) Q E s:=by
 obtain ⟨o,ho,hc,hd⟩:=id hit
 obtain ⟨ol,hol,_,nl,hdl⟩:=ht
 unfold Builtin.SmallTypes.nextOf
 refine wpAny_bind (wpAny_callSpecial?_slot (name:=Str.ofString "__next__") hit.typeIs F.slot_tuple_iterator_next
  (wpAny_call_entry F.slot_tuple_iterator_next hit.typeIs F.entry_tuple_iterator_next ?_ (F.args_tuple_iterator_next_1 _)))
 show wpAny _ _ (field (.ref it) 0 >>= _) _ _ s
 refine wpAny_bind (wpAny_field ho hd (x:=.ref t) rfl ?_)
 show wpAny _ _ (if (Value.ref t==Value.none)=true then _ else _) _ _ s
 rw [if_neg (show ¬ ((Value.ref t==Value.none)=true) from Bool.false_ne_true)]
 show wpAny _ _ (field (.ref it) 1 >>= _) _ _ s
 refine wpAny_bind (wpAny_field ho hd (x:=.int i 0) rfl ?_)
 show wpAny _ _ (seqItems? (.ref t) >>= _) _ _ s
 refine wpAny_bind (wpAny_seqItems hol hdl ?_)
 simp only [Int.toNat_natCast,hx]
 refine wpAny_bind (wpAny_rule (wpAny_bind (wpAny_setField ho hd (by simp) ?_)))
 show wpAny _ _ (newExc (.type "StopIteration") [] >>= _) _ _ _
 refine wpAny_bind ?_
 simp only [newExc,newTuple]
 refine wpAny_bind (wpAny_newObj_type ?_ (by size_fits))
 refine wpAny_bind (m:=firstArgMember _ _) (wpAny_of_eq (a:=Value.none) (by first | rfl | (simp only [firstArgMember];rfl)) ?_)
 refine wpAny_newObj_type ?_ (by size_fits)
 simp only [raiseNew]
 refine wpAny_bind (wpAny_handled ?_)
 first | rw [show A.in1.handled=none from hh] | rw [hh]
 refine wpAny_bind (wpAny_pure (wpAny_throw ?_))
 exact hE _ _ (((Heap.SameBut.update ..).extBut.push _).push _) ⟨_,Heap.get?_push_size _ rfl,rfl⟩
theorem zdv (hh:A.handled=none)(it l:Addr)(hne:l≠it)(items:Array Value) :
  Draws prog w A it [it,l] items.size (fun i v=>items[i]?=some v) (fun i h=>h.IsTupleIter it l i/\h.IsTuple l items) where
 live:=fun _ _ st=>let ⟨o,ho,_⟩:=st.1;⟨o,ho⟩
 frame:=fun _ _ _ st hk=>⟨let ⟨o,ho,r⟩:=st.1;⟨o,hk it (by simp) o ho,r⟩,let ⟨o,ho,r⟩:=st.2;⟨o,hk l (by simp) o ho,r⟩⟩
 item:=fun i s Q E hi st hQ=>by
  refine yy st.1 st.2 (x:=items[i]) (by simp [hi]) fun h' hit' hs'=>?_
  exact hQ _ h' s.toks (by simp [hi]) ⟨hit',st.2.extBut hs'.extBut hne⟩ hs'
 done:=fun s Q E st hE=>yM hh st.1 st.2 (by simp) hE
theorem uh (l:Addr)(items:Array Value)(n:Nat)(dct:Option Addr)(sl:Array (Option Value)) :
  Meets (Builtin.«enumerate.__new__» ⟨[.type "enumerate",.ref l],[]⟩) (fun _ R s=>s.heap.get? l=some { cls:=.type "tuple",dict:=dct,data:=.seq items n,slots:=sl }/\
   R (.ok (.ret (.ref (s.heap.push { cls:=.type "tuple_iterator",data:=.fields #[.ref l,.int 0 0] }).objs.size)))
    { s with heap:=(s.heap.push { cls:=.type "tuple_iterator",data:=.fields #[.ref l,.int 0 0] }).push { cls:=.type "enumerate",data:=.fields #[.none,.bool false,.ref s.heap.objs.size,rawInt 0,.none,.none] } }):=
 .of_wp fun prog w A R s h=>by
  obtain ⟨hp,g,d,tk,os⟩:=s;obtain ⟨hl,h⟩:=h
  have hsub:=sub_enumerate
  have hL:Heap.IsTuple (Shared.heap ⟨hp,g,d,tk,os⟩) l items:=⟨_,hl,rfl,n,rfl⟩
  wp_walk using AutoSeq1.wpAny_loadPart' hl
  refine wpAny_stack_any fun st=>wpAny_pure ?_
  split
  ·rename_i c _ _ _ _ _
   cases (c==Value.type "enumerate")
   ·wp_walk using AutoSeq1.wpAny_loadPart' hl,wpAny_pyIter_tuple hL
    exact ⟨_,rfl,h⟩
   ·wp_walk using AutoSeq1.wpAny_loadPart' hl,wpAny_pyIter_tuple hL
    exact ⟨_,rfl,h⟩
  ·wp_walk using AutoSeq1.wpAny_loadPart' hl,wpAny_pyIter_tuple hL
   exact ⟨_,rfl,h⟩
theorem uf {l:Addr}{items:Array Value}{Q:Value->Shared->Prop}(hL:s.heap.IsTuple l items)
  (h:∀ h',IsEnum h' (s.heap.objs.size+1) s.heap.objs.size 0 .none->h'.IsTupleIter s.heap.objs.size l 0->h'.objs.size=s.heap.objs.size+2->
   (∀ b o,s.heap.get? b=some o->h'.get? b=some o)->Q (.ref (s.heap.objs.size+1)) { s with heap:=h' }) :
  wpAny (model prog w) A (call (.type "enumerate") [.ref l]) Q E s:=by
 obtain ⟨⟨c,dct,dt,sl⟩,hl,hc,n,hd⟩:=hL
 replace hc:c = .type "tuple" := hc
 replace hd:dt = .seq items n:=hd
 subst hc hd
 refine callType_new F.called_enumerate (by decide) (F.typeCall_enumerate_1 _) (F.newCall_enumerate_1 _) (fun obj=>F.args_object_init_2 obj _) F.entry_enumerate_new
  (uh l items n dct sl) ⟨hl,?_⟩
 have hz:(s.heap.push { cls:=.type "tuple_iterator",data:=.fields #[.ref l,.int 0 0] }).objs.size=s.heap.objs.size+1:=Heap.size_push ..
 show _/\_
 rw [hz]
 have he:IsEnum ((s.heap.push { cls:=.type "tuple_iterator",data:=.fields #[.ref l,.int 0 0] }).push
   { cls:=.type "enumerate",data:=.fields #[.none,.bool false,.ref s.heap.objs.size,rawInt 0,.none,.none] }) (s.heap.objs.size+1) s.heap.objs.size 0 .none:=by
  have:=Heap.get?_push_size (s.heap.push { cls:=.type "tuple_iterator",data:=.fields #[.ref l,.int 0 0] })
   (o:={ cls:=.type "enumerate",data:=.fields #[.none,.bool false,.ref s.heap.objs.size,rawInt 0,.none,.none] }) rfl
  rw [hz] at this;exact this
 refine ⟨⟨_,he,rfl⟩,h _ he ⟨_,Heap.get?_push_of_some _ (Heap.get?_push_size _ rfl),rfl,rfl⟩ (by rw [Heap.size_push,hz]) fun b o x=>Heap.get?_push_of_some _ (Heap.get?_push_of_some _ x)⟩
end
def Ite (K:PySem.W.Frag)(a:Addr):It:=
 ⟨fun i H=>∃ xs x,SqT K H a xs/\xs[i]?=some x,fun i H v H'=>∃ T x,v = .ref T/\H T=none/\H'=upd H T (.tup [.int i,x])/\∀ xs,SqT K H a xs->xs[i]?=some x,fun i H=>∃ xs,SqT K H a xs/\xs.length<=i⟩
theorem zht {P:Program}{w:World}{K:PySem.W.Frag}{elts:List Expr}{x1}{tpos:Pos}(a it e:Addr)(hei:e≠it) :
  Turn P w K (.Tuple elts x1 tpos) (Ite K a) [e,it] e (fun i h=>(∃ old,IsEnum h e it i old)/\h.IsTupleIter it a i) where
 mem:=by simp
 obj:=fun i h st b hb=>by
  rcases List.mem_cons.mp hb with rfl | hb
  ·obtain ⟨⟨old,he⟩,_⟩:=st
   exact ⟨_,he,fun v z=>by
    have z':Data.fields _=Data.cell v:=z
    cases z'⟩
  ·rw [List.mem_singleton.mp hb]
   obtain ⟨_,o,e,c,d⟩:=st
   exact ⟨o,e,fun v z=>by rw [d] at z;cases z⟩
 keep:=fun i h h' st k=>by
  obtain ⟨⟨old,he⟩,o,ho,r⟩:=st
  exact ⟨⟨old,k e (by simp) _ he⟩,o,k it (by simp) _ ho,r⟩
 item:=by
  intro X hP hw hK hc i pins s σ H E I hf st hg
  subst hP hw hK
  obtain ⟨xs,x,hq,hx⟩:=hg
  obtain ⟨its,rv,p,hz⟩:=I.tuple hq
  obtain ⟨u,hu,ru⟩:=rv.get hx
  obtain ⟨f0,f1,f2,f3,f4,f5⟩:=hf e (by simp)
  obtain ⟨g0,g1,g2,g3,g4,g5⟩:=hf it (by simp)
  obtain ⟨⟨old,he⟩,hit⟩:=st
  have hsz:i<its.toArray.size:=by
   have:=(List.getElem?_eq_some_iff.mp hu).1
   simpa using this
  have hai:a≠it:=by
   intro z
   obtain ⟨o,ho,hcl,_⟩:=p
   obtain ⟨o',ho',hcl',_⟩:=hit
   rw [z,ho'] at ho
   cases ho
   rw [hcl'] at hcl
   exact absurd (Value.type.inj hcl) (by decide)
  have hea:e≠a:=by
   intro z
   obtain ⟨o,ho,hcl,_⟩:=p
   rw [<- z,he] at ho
   cases ho
   have:Value.type "enumerate" = Value.type "tuple" := hcl
   exact absurd (Value.type.inj this) (by decide)
  refine wpAny_pyNext_enum_itemD (zdv (A:=X.A.in1) (I.ok.hd hc) it a hai its.toArray) he ⟨hit,p⟩ hsz hei (by simp [hei,hea]) fun y h' tk hy ho hst hT hsz' hk=>?_
  have hy':y=u:=by
   have:its.toArray[i]?=some y:=hy
   have:its[i]?=some y:=by simpa using this
   rw [hu] at this
   exact (Option.some.inj this).symm
  subst hy'
  refine ⟨_,rfl,?_⟩
  refine wpAny_letOwnedTupleGo_enum ho fun h'' he'' hs''=>?_
  have hTe:s.heap.objs.size≠e:=Nat.ne_of_gt (Heap.lt_size he)
  have hTi:s.heap.objs.size≠it:=by
   obtain ⟨o,hoi,_⟩:=hit
   exact Nat.ne_of_gt (Heap.lt_size hoi)
  have hnone:=I.hok.fresh (Nat.le_refl s.heap.objs.size)
  have kp:∀ b o,b≠e->b≠it->s.heap.get? b=some o->h''.get? b=some o:=fun b o h1 h2 hb=>(hs''.2 b h1).trans (hk b o h1 h2 hb)
  have hT'':h''.get? s.heap.objs.size=some { cls:=.type "tuple",data:=.seq #[.int i tk,y] }:=(hs''.2 _ hTe).trans hT
  obtain ⟨oe,hoe⟩:∃ o,h''.get? e=some o:=⟨_,he''⟩
  obtain ⟨oi,hoi⟩:∃ o,h''.get? it=some o:=by
   obtain ⟨⟨o,ho2,_⟩,_⟩:=hst
   exact ⟨o,(hs''.2 it (Ne.symm hei)).trans ho2⟩
  have objK:∀ b u',H b=some u'->b≠e/\b≠it:=fun b u' hb=>⟨zb hb f0,zb hb g0⟩
  have hok':HOk X.prog X.w (upd H s.heap.objs.size (.tup [.int i,x])) h'':=by
   intro b u' hb
   by_cases hbT:b=s.heap.objs.size
   ·subst hbT
    rw [zh] at hb
    cases hb
    exact ⟨by show 2<=sizeLine;decide,[.int i tk,y],.cons ⟨tk,rfl⟩ (.cons ru .nil),_,hT'',rfl,⟨0,rfl⟩,rfl⟩
   ·rw [ze hbT] at hb
    refine (I.hok b u' hb).stay (fun c v hcv q=>?_) (fun c q=>?_) (fun c ys q=>?_)
    ·refine kp c v ?_ ?_ q
     ·rcases hcv with rfl | hcv
      ·exact (objK _ _ hb).1
      ·exact zb hcv f0
     ·rcases hcv with rfl | hcv
      ·exact (objK _ _ hb).2
      ·exact zb hcv g0
    ·rw [ze (zb q hnone)];exact q
    ·rw [ze (zb q hnone)];exact q
  have I1:Inv X pins σ (upd H s.heap.objs.size (.tup [.int i,x])) { s with heap:=h'',toks:=tk+1 }:=by
   refine Inv.step (ch:=[e,it]) (g':=s.gens) (d':=s.drawn) (t':=tk+1) I (fun b hb=>?_) (fun b o h1 h2 h3 h4 h5=>?_) (fun b o h1 h2 h3 h4 h5=>?_) (fun b o h3 h4 h5=>?_) (fun b o h3 h4=>?_) (fun b ys q=>?_) (fun b o u' q=>?_) (fun b ps q=>?_) (fun m hm=>?_) hok' I.bare
   ·rcases List.mem_cons.mp hb with rfl | hb
    ·exact ⟨f3,f1,f4,f5⟩
    ·rw [List.mem_singleton.mp hb]
     exact ⟨g3,g1,g4,g5⟩
   ·exact kp b o (fun z=>h3 (by simp [z])) (fun z=>h3 (by simp [z])) h4
   ·exact ⟨o.slots,kp b o (fun z=>h3 (by simp [z])) (fun z=>h3 (by simp [z])) h4⟩
   ·rw [ze (Nat.ne_of_lt (Heap.lt_size h4))];exact h5
   ·exact ⟨o,kp b o (fun z=>h3 (by simp [z])) (fun z=>h3 (by simp [z])) h4⟩
   ·rw [ze (zb q hnone)];exact q
   ·rw [ze (zb q hnone)];exact q
   ·exact ⟨#[],by rw [ze (zb q hnone),Array.append_empty];exact q⟩
   ·obtain ⟨o,es,ep,ho1,r1⟩:=hm
    exact ⟨o,es,ep,kp _ o (Ne.symm f1) (Ne.symm g1) ho1,r1⟩
  refine ⟨.ref s.heap.objs.size,_,I1,rfl,⟨s.heap.objs.size,x,rfl,hnone,rfl,fun ys hy2=>by rw [I.tuple_inj hy2 hq];exact hx⟩,⟨⟨y,by have:=he'';push_cast;exact this⟩,?_⟩,fun b hb=>?_⟩
  ·obtain ⟨⟨o,ho2,r2⟩,_⟩:=hst
   exact ⟨o,(hs''.2 it (Ne.symm hei)).trans ho2,r2⟩
  ·rcases List.mem_cons.mp hb with rfl | hb
   ·rw [ze (Ne.symm hTe)];exact f0
   ·rw [List.mem_singleton.mp hb,ze (Ne.symm hTi)];exact g0
 done:=by
  intro X hP hw hK hc i pins s σ H E I hf st hg
  subst hP hw hK
  obtain ⟨xs,hq,hx⟩:=hg
  obtain ⟨its,rv,p,hz⟩:=I.tuple hq
  obtain ⟨f0,f1,f2,f3,f4,f5⟩:=hf it (by simp)
  obtain ⟨⟨old,he⟩,hit⟩:=st
  have hl:=rv.length
  have hT:s.TypeIs (.ref e) "enumerate" := ⟨_,he,rfl⟩
  unfold pyNext
  refine wpAny_bind (wpAny_attempt (wpAny_callSpecial?_slot (name:=Str.ofString "__next__") hT F.slot_enumerate_next
   (wpAny_call_entry F.slot_enumerate_next hT F.entry_enumerate_next ?_ (F.args_enumerate_next_1 _))))
  show wpAny _ _ (field (.ref e) 2 >>= _) _ _ _
  refine wpAny_bind (wpAny_field he rfl (x:=.ref it) rfl ?_)
  refine wpAny_bind (yM (A:=X.A.in1) (I.ok.hd hc) hit p (by simp;lia) fun h' x he' hx'=>?_)
  obtain ⟨o,ho,hc'⟩:=hx'
  refine wpAny_bind (wpAny_isInstance (T := "StopIteration") (b:=true) ⟨o,ho,hc'⟩ isSubtype_stop ?_)
  exact wpAny_pure ⟨rfl,I.turned (t':=s.toks) (fun b o hb e=>he' b o hb e) f0 f1 f3 f4 f5⟩
 self:=fun A i s Q E st h=>by
  obtain ⟨⟨old,he⟩,hit⟩:=st
  exact wpAny_pyIter_enum he h
def zlY (K:PySem.W.Frag)(ta:TA):TI:=fun σ H R=>ta σ H fun vs H1=>∃ a,vs=[.ref a]/\(∃ xs,SqT K H1 a xs)/\R (Ite K a) H1
theorem zkM {X:Cx}{elts:List Expr}{x1}{tpos:Pos}{a:Expr}{ta:TA}{p pos:Pos}(hg:Gl X "enumerate")(hm:X.mg "enumerate" = none)(ha:PA X [a] ta)(hs:starEach [a] X.env=[(false,eval a X.env)]:=by rfl) :
  PI X (.Tuple elts x1 tpos) (.Call (.Name "enumerate" p) [a] [] pos) (zlY X.K ta):=by
 intro pins s σ H R I h
 refine Call_ (zbt I hg hm boot_enumerate (PyProof.Rows.callWith_type1 (thn (ha pos pins s σ H _ I h) fun us s1 ⟨vs,H1,I1,r1,q1⟩=>?_) hs rfl))
 obtain ⟨b,rfl,⟨xs,hq⟩,q⟩:=q1
 obtain ⟨u,rfl,ru⟩:=zcm r1
 cases ru
 obtain ⟨its,rv,pt,hz⟩:=I1.tuple hq
 refine uf (show s1.heap.IsTuple b its.toArray from pt) fun h' he hit hsz hk=>?_
 have I2:Inv X pins σ H1 { s1 with heap:=h',toks:=s1.toks }:=I1.kept (t':=s1.toks) hk
 refine wpAny_pyIter_enum he ?_
 refine ⟨s1.heap.objs.size+1,[s1.heap.objs.size+1,s1.heap.objs.size],_,_,H1,rfl,I2,zht b s1.heap.objs.size (s1.heap.objs.size+1) (Nat.succ_ne_self _),⟨⟨_,he⟩,hit⟩,fun c hc=>?_,q⟩
 rcases List.mem_cons.mp hc with rfl | hc
 ·exact I1.fpOk (Nat.le_succ _) (I1.hok.fresh (Nat.le_succ _))
 ·rw [List.mem_singleton.mp hc]
  exact I1.fpOk (Nat.le_refl _) (I1.hok.fresh (Nat.le_refl _))
theorem zgX {X:Cx}{elts:List Expr}{x1}{tpos:Pos}{a:Expr}{ta:TA}{p pos:Pos}(hg:Gl X "enumerate")(hm:X.mg "enumerate" = none)(ha:QA X [a] ta)(hs:starEach [a] X.env=[(false,eval a X.env)]:=by rfl) :
  QI X (.Tuple elts x1 tpos) (.Call (.Name "enumerate" p) [a] [] pos) (zlY X.K ta):=⟨zkM hg hm ha.run hs⟩
theorem zh8 {K:PySem.W.Frag}{a:Addr}{xs:List V}{g:TG}{tb:TS}{D:Ends}{σ:St}{H:Hp}(Pv:Nat->St->Hp->Prop)(h0:Pv 0 σ H)(hl:∀ i σ H,i<=xs.length->Pv i σ H->SqT K H a xs)
  (hs:∀ i x T σ H,xs[i]?=some x->Pv i σ H->H T=none->g (.ref T) σ (upd H T (.tup [.int i,x])) fun σ2 H2=>tb { D with nx:=Pv (i+1),ct:=Pv (i+1),bk:=D.nx } σ2 H2) (hd:∀ σ H,Pv xs.length σ H->D.nx σ H) :
  ∃ W:Nat->Nat->St->Hp->Prop,(∃ m,W 0 m σ H)/\∀ i m σ H,W i m σ H->
   ((Ite K a).stop i H/\D.nx σ H)\/((Ite K a).go i H/\∃ N:St->Hp->Prop,(∀ σ' H',N σ' H'->∃ m',m'<m/\W (i+1) m' σ' H')/\∀ x H',(Ite K a).yld i H x H'->g x σ H' fun σ2 H2=>tb { D with nx:=N,ct:=N,bk:=D.nx } σ2 H2):=by
 refine ⟨fun i m σ H=>m=xs.length - i/\i<=xs.length/\Pv i σ H,⟨xs.length,by simp,Nat.zero_le _,h0⟩,?_⟩
 rintro i m σ H ⟨rfl,hi,p⟩
 have q:=hl i σ H hi p
 by_cases hlt:i<xs.length
 ·refine .inr ⟨⟨xs,xs[i],q,by simp [hlt]⟩,Pv (i+1),fun σ' H' p'=>⟨xs.length - (i+1),by lia,rfl,hlt,p'⟩,fun x H' y=>?_⟩
  obtain ⟨T,z,rfl,hT,rfl,y⟩:=y
  exact hs i z T σ H (y xs q) p hT
 ·have e:i=xs.length:=by lia
  subst e
  exact .inl ⟨⟨xs,q,Nat.le_refl _⟩,hd σ H p⟩
mutual
def Dt.toW:Dt->PySem.W.Dat
 | .non=>.none
 | .bl b=>.bool b
 | .int i=>.int i
 | .str x=>.str x
 | .tup l=>.tuple (Dt.toWs l)
 | .lst l=>.list (Dt.toWs l)
 | .dct=>.bytes #[]
def Dt.toWs:List Dt->List PySem.W.Dat
 | []=>[]
 | d::ds=>d.toW::Dt.toWs ds
end
mutual
theorem zhr:∀ {d e:Dt},d.toW=e.toW->d=e
 | .non,e,h=>by cases e <;> simp [Dt.toW] at h ⊢
 | .bl b,e,h=>by cases e <;> simp [Dt.toW] at h ⊢;exact h
 | .int b,e,h=>by cases e <;> simp [Dt.toW] at h ⊢;exact h
 | .str b,e,h=>by cases e <;> simp [Dt.toW] at h ⊢;exact h
 | .tup l,e,h=>by
  cases e with
  | tup m=>simp only [Dt.toW,PySem.W.Dat.tuple.injEq] at h;rw [zch h]
  | _=>simp [Dt.toW] at h
 | .lst l,e,h=>by
  cases e with
  | lst m=>simp only [Dt.toW,PySem.W.Dat.list.injEq] at h;rw [zch h]
  | _=>simp [Dt.toW] at h
 | .dct,e,h=>by cases e <;> simp [Dt.toW] at h ⊢
theorem zch:∀ {l m:List Dt},Dt.toWs l=Dt.toWs m->l=m
 | [],m,h=>by cases m <;> simp [Dt.toWs] at h ⊢
 | d::l,m,h=>by
  cases m with
  | nil=>simp [Dt.toWs] at h
  | cons e m=>
   simp only [Dt.toWs,List.cons.injEq] at h
   rw [zhr h.1,zch h.2]
end
def Dt.eqOk (d:Dt):Prop:=PySem.W.kqdOk 8 d.toW=true
section
variable {P:Program}{w:World}{H:Hp}{h:Heap}
mutual
theorem uG (ok:HOk P w H h):∀ (n:Nat) {d:Dt} {v:V} {u:Value},Is H d v->zX v u->PySem.W.kqdOk n d.toW=true->∃ as,Reads h u (PySem.W.kqdP d.toW) as
 | _,.non,_,_,h1,r,_=>by cases h1;cases r;exact ⟨_,Reads.none⟩
 | n,.bl b,_,_,_,_,k=>by cases n <;> simp [Dt.toW,PySem.W.kqdOk] at k
 | _,.int i,_,_,h1,r,_=>by cases h1;obtain ⟨t,rfl⟩:=r;exact ⟨_,Reads.int i t⟩
 | _,.str x,_,_,h1,r,_=>by cases h1;obtain ⟨t,rfl⟩:=r;exact ⟨_,Reads.str x t⟩
 | 0,.tup l,_,_,_,_,k=>by simp [Dt.toW,PySem.W.kqdOk] at k
 | n+1,.tup l,_,_,h1,r,k=>by
  obtain ⟨a,xs,rfl,ha,hl⟩:=h1
  cases r
  obtain ⟨_,its,rv,o,ho,hc,⟨m,hd⟩,_⟩:=ok a _ ha
  obtain ⟨as,q⟩:=ur ok n hl rv (by simpa [Dt.toW,PySem.W.kqdOk] using k)
  exact ⟨as,reads_tuple_at ho hc hd (by simpa using q)⟩
 | 0,.lst l,_,_,_,_,k=>by simp [Dt.toW,PySem.W.kqdOk] at k
 | n+1,.lst l,_,_,h1,r,k=>by
  obtain ⟨a,xs,rfl,ha,hl⟩:=h1
  cases r
  obtain ⟨_,its,m,rv,e⟩:=ok a _ ha
  obtain ⟨as,q⟩:=ur ok n hl rv (by simpa [Dt.toW,PySem.W.kqdOk] using k)
  exact ⟨_,reads_list_at e rfl rfl (by simpa using q)⟩
 | n,.dct,_,_,_,_,k=>by cases n <;> simp [Dt.toW,PySem.W.kqdOk] at k
theorem ur (ok:HOk P w H h):∀ (n:Nat) {ds:List Dt} {xs:List V} {us:List Value},IsL H ds xs->zY xs us->(∀ d∈Dt.toWs ds,PySem.W.kqdOk n d=true)->∃ as,ReadsAll h us (PySem.W.kqdPs (Dt.toWs ds)) as
 | _,[],_,_,h1,r,_=>by cases h1;cases r;exact ⟨_,ReadsAll.nil⟩
 | n,d::ds,_,_,h1,r,k=>by
  obtain ⟨x,xr,rfl,hd,hr⟩:=h1
  cases r with
  | cons rx rr=>
   obtain ⟨as,q⟩:=uG ok n hd rx (k _ (by simp [Dt.toWs]))
   obtain ⟨bs,q2⟩:=ur ok n hr rr fun e he=>k e (by simp [Dt.toWs,he])
   exact ⟨_,ReadsAll.cons q q2⟩
end
end
theorem xA {d:Dt}(h:d.eqOk):SeqAt.shaped (PySem.W.kqdP d.toW)=true:=by
 have l:=PySem.W.kqd_lay 8 _ h
 unfold SeqAt.shaped
 rw [l.1,Bool.true_and]
 exact decide_eq_true (Nat.le_trans l.2 (by decide))
def zn2:R2:=fun x y H Q=>∃ d e,Is H d x/\Is H e y/\d.eqOk/\e.eqOk/\∀ b:Bool,(b=true↔d=e)->Q (.bl b) H
def zn5:R2:=fun x y H Q=>∃ d e,Is H d x/\Is H e y/\d.eqOk/\e.eqOk/\∀ b:Bool,(b=true↔d=e)->Q (.bl (!b)) H
section
variable {X:Cx}
theorem zf4 {d e:Dt}(h1:d.eqOk)(h2:e.eqOk):PyData.eqv (PySem.W.kqdP d.toW) (PySem.W.kqdP e.toW)=true↔d=e:=
 (PySem.W.kqd_eqv 8 d.toW e.toW 8 h1 h2).trans ⟨zhr,fun z=>by rw [z]⟩
theorem zmt (hu:X.A.units+64<cLine):OpR X (compareOp .Eq) zn2:=by
 intro pins s σ H x y v u Q I rx ry h
 obtain ⟨d,e,hd,he,kd,ke,q⟩:=h
 obtain ⟨as,ra⟩:=uG I.hok 8 hd rx kd
 obtain ⟨bs,rb⟩:=uG I.hok 8 he ry ke
 exact eq_dataH ra rb (xA kd) (xA ke) hu ⟨.bl _,H,I,rfl,q _ (zf4 kd ke)⟩
theorem zmw (hu:X.A.units+64<cLine):OpR X (compareOp .NotEq) zn5:=by
 intro pins s σ H x y v u Q I rx ry h
 obtain ⟨d,e,hd,he,kd,ke,q⟩:=h
 obtain ⟨as,ra⟩:=uG I.hok 8 hd rx kd
 obtain ⟨bs,rb⟩:=uG I.hok 8 he ry ke
 exact ne_dataH ra rb (xA kd) (xA ke) hu ⟨.bl _,H,I,rfl,q _ (zf4 kd ke)⟩
theorem zmA (hu:X.A.units+64<cLine):OpQ X (compareOp .Eq) zn2:=⟨zmt hu⟩
theorem zby (hu:X.A.units+64<cLine):OpQ X (compareOp .NotEq) zn5:=⟨zmw hu⟩
theorem zm5 {o e:Expr}{to:TE}{t:TA}{apos cpos:Pos}(ho:QE X o to)(ha:QA X [e] t)(hbase:attributeBase o "append" X.env (eval o X.env)=eval o X.env:=by rfl)
  (hfew:((backTo cpos (starEach [e] X.env)).all (fun x=>!x.1)&&(backToKw cpos (keywordEach [] X.env)).all (fun x=>x.1.isSome)&&decide (([e]:List Expr).length+([]:List Keyword).length+(if ([]:List Keyword).isEmpty then 0 else 1)<30))=true:=by rfl)
  (hline:(apos.endLine==cpos.line)=true:=by rfl) (hs:starEach [e] X.env=(false,eval e X.env)::starEach [] X.env:=by rfl) (hplain:(backTo cpos (starEach [] X.env)).any (·.1)=false:=by rfl) :
  QE X (.Call (.Attribute o "append" apos) [e] [] cpos) (tBM X.K "list" zg0 to t):=⟨zo8 PySem.F.plainAttrs_list PySem.F.slot_list_append PySem.F.type_list_append uP ho.run ha.run hbase hfew hline hs hplain⟩
end
theorem uE {ns:List Int}:(Dt.tup (ns.map .int)).eqOk:=by
 have e:∀ ns:List Int,(Dt.toWs (ns.map .int)).all (PySem.W.kqdOk 7)=true:=by
  intro ns
  induction ns with
  | nil=>rfl
  | cons n ns ih=>simp only [List.map_cons,Dt.toWs,List.all_cons,ih,Bool.and_true];rfl
 exact e ns
structure RoomAt (H:Hp)(ra:Addr)(rm:List Int):Prop where
 at':H ra=some (.tup (rm.map V.int))
 ne:rm≠[]
 few:rm.length<=8
 box:∀ r∈rm,2<=r/\r<=4
theorem RoomAt.stay {H H':Hp}{ra:Addr}{rm:List Int}(h:RoomAt H ra rm)(s:zu H H'):RoomAt H' ra rm:=⟨s.tup h.at',h.ne,h.few,h.box⟩
theorem RoomAt.pos {H:Hp}{ra:Addr}{rm:List Int}(h:RoomAt H ra rm):1<=rm.length:=by
 cases rm with
 | nil=>exact absurd rfl h.ne
 | cons _ _=>simp
def zE (rm:List Int)(i:Int):Int:=rm.getD i.toNat 0
@[reducible] def yN (q:Int×Int):Dt:=.tup [.int q.1,.int q.2]
structure Giv (rm:List Int)(g:List (Int×Int)):Prop where
 ok:∀ q∈g,0<=q.1/\q.1<rm.length/\0<=q.2/\q.2<zE rm q.1
 up:g.Pairwise fun a b=>a.1<b.1
def zeT (H H':Hp):Prop:=∀ b xs,H b=some (.tup xs)->H' b=some (.tup xs)
theorem zeT.app {H:Hp}{a:Addr}{xs ys:List V}(h:H a=some (.lst xs)):zeT H (upd H a (.lst ys)):=fun b zs e=>by
 by_cases hb:b=a
 ·subst hb;rw [h] at e;cases e
 ·rw [ze hb];exact e
mutual
def Dt.noL:Dt->Bool
 | .tup l=>Dt.noLs l
 | .lst _=>false
 | .dct=>false
 | _=>true
def Dt.noLs:List Dt->Bool
 | []=>true
 | d::ds=>d.noL&&Dt.noLs ds
end
mutual
theorem Is.stayT {H H1:Hp}(a:zeT H H1):∀ {d:Dt} {v:V},d.noL=true->Is H d v->Is H1 d v
 | .non,_,_,h=>h
 | .bl _,_,_,h=>h
 | .int _,_,_,h=>h
 | .str _,_,_,h=>h
 | .tup l,_,n,h=>by
  obtain ⟨p,xs,e,hp,hl⟩:=h
  exact ⟨p,xs,e,a _ _ hp,IsL.stayT a (by simpa [Dt.noL] using n) hl⟩
 | .lst l,_,n,_=>by simp [Dt.noL] at n
 | .dct,_,n,_=>by simp [Dt.noL] at n
theorem IsL.stayT {H H1:Hp}(a:zeT H H1):∀ {ds:List Dt} {xs:List V},Dt.noLs ds=true->IsL H ds xs->IsL H1 ds xs
 | [],_,_,h=>h
 | d::ds,_,n,h=>by
  obtain ⟨x,r,e,hd,hr⟩:=h
  have n':d.noL=true/\Dt.noLs ds=true:=by simpa [Dt.noLs] using n
  exact ⟨x,r,e,Is.stayT a n'.1 hd,IsL.stayT a n'.2 hr⟩
end
theorem zcM:∀ g:List (Int×Int),Dt.noLs (g.map yN)=true
 | []=>rfl
 | q::g=>by
  show (Dt.noL (yN q)&&Dt.noLs (g.map yN))=true
  rw [zcM g]
  rfl
theorem Giv.snoc {rm:List Int}{g:List (Int×Int)}{i w:Int}(h:Giv rm g)(hl:∀ q∈g,q.1<i)(h0:0<=i)(h1:i<rm.length)(h2:0<=w)(h3:w<zE rm i):Giv rm (g++[(i,w)]):=by
 refine ⟨fun q hq=>?_,List.pairwise_append.mpr ⟨h.up,List.pairwise_singleton _ _,fun a ha b hb=>?_⟩⟩
 ·rcases List.mem_append.mp hq with z | z
  ·exact h.ok q z
  ·rw [List.mem_singleton.mp z];exact ⟨h0,h1,h2,h3⟩
 ·rw [List.mem_singleton.mp hb];exact hl a ha
theorem Pen.app {H:Hp}{p c fa:Addr}{ns:List Int}{n:Nat}{xs ys:List V}(P:Pen H p c ns n)(hf:H fa=some (.lst xs))(hc:c≠fa):Pen (upd H fa (.lst ys)) p c ns n:=by
 obtain ⟨⟨a,l,h1,h2,h3,h4⟩,h5,h6⟩:=P
 have hp:p≠fa:=fun e=>by subst e;rw [hf] at h1;cases h1
 exact ⟨⟨a,l,by rw [ze hp];exact h1,h2,h3,h4⟩,by rw [ze hc];exact h5,h6⟩
theorem ziU {H H1:Hp}{fa:Addr}{o:HO}(s:zu H H1)(hf:∀ b o,H b=some o->(∀ kvs,o = .dK kvs->uY kvs (Sum.inr "at" : Key)=none)->b≠fa):zu H (upd H1 fa o):=fun b u e nn=>by
 rw [ze (hf b u e nn)];exact s b u e nn
def zc7:Sp:=fun vs H Q _=>∃ (p c ra:Addr) (ns rm:List Int) (n:Nat) (apart:Int),vs=[.ref p,.ref ra,.int apart]/\Pen H p c ns n/\n+40<=1000000/\RoomAt H ra rm/\
 ∀ (a:Addr) (g:List (Int×Int)) (H':Hp),Is H' (.tup (g.map yN)) (.ref a)->Giv rm g->(∀ q∈g,q.1≠apart)->g.length<=8->Pen H' p c ns (n+30)->zu H H'->Q (.ref a) H'
def New (H:Hp)(o:HO)(R:V->Hp->Prop):Prop:=∀ (p:Addr) (H':Hp),H p=none->H' p=some o->yL H H'->R (.ref p) H'
theorem New.at {H:Hp}{o:HO}{R:V->Hp->Prop}(h:New H o R){p:Addr}(hp:H p=none):R (.ref p) (upd H p o):=h p _ hp zh (yL.upd hp)
def znG (t:TA):TE:=fun σ H Q=>t σ H fun xs H1=>xs.length<=sizeLine/\New H1 (.tup xs) Q
def znB (t:TA):TE:=fun σ H Q=>t σ H fun xs H1=>xs.length<=sizeLine/\New H1 (.lst xs) Q
section
variable {X:Cx}{es:List Expr}{t:TA}{pos:Pos}
theorem zkI {x1}(h:PA X es t):PE X (.Tuple es x1 pos) (znG t):=by
 intro pins s σ H Q I hq
 refine wpAny_Tuple_spliced (thn (h pos pins s σ H _ I hq) fun us s1 ⟨xs,H1,I1,r,z,q⟩=>⟨by rw [<- r.length];exact z,?_⟩)
 have hf:H1 s1.heap.objs.size=none:=I1.hok.fresh (Nat.le_refl _)
 refine ⟨.ref s1.heap.objs.size,upd H1 s1.heap.objs.size (.tup xs),I1.laid (t':=s1.toks) (fun b u e=>Heap.get?_push_of_some _ e) (Nat.le_refl _) ?_,rfl,q.at hf⟩
 exact ⟨z,us,r,⟨_,Heap.get?_push_size _ rfl,rfl,⟨_,rfl⟩,rfl⟩⟩
theorem zkH (h:PA X es t):PE X (.List es pos) (znB t):=by
 intro pins s σ H Q I hq
 refine wpAny_List_spliced (thn (h pos pins s σ H _ I hq) fun us s1 ⟨xs,H1,I1,r,z,q⟩=>⟨by rw [<- r.length];exact z,?_⟩)
 have hf:H1 s1.heap.objs.size=none:=I1.hok.fresh (Nat.le_refl _)
 refine ⟨.ref s1.heap.objs.size,upd H1 s1.heap.objs.size (.lst xs),I1.laid (t':=s1.toks) (fun b u e=>Heap.get?_push_of_some _ e) (Nat.le_refl _) ?_,rfl,q.at hf⟩
 exact ⟨z,us,0,r,Heap.get?_push_size _ rfl⟩
theorem zdX {x1}(h:QA X es t):QE X (.Tuple es x1 pos) (znG t):=⟨zkI h.run⟩
theorem zgV (h:QA X es t):QE X (.List es pos) (znB t):=⟨zkH h.run⟩
theorem CallQ.weak {f:Value}{r r':List V->Hp->VK->Prop}(h:CallQ X f r)(k:∀ xs H Q,r' xs H Q->r xs H Q):CallQ X f r':=⟨fun pins s σ H xs us Q I rr z=>h.run pins s σ H xs us Q I rr (k _ _ _ z)⟩
theorem OpQ.weak {f:Value->Value->Sem Value}{r r':R2}(h:OpQ X f r)(k:∀ x y H Q,r' x y H Q->r x y H Q):OpQ X f r':=⟨fun pins s σ H x y v u Q I rx ry z=>h.run pins s σ H x y v u Q I rx ry (k _ _ _ _ z)⟩
def zg3 (K:PySem.W.Frag):List V->Hp->VK->Prop:=fun xs H Q=>∃ p ys,xs=[.ref p]/\(SqL K H p ys\/SqT K H p ys)/\New H (.lst ys) Q
def zd2 (K:PySem.W.Frag):List V->Hp->VK->Prop:=fun xs H Q=>∃ p ys,xs=[.ref p]/\((SqL K H p ys/\New H (.tup ys) Q)\/(SqT K H p ys/\Q (.ref p) H))
theorem zdn:CallQ X (.type "list") (zg3 X.K):=zeX.weak fun xs H Q ⟨p,ys,e,h,n⟩=>⟨p,ys,e,h,fun l hl=>n.at hl⟩
theorem xb:CallQ X (.type "tuple") (zd2 X.K):=zaK.weak fun xs H Q ⟨p,ys,e,h⟩=>⟨p,ys,e,h.elim (fun ⟨a,n⟩=>.inl ⟨a,fun l hl=>n.at hl⟩) .inr⟩
def zla:R2:=fun x y H Q=>∃ l b xs zs,x = .ref l/\y = .ref b/\H l=some (.lst xs)/\H b=some (.lst zs)/\xs.length+zs.length<=sizeLine/\New H (.lst (xs++zs)) Q
theorem zdU:OpQ X (binaryOp .Add) zla:=zmz.weak fun x y H Q ⟨l,b,xs,zs,e1,e2,h1,h2,z,n⟩=>⟨l,b,xs,zs,e1,e2,h1,h2,z,fun p hp=>n.at hp⟩
end
def zhY (g:TG)(ti:TT)(te:TE)(acc:Addr)(N:St->Hp->Prop)(x:V)(σ:St)(H:Hp):Prop:=
 g x σ H fun σ3 H3=>ti σ3 H3 fun ok H4=>if ok=true then te σ3 H4 fun v H5=>∃ xs,H5 acc=some (.lst xs)/\xs.length<sizeLine/\N σ3 (upd H5 acc (.lst (xs++[v]))) else N σ3 H4
def zoe (J:It)(g:TG)(ti:TT)(te:TE)(acc:Addr)(Q:VK)(σ:St)(H:Hp):Prop:=∃ W:Nat->Nat->St->Hp->Prop,(∃ m,W 0 m σ H)/\
 ∀ i m σ' H',W i m σ' H'->(J.stop i H'/\Q (.ref acc) H')\/(J.go i H'/\∃ N:St->Hp->Prop,(∀ σ2 H2,N σ2 H2->∃ m',m'<m/\W (i+1) m' σ2 H2)/\∀ x H2,J.yld i H' x H2->zhY g ti te acc N x σ' H2)
def zhk (wi:TI)(g:TG)(ti:TT)(te:TE)(cix:List (Option Nat)):TE:=fun σ H Q=>wi σ H fun J H1=>∀ acc,H1 acc=none->zoe J g ti te acc Q (zcx σ cix) (upd H1 acc (.lst []))
theorem ziJ {X:Cx}{pos:Pos}{te:TE}{elt tg iter:Expr}{ifs:List Expr}{scope:Scope}{wi:TI}{g:TG}{ti:TT}{N:List Str}{cix:List (Option Nat)}(hc:X.calm=true)(c:CompOk X scope N cix)
  (hi:QI X tg iter wi) (hg:∀ C s H ex,QG (zo X scope N C s H ex) tg g) (ht:∀ C s H ex,QTs (zo X scope N C s H ex) ifs ti) (he:∀ C s H ex,QE (zo X scope N C s H ex) elt te)
  (hs:∀ x,foldedSetIterable iter X.env x=pure x:=by intro _;rfl):QE X (.ListComp elt [⟨tg,iter,ifs,0⟩] scope pos) (zhk wi g ti te cix):=zk2 hc c hi hg ht he hs
section
variable {K:PySem.W.Frag}{a acc:Addr}{xs:List V}{g:TG}{ti:TT}{te:TE}{σ:St}{H:Hp}{Q:VK}
end
theorem zlD {g:TG}{te:TE}{acc:Addr}{N:St->Hp->Prop}{x:V}{σ:St}{H:Hp}(h:g x σ H fun σ3 H3=>te σ3 H3 fun v H5=>∃ xs,H5 acc=some (.lst xs)/\xs.length<sizeLine/\N σ3 (upd H5 acc (.lst (xs++[v])))):zhY g zag te acc N x σ H:=zjs h
theorem ziQ {H H1:Hp}{acc:Addr}{o:HO}(h:H acc=none)(s:yL H H1):yL H (upd H1 acc o):=fun b u e=>by rw [ze (zb e h)];exact s b u e
section
variable {X:Cx}(K:PySem.W.Frag)(h:X.K=K)
include h
theorem zit:OpQ X (binaryOp .Add) (zg1 K):=h ▸ zb6
end
theorem zk4 {X:Cx}(K:PySem.W.Frag)(hK:X.K=K){es:List Expr}{pos:Pos}{k:Nat}{gs:TGs}{n:Nat}(hc:X.calm=true)(h:QGs X es gs)(hn:(assignEach es X.env).length=n:=by rfl)(hst:(assignEach es X.env).findIdx? (·.1)=none:=by rfl):QG X (.Tuple es k pos) (zox K n gs):=hK ▸ zjz hc h hn hst
theorem zk5 {X:Cx}(K:PySem.W.Frag)(hK:X.K=K){e tg:Expr}{te:TE}(hl:QE X e te):QI X tg e (zoz K te):=hK ▸ zjA hl
theorem zeF {X:Cx}(K:PySem.W.Frag)(hK:X.K=K){e tg:Expr}{te:TE}(hl:QE X e te):QI X tg e (zjZ K te):=hK ▸ zdY hl
structure Wi where
 g:List (Int×Int)
 b:Int
 r:Int
 w:Int
@[reducible] def zpI (x:Wi):Dt:=.tup [.tup (x.g.map yN),.int x.b,.int x.r,.int x.w]
structure WishOk (rm:List Int)(x:Wi):Prop where
 giv:Giv rm x.g
 b0:0<=x.b
 b1:x.b<rm.length
 apart:∀ q∈x.g,q.1≠x.b
 r0:0<=x.r
 r1:x.r<zE rm x.b
 w0:0<=x.w
 w1:x.w<zE rm x.b
 ne:x.r≠x.w
section
variable {H H':Hp}{R:Dt->Prop}{xs ys:List V}
end
theorem zic (b:Int)(ns:List Int):inV (.int b) (ns.map V.int)=ns.contains b:=by
 unfold inV
 induction ns with
 | nil=>rfl
 | cons n ns ih=>
  rw [List.map_cons,List.any_cons,ih,List.contains_cons]
  show ((n==b) || _)=((b==n) || _)
  rw [show (n==b)=(b==n) from BEq.comm]
theorem zgb (ns:List Int):(ns.map V.int).all zbM=true:=by
 rw [List.all_eq_true]
 intro x hx
 obtain ⟨n,_,rfl⟩:=List.mem_map.mp hx
 rfl
theorem zgg {m:Int}:∀ {g:List (Int×Int)} {lo:Int},(∀ q∈g,lo<=q.1/\q.1<m)->(g.Pairwise fun a b=>a.1<b.1)->lo<=m->(g.length:Int)<=m - lo
 | [],lo,_,_,h=>by simp;lia
 | q::g,lo,h,hp,hm=>by
  have h1:=h q List.mem_cons_self
  have hp':=List.pairwise_cons.mp hp
  have ih:=zgg (g:=g) (lo:=q.1+1) (fun x hx=>⟨by have:=hp'.1 x hx;lia,(h x (List.mem_cons_of_mem _ hx)).2⟩) hp'.2 (by lia)
  rw [List.length_cons]
  lia
theorem zdC {rm:List Int}{g:List (Int×Int)}(h:Giv rm g)(h8:rm.length<=8):g.length<=100:=by
 have:=zgg (g:=g) (lo:=0) (m:=rm.length) (fun q hq=>⟨(h.ok q hq).1,(h.ok q hq).2.1⟩) h.up (by lia)
 lia
theorem zfQ (xs:List V)(k:Nat):zbf xs none (some (k:Int))=xs.take k:=by
 have e:HT.sIx xs.length xs.length (some (k:Int))=min k xs.length:=by simp [HT.sIx];try lia
 unfold zbf
 rw [e,show HT.sIx xs.length 0 none=0 from rfl,List.drop_zero,Nat.sub_zero]
 by_cases h:k<=xs.length
 ·rw [Nat.min_eq_left h]
 ·rw [Nat.min_eq_right (by lia),List.take_of_length_le (Nat.le_refl _),List.take_of_length_le (by lia)]
theorem zfP (xs:List V)(k:Nat):zbf xs (some (k:Int)) none=xs.drop k:=by
 have e:HT.sIx xs.length 0 (some (k:Int))=min k xs.length:=by simp [HT.sIx];try lia
 unfold zbf
 rw [e,show HT.sIx xs.length xs.length none=xs.length from rfl]
 by_cases h:k<=xs.length
 ·rw [Nat.min_eq_left h,List.take_of_length_le (by rw [List.length_drop];lia)]
 ·rw [Nat.min_eq_right (by lia),List.drop_eq_nil_of_le (as:=xs) (i:=xs.length) (by lia),List.drop_eq_nil_of_le (as:=xs) (i:=k) (by lia),List.take_nil]
section
variable {rm:List Int}{g b r w:Dt}
end
end L2
namespace HT
open PySem PySem.Spec PyProof.Rows
section
variable {prog:Program}{w:World}{A:Around}{E:Value->Shared->Prop}{s:Shared}
end
end HT
namespace L2
open PySem PySem.Spec PyProof.Rows
section
variable {X:Cx}{e:Expr}{te:TE}{pos p2 p3 p4:Pos}{j:Nat}
end
section
variable {X:Cx}
end
def chg (st:List Int)(b w:Int):List Int:=st.take b.toNat++[w]++st.drop (b.toNat+1)
theorem zjL (st:List Int){b w:Int}(h0:0<=b):zbf (st.map V.int) none (some b)++[.int w]++zbf (st.map V.int) (some (b+1)) none=(chg st b w).map V.int:=by
 obtain ⟨j,rfl⟩:∃ j:Nat,b=j:=⟨b.toNat,by lia⟩
 rw [zfQ,show ((j:Int)+1)=((j+1:Nat):Int) by lia,zfP]
 unfold chg
 rw [List.map_append,List.map_append,List.map_take,List.map_drop]
 rfl
def xL (st:List Int)(g:List (Int×Int)):Bool:=g.all fun q=>decide (zE st q.1=q.2)
def zoy (st:List Int)(x:Wi):Bool:=decide (zE st x.b=x.w)&&xL st x.g
theorem yj (st:List Int)(j:Nat):zE st (j:Int)=st.getD j 0:=by unfold zE;simp
theorem zcL {st:List Int}{r b:Int}(h0:0<=b)(h1:b<st.length):zE (st++[r]) b=zE st b:=by
 obtain ⟨j,rfl⟩:∃ j:Nat,b=j:=⟨b.toNat,by lia⟩
 have hj:j<st.length:=by lia
 rw [yj,yj,List.getD_eq_getElem?_getD,List.getD_eq_getElem?_getD,List.getElem?_append_left hj]
theorem zcK {st:List Int}{r:Int}:zE (st++[r]) (st.length:Int)=r:=by
 rw [yj,List.getD_eq_getElem?_getD,List.getElem?_append_right (Nat.le_refl _),Nat.sub_self]
 rfl
theorem zdN {st:List Int}{i:Nat}{m:Int}(h:st[i]?=some m):zE st (i:Int)=m:=by
 rw [yj,List.getD_eq_getElem?_getD,h]
 rfl
theorem zc2 {rm:List Int}(hb:∀ r∈rm,2<=r/\r<=4){b:Int}(h0:0<=b)(h1:b<rm.length):2<=zE rm b/\zE rm b<=4:=by
 obtain ⟨j,rfl⟩:∃ j:Nat,b=j:=⟨b.toNat,by lia⟩
 have hj:j<rm.length:=by lia
 rw [zdN (List.getElem?_eq_getElem hj)]
 exact hb _ (List.getElem_mem hj)
theorem zcN:∀ st:List Int,Dt.noLs (st.map .int)=true
 | []=>rfl
 | _::st=>by
  show (true&&Dt.noLs (st.map .int))=true
  rw [zcN st]
  rfl
theorem zig (st:List Int):PySem.W.kqdOk 7 (Dt.tup (st.map .int)).toW=true:=by
 have e:∀ ns:List Int,(Dt.toWs (ns.map .int)).all (PySem.W.kqdOk 6)=true:=by
  intro ns
  induction ns with
  | nil=>rfl
  | cons n ns ih=>simp only [List.map_cons,Dt.toWs,List.all_cons,ih,Bool.and_true];rfl
 exact e st
theorem zkT {X:Cx}{elt tg iter:Expr}{ifs:List Expr}{scope:Scope}{pos spos:Pos}{wi:TI}{g:TG}{ti:TT}{te:TE}{N:List Str}{cix:List (Option Nat)}{ix:Nat}{nx:Str}{px:Pos}(hNd:X.N.Nodup)(hix:X.N[ix]?=some nx)(hlx:X.env.scope.names.lookup nx=some .local)(hc:X.calm=true)(c:CompOk X scope N cix)
  (hi:PI X tg iter wi) (hg:∀ C s H ex,PG (zo X scope N C s H ex) tg g) (ht:∀ C s H ex,PTs (zo X scope N C s H ex) ifs ti) (he:∀ C s H ex,PE (zo X scope N C s H ex) elt te)
  (hsw:swapsWithSole [.Name nx px] (.ListComp elt [⟨tg,iter,ifs,0⟩] scope pos) spos.line X.env=pure true)
  (hs:∀ x,foldedSetIterable iter X.env x=pure x:=by intro _;rfl)
  (h1a:(assignEach [.Name nx px] X.env).map (·.2)=[assign (.Name nx px) X.env]:=by rfl):PS X (.Assign [.Name nx px] (.ListComp elt [⟨tg,iter,ifs,0⟩] scope pos) spos) (zfi (ziV wi g ti te cix) (u8 ix)):=by
 intro pins s σ H D I h0
 have h:ziV wi g ti te cix σ H (fun x H1=>D.nx (σ.set ix (some x)) H1):=h0
 rw [exec_Assign_arm]
 refine wpAny_bind (wpAny_standAt ?_)
 rw [hsw]
 refine wpAny_bind (wpAny_pure ?_)
 rw [if_pos rfl]
 refine wpAny_bind ?_
 rw [evalThenUse.eq_1]
 refine wpAny_bind ?_
 generalize hU:(fun v=>assignAll v ((assignEach [.Name nx px] X.env).map (·.2)))=U
 refine wpAny_comprehension_free (g:=⟨tg,iter,ifs,0⟩) (gs:=[]) (use:=some U) rfl hs (u5 (c.cells I.ok)) c.kind c.names ?_
 refine (thn (hi pins s σ H _ I h) fun xv s1 h1=>thn h1 fun itv s2 h2=>?_)
 obtain ⟨it,fp,tn,J,H2,e,I2,T,st2,f2,q2⟩:=h2
 subst e
 refine wpAny_newObj_type (wpAny_newFunctionEnv c.cell (by intro y hy;simp at hy) (fun h4 hns4 hsb4=>?_) c.kind)
 dsimp only at hns4 hsb4 ⊢
 have hnone:=I2.hok.fresh (Nat.le_refl s2.heap.objs.size)
 have I3:Inv X pins σ (upd H2 s2.heap.objs.size (.lst [])) { s2 with heap:=s2.heap.push { cls:=.type "list",dict:=none,data:=.seq ([]:List Value).toArray },toks:=s2.toks }:=I2.lnew (t':=s2.toks) .nil (by simp)
 obtain ⟨W,⟨m0,w0⟩,turn⟩:=q2 s2.heap.objs.size hnone
 have ltF:∀ b∈fp,b<s2.heap.objs.size:=fun b hb=>by
  obtain ⟨o,ho,_⟩:=T.obj _ _ st2 b hb
  exact Heap.lt_size ho
 have f3:∀ b∈fp,zdg X pins (upd H2 s2.heap.objs.size (.lst [])) b:=fun b hb=>⟨by rw [ze (Nat.ne_of_lt (ltF b hb))];exact (f2 b hb).1,(f2 b hb).2⟩
 have kp:∀ b o,(s2.heap.push { cls:=.type "list",dict:=none,data:=.seq ([]:List Value).toArray }).get? b=some o->h4.get? b=some o:=fun b o e=>
  hsb4.extBut b o (Nat.ne_of_lt (Heap.lt_size e)) (Heap.get?_push_of_some _ e)
 have sz3:s2.heap.objs.size<(s2.heap.push { cls:=.type "list",dict:=none,data:=.seq ([]:List Value).toArray }).objs.size:=by rw [Heap.size_push];exact Nat.lt_succ_self _
 have I4:=zbN (tk:=s2.toks+([]:List (Str×Value)).length) I3 c f3 (fun b hb=>Nat.lt_trans (ltF b hb) sz3) hns4 kp
 have st4:tn 0 h4:=T.keep _ _ _ st2 fun b hb o e=>kp b o (Heap.get?_push_of_some _ e)
 generalize hX:zo X scope N (s2.heap.push { cls:=.type "list",dict:=none,data:=.seq ([]:List Value).toArray }).objs.size
  { s2 with heap:=s2.heap.push { cls:=.type "list",dict:=none,data:=.seq ([]:List Value).toArray },toks:=s2.toks } (upd H2 s2.heap.objs.size (.lst [])) fp=X' at I4
 have pX:X'.prog=X.prog:=by rw [<- hX];rfl
 have wX:X'.w=X.w:=by rw [<- hX];rfl
 have KX:X'.K=X.K:=by rw [<- hX];rfl
 have AX:X'.A=X.A:=by rw [<- hX];rfl
 have cX:X'.calm=true:=by rw [<- hX];exact hc
 have xX:X'.xe=fun _ _=>False:=by rw [<- hX];rfl
 have eX:X'.env=compEnvC scope (zdm X.env scope.names []) (s2.heap.push { cls:=.type "list",dict:=none,data:=.seq ([]:List Value).toArray }).objs.size X.env:=by rw [<- hX];rfl
 have hg':PG X' tg g:=by rw [<- hX];exact hg _ _ _ _
 have ht':PTs X' ifs ti:=by rw [<- hX];exact ht _ _ _ _
 have he':PE X' elt te:=by rw [<- hX];exact he _ _ _ _
 have f4:∀ {H':Hp},(∀ b∈fp,H' b=none)->∀ b∈fp,zdg X' [] H' b:=fun {H'} hn b hb=>by
  refine ⟨hn b hb,?_,?_,.inl ?_,?_,?_⟩
  ·rw [eX];exact Nat.ne_of_lt (Nat.lt_trans (ltF b hb) sz3)
  ·have e1:X'.fs=frs X.stack:=by rw [<- hX];rfl
   rw [e1]
   intro z
   rcases List.mem_cons.mp (I2.stkSub b z) with e | e
   ·exact (f2 b hb).2.1 e
   ·exact (f2 b hb).2.2.1 e
  ·rw [<- hX];exact hb
  ·rw [eX]
   intro x a e
   rcases xS (c.cells I.ok) e with z | z
   ·exact (f2 b hb).2.2.2.2.1 x a z
   ·simp at z
  ·intro p hp
   have e1:X'.pn++([]:List (Addr×Obj))=[]:=by rw [<- hX];rfl
   rw [e1] at hp
   simp at hp
 have loop:∀ s4:Shared,s4={ s2 with heap:=h4,toks:=s2.toks+([]:List (Str×Value)).length }->
   codeAny (model X.prog X.w) X.A (.compLoop (.ListComp elt [⟨tg,iter,ifs,0⟩] scope pos) 0 (.ref it) (.ref s2.heap.objs.size) X'.env)
    (compPost (model X.prog X.w) X.A X.xe (some U) (fun _ s=>wpAny (model X.prog X.w) X.A (pure ()) (fun _ s=>wpAny (model X.prog X.w) X.A (pure Flow.next) (SP X pins D) X.xe s) X.xe s) (.ref s2.heap.objs.size) (s2.heap.push { cls:=.type "list",dict:=none,data:=.seq ([]:List Value).toArray }).objs.size) s4:=by
  rintro s4 rfl
  refine uC (fun n s'=>∃ i σ' H',Inv X' [] σ' H' s'/\tn i s'.heap/\(∀ b∈fp,H' b=none)/\W i n σ' H') ?_ m0 ⟨0,zcx σ cix,_,I4,st4,fun b hb=>(f3 b hb).1,w0⟩
  rintro n s5 ⟨i,σ5,H5,I5,st5,fr5,w5⟩
  rcases turn i n σ5 H5 w5 with ⟨stop,qn⟩ | ⟨go,Nx,hN,step⟩
  ·have:=T.done X' pX wX KX cX i [] s5 σ5 H5 (fun _ _=>False) I5 (f4 fr5) st5 stop
   rw [AX] at this
   refine thn this fun r s6 ⟨hr,I6⟩=>?_
   subst hr
   obtain ⟨m6,hn6,_⟩:=I6.loc
   have hfr:H5 (s2.heap.push { cls:=.type "list",dict:=none,data:=.seq ([]:List Value).toArray }).objs.size=none:=by
    have:=I6.free
    rw [eX] at this
    exact this
   rw [eX] at hn6
   have I6':=I6
   rw [<- hX] at I6'
   have IX:=u9 I3 f3 I6' ⟨rfl,fun _ _=>rfl⟩
   have fC:=I3.fpOk (Nat.le_refl _) hfr
   have hUv:U (.ref s2.heap.objs.size)=assignAll (.ref s2.heap.objs.size) [assign (.Name nx px) X.env]:=by
    rw [<- hU,<- h1a]
   show wpAny _ _ (U (.ref s2.heap.objs.size)) _ _ s6
   rw [hUv]
   refine wpAny_assign_Name (x:=nx) (pos:=px) ?_
   refine zbd IX hNd hix (Or.inl hlx) (v:=.ref s2.heap.objs.size) rfl (fun s7 I7 ⟨a7,hs7,ha7⟩=>?_) (.inr hlx)
   have hCa:(s2.heap.push { cls:=.type "list",dict:=none,data:=.seq ([]:List Value).toArray }).objs.size≠a7:=by
    intro z
    rcases ha7 with e | e
    ·exact fC.2.1 (z.trans e)
    ·exact fC.2.2.2.2.1 nx a7 e z.symm
   obtain ⟨oC,esC,epC,hoC,rC⟩:=hn6
   refine ⟨m6,⟨oC,esC,epC,(hs7.2 _ hCa).trans hoC,rC⟩,fun h8 hs8=>?_⟩
   refine wpAny_pure (wpAny_pure ?_)
   exact ⟨_,H5,I7.turned (t':=s7.toks) (fun b o hb e=>(hs8.2 b hb).trans e) hfr fC.2.1 fC.2.2.2.1 fC.2.2.2.2.1 fC.2.2.2.2.2,qn⟩
  ·have:=T.item X' pX wX KX cX i [] s5 σ5 H5 (fun _ _=>False) I5 (f4 fr5) st5 go
   rw [AX] at this
   refine thn this fun r s6 ⟨u,hr,h6⟩=>?_
   subst hr
   refine thn h6 fun _ s7 ⟨x,H7,I7,r7,y7,st7,fr7⟩=>?_
   have I7':=I7.pinned (f4 fr7) (T.obj _ _ st7)
   have a7:=hg' _ s7 σ5 H7 x u _ I7' r7 (step x H7 y7)
   rw [pX,wX,AX,xX] at a7
   refine thn a7 fun _ s8 ⟨σ8,H8,I8,q8⟩=>?_
   have t8:=ht' _ s8 σ8 H8 _ I8 q8
   rw [pX,wX,AX,xX] at t8
   refine thn t8 fun ok s9 ⟨H9,I9,q9⟩=>?_
   have again:∀ {s':Shared} {σ':St} {H':Hp},Inv X' ([]++xP fp s7.heap) σ' H' s'->Nx σ' H'->∃ m,m<n/\∃ i σ' H',Inv X' [] σ' H' s'/\tn i s'.heap/\(∀ b∈fp,H' b=none)/\W i m σ' H':=fun {s' σ' H'} J' n'=>by
    obtain ⟨m',hm,w'⟩:=hN σ' H' n'
    refine ⟨m',hm,i+1,σ',H',J'.unpinned,T.keep _ _ _ st7 fun b hb o e=>(J'.pin (b,o) (List.mem_append_right _ (List.mem_append_right _ (zT hb e)))).1,fun b hb=>?_,w'⟩
    obtain ⟨o,e,d⟩:=T.obj _ _ st7 b hb
    exact (J'.pin (b,o) (List.mem_append_right _ (List.mem_append_right _ (zT hb e)))).2.1
   cases ok with
   | false=>exact again I9 q9
   | true=>
    have e9:=he' _ s9 σ8 H9 _ I9 q9
    rw [pX,wX,AX,xX] at e9
    refine thn e9 fun u2 s10 ⟨v,H10,I10,r10,q10⟩=>?_
    obtain ⟨xs,hxs,hlt,nx⟩:=q10
    have m10:=uP (X:=X') _ s10 σ8 H10 (.ref s2.heap.objs.size) [v] (.ref s2.heap.objs.size) [u2] (fun _ H'=>Nx σ8 H') I10 rfl (.cons r10 .nil) ⟨_,xs,v,rfl,rfl,hxs,hlt,nx⟩
    rw [pX,wX,AX,xX] at m10
    refine thn m10 fun _ s11 ⟨_,H11,I11,_,n11⟩=>again I11 n11
 have l0:=loop _ rfl
 rw [eX] at l0
 exact codeAny_compStart_list l0 (T.self X.A 0 _ _ _ st4 l0)
theorem zk8 {X:Cx}{elt tg iter:Expr}{ifs:List Expr}{scope:Scope}{pos spos:Pos}{wi:TI}{g:TG}{ti:TT}{te:TE}{N:List Str}{cix:List (Option Nat)}{ix:Nat}{nx:Str}{px:Pos}(hNd:X.N.Nodup)(hix:X.N[ix]?=some nx)(hlx:X.env.scope.names.lookup nx=some .local)(hc:X.calm=true)(c:CompOk X scope N cix)
  (hi:QI X tg iter wi) (hg:∀ C s H ex,QG (zo X scope N C s H ex) tg g) (ht:∀ C s H ex,QTs (zo X scope N C s H ex) ifs ti) (he:∀ C s H ex,QE (zo X scope N C s H ex) elt te)
  (hsw:swapsWithSole [.Name nx px] (.ListComp elt [⟨tg,iter,ifs,0⟩] scope pos) spos.line X.env=pure true:=by rfl)
  (hs:∀ x,foldedSetIterable iter X.env x=pure x:=by intro _;rfl)
  (h1a:(assignEach [.Name nx px] X.env).map (·.2)=[assign (.Name nx px) X.env]:=by rfl):QS X (.Assign [.Name nx px] (.ListComp elt [⟨tg,iter,ifs,0⟩] scope pos) spos) (zfi (zhk wi g ti te cix) (u8 ix)):=
 ⟨zkT hNd hix hlx hc c hi.run (fun C s H ex=>(hg C s H ex).run) (fun C s H ex=>(ht C s H ex).run) (fun C s H ex=>(he C s H ex).run) hsw hs h1a⟩
section
variable {prog:Program}{w:World}{A:Around}{E:Value->Shared->Prop}{s:Shared}
theorem zbk {z TI TO i1 i2 t1 t2:Addr}{k1 k2:Nat}{xs ys:Array Value}{x y a b:Value}{Q:Value->Shared->Prop}(D:ZipApart z TI TO i1 i2 t1 t2)
  (hz:IsZip s.heap z TI TO .none) (hTI:IsPair s.heap TI (.ref i1) (.ref i2)) (hTO:IsPair s.heap TO a b) (h1:s.heap.IsTupleIter i1 t1 k1) (h2:s.heap.IsTupleIter i2 t2 k2)
  (hx:s.heap.IsTuple t1 xs) (hy:s.heap.IsTuple t2 ys) (ex:xs[k1]?=some x) (ey:ys[k2]?=some y)
  (hQ:∀ h',IsZip h' z TI TO (rawInt s.heap.objs.size)->IsPair h' TO x y->h'.IsTupleIter i1 t1 (k1+1)->h'.IsTupleIter i2 t2 (k2+1)->IsPair h' s.heap.objs.size x y->h'.objs.size=s.heap.objs.size+1->
   (∀ c o,c≠z->c≠TO->c≠i1->c≠i2->s.heap.get? c=some o->h'.get? c=some o)->Q (.ref s.heap.objs.size) { s with heap:=h' }) :
  wpAny (model prog w) A (Builtin.«zip.__next__» ⟨[.ref z],[]⟩) (fun fin s'=>∃ v,fin = .done (.ret v)/\Q v s') E s:=by
 show wpAny _ _ (field (.ref z) 2 >>= _) _ _ s
 refine wpAny_bind (wpAny_field hz rfl (x:=.bool false) rfl ?_)
 show wpAny _ _ (field (.ref z) 3 >>= _) _ _ s
 refine wpAny_bind (wpAny_field hz rfl (x:=.ref TI) rfl ?_)
 show wpAny _ _ (seqItems? (.ref TI) >>= _) _ _ s
 refine wpAny_bind (wpAny_seqItems hTI rfl ?_)
 show wpAny _ _ (Builtin.SmallTypes.ownedTupleIsFree (.ref z) >>= _) _ _ s
 refine wpAny_bind ?_
 show wpAny _ _ (field (.ref z) 0 >>= _) _ _ s
 refine wpAny_bind (wpAny_field hz rfl (x:=.none) rfl ?_)
 refine wpAny_pure ?_
 show wpAny _ _ (rule "zip.__next__.owned-tuple-again" >>= _) _ _ s
 refine wpAny_bind (wpAny_rule ?_)
 show wpAny _ _ (field (.ref z) 4 >>= _) _ _ s
 refine wpAny_bind (wpAny_field hz rfl (x:=.ref TO) rfl ?_)
 show wpAny _ _ (setField (.ref z) 0 .ellipsis >>= _) _ _ s
 refine wpAny_bind (wpAny_setField hz rfl (by simp) ?_)
 have hz1:(s.heap.update z (Obj.mapFields fun x=>x.setIfInBounds 0 Value.ellipsis)).get? z=some { cls:=.type "zip",data:=.fields #[.ellipsis,.bool false,.bool false,.ref TI,.ref TO] }:=Heap.get?_update_self _ hz rfl
 have ko1:∀ c,c≠z->(s.heap.update z (Obj.mapFields fun x=>x.setIfInBounds 0 Value.ellipsis)).get? c=s.heap.get? c:=fun c hc=>Heap.get?_update_other _ _ (Ne.symm hc)
 have zs1:(s.heap.update z (Obj.mapFields fun x=>x.setIfInBounds 0 Value.ellipsis)).objs.size=s.heap.objs.size:=by simp [Heap.update]
 generalize s.heap.update z (Obj.mapFields fun x=>x.setIfInBounds 0 Value.ellipsis)=H1 at hz1 ko1 zs1
 show wpAny _ _ (forIn ([(Value.ref i1,0),(Value.ref i2,1)]:List (Value×Nat)) ((none,()):Option PySem.Fin×Unit) _ >>= _) _ _ _
 rw [List.forIn_cons]
 refine wpAny_bind (wpAny_bind ?_)
 refine wpAny_bind (wpAny_onRaise ?_)
 show wpAny _ _ (if (Value.bool false==Value.bool true)=true then _ else (Builtin.SmallTypes.nextOf (.ref i1) >>= fun x=>pure (some x))) _ _ _
 rw [if_neg (by decide)]
 have h1':H1.IsTupleIter i1 t1 k1:=by obtain ⟨o,ho,r⟩:=h1;exact ⟨o,(ko1 _ D.i1z).trans ho,r⟩
 have hx':H1.IsTuple t1 xs:=by obtain ⟨o,ho,r⟩:=hx;exact ⟨o,(ko1 _ D.l1z).trans ho,r⟩
 refine wpAny_bind (yy (s:={ s with heap:=H1 }) h1' hx' ex fun H2 hit2 sb2=>?_)
 refine wpAny_pure ?_
 have ko2:∀ c,c≠i1->H2.get? c=H1.get? c:=fun c hc=>sb2.2 c hc
 have hTO2:IsPair H2 TO a b:=(ko2 _ D.TOi1).trans ((ko1 _ D.TOz).trans hTO)
 show wpAny _ _ (seqItems? (.ref TO) >>= _) _ _ _
 refine wpAny_bind (wpAny_seqItems (s:={ s with heap:=H2 }) hTO2 rfl ?_)
 refine wpAny_bind (wpAny_updateSeq_pair (s:={ s with heap:=H2 }) hTO2 fun H3 hTO3 sb3=>?_)
 refine wpAny_bind (wpAny_letGo ?_)
 refine wpAny_pure ?_
 have hTO3':IsPair H3 TO x b:=hTO3
 have ko3:∀ c,c≠TO->H3.get? c=H2.get? c:=fun c hc=>sb3.2 c hc
 show wpAny _ _ (forIn ([(Value.ref i2,1)]:List (Value×Nat)) ((none,()):Option PySem.Fin×Unit) _) _ _ _
 rw [List.forIn_cons]
 refine wpAny_bind ?_
 refine wpAny_bind (wpAny_onRaise ?_)
 show wpAny _ _ (if (Value.bool false==Value.bool true)=true then _ else (Builtin.SmallTypes.nextOf (.ref i2) >>= fun x=>pure (some x))) _ _ _
 rw [if_neg (by decide)]
 have h2':H3.IsTupleIter i2 t2 k2:=by obtain ⟨o,ho,r⟩:=h2;exact ⟨o,(ko3 _ (Ne.symm D.TOi2)).trans ((ko2 _ (Ne.symm D.i12)).trans ((ko1 _ D.i2z).trans ho)),r⟩
 have hy':H3.IsTuple t2 ys:=by obtain ⟨o,ho,r⟩:=hy;exact ⟨o,(ko3 _ D.l2TO).trans ((ko2 _ D.l2i1).trans ((ko1 _ D.l2z).trans ho)),r⟩
 refine wpAny_bind (yy (s:={ s with heap:=H3 }) h2' hy' ey fun H4 hit4 sb4=>?_)
 refine wpAny_pure ?_
 have ko4:∀ c,c≠i2->H4.get? c=H3.get? c:=fun c hc=>sb4.2 c hc
 have hTO4:IsPair H4 TO x b:=(ko4 _ D.TOi2).trans hTO3'
 show wpAny _ _ (seqItems? (.ref TO) >>= _) _ _ _
 refine wpAny_bind (wpAny_seqItems (s:={ s with heap:=H4 }) hTO4 rfl ?_)
 refine wpAny_bind (wpAny_updateSeq_pair (s:={ s with heap:=H4 }) hTO4 fun H5 hTO5 sb5=>?_)
 refine wpAny_bind (wpAny_letGo ?_)
 refine wpAny_pure ?_
 have hTO5':IsPair H5 TO x y:=hTO5
 have ko5:∀ c,c≠TO->H5.get? c=H4.get? c:=fun c hc=>sb5.2 c hc
 show wpAny _ _ (forIn ([]:List (Value×Nat)) ((none,()):Option PySem.Fin×Unit) _) _ _ _
 rw [List.forIn_nil]
 refine wpAny_pure ?_
 show wpAny _ _ (seqItems? (.ref TO) >>= _) _ _ _
 refine wpAny_bind (wpAny_seqItems (s:={ s with heap:=H5 }) hTO5' rfl ?_)
 refine wpAny_bind (wpAny_newTuple ?_ (by show 2<=sizeLine;decide))
 have sz5:H5.objs.size=s.heap.objs.size:=sb5.1.trans (sb4.1.trans (sb3.1.trans (sb2.1.trans zs1)))
 have ko:∀ c o,c≠z->c≠TO->c≠i1->c≠i2->s.heap.get? c=some o->H5.get? c=some o:=fun c o c1 c2 c3 c4 e=>(ko5 _ c2).trans ((ko4 _ c4).trans ((ko3 _ c2).trans ((ko2 _ c3).trans ((ko1 _ c1).trans e))))
 have hz5:H5.get? z=some { cls:=.type "zip",data:=.fields #[.ellipsis,.bool false,.bool false,.ref TI,.ref TO] }:=(ko5 _ (Ne.symm D.TOz)).trans ((ko4 _ (Ne.symm D.i2z)).trans ((ko3 _ (Ne.symm D.TOz)).trans ((ko2 _ (Ne.symm D.i1z)).trans hz1)))
 have hnew:=Heap.get?_push_size H5 (o:={ cls:=.type "tuple",data:=.seq #[x,y] }) rfl
 show wpAny _ _ (Builtin.SmallTypes.ownedTupleHandOut (.ref z) (.ref H5.objs.size) >>= _) _ _ { s with heap:=H5.push { cls:=.type "tuple",data:=.seq #[x,y] } }
 have ko6:∀ c o,H5.get? c=some o->(H5.push { cls:=.type "tuple",data:=.seq #[x,y] }).get? c=some o:=fun c o e=>Heap.get?_push_of_some _ e
 have sz6:(H5.push { cls:=.type "tuple",data:=.seq #[x,y] }).objs.size=s.heap.objs.size+1:=by rw [Heap.size_push,sz5]
 rw [sz5] at hnew ⊢
 generalize H5.push { cls:=.type "tuple",data:=.seq #[x,y] }=H6 at hnew ko6 sz6
 have hz6:=ko6 _ _ hz5
 refine wpAny_bind ?_
 show wpAny _ _ (setField (.ref z) 0 (rawInt s.heap.objs.size) >>= _) _ _ { s with heap:=H6 }
 refine wpAny_bind (wpAny_setField hz6 rfl (by simp) ?_)
 have hz7:(H6.update z (Obj.mapFields fun x=>x.setIfInBounds 0 (rawInt s.heap.objs.size))).get? z=some { cls:=.type "zip",data:=.fields #[rawInt s.heap.objs.size,.bool false,.bool false,.ref TI,.ref TO] }:=Heap.get?_update_self _ hz6 rfl
 have ko7:∀ c,c≠z->(H6.update z (Obj.mapFields fun x=>x.setIfInBounds 0 (rawInt s.heap.objs.size))).get? c=H6.get? c:=fun c hc=>Heap.get?_update_other _ _ (Ne.symm hc)
 have sz7:(H6.update z (Obj.mapFields fun x=>x.setIfInBounds 0 (rawInt s.heap.objs.size))).objs.size=H6.objs.size:=by simp [Heap.update]
 generalize H6.update z (Obj.mapFields fun x=>x.setIfInBounds 0 (rawInt s.heap.objs.size))=H7 at hz7 ko7 sz7
 refine wpAny_setField (s:={ s with heap:=H7 }) hz7 rfl (by simp) ?_
 have hz8:(H7.update z (Obj.mapFields fun x=>x.setIfInBounds 1 (Value.bool false))).get? z=some { cls:=.type "zip",data:=.fields #[rawInt s.heap.objs.size,.bool false,.bool false,.ref TI,.ref TO] }:=Heap.get?_update_self _ hz7 rfl
 have ko8:∀ c,c≠z->(H7.update z (Obj.mapFields fun x=>x.setIfInBounds 1 (Value.bool false))).get? c=H7.get? c:=fun c hc=>Heap.get?_update_other _ _ (Ne.symm hc)
 have sz8:(H7.update z (Obj.mapFields fun x=>x.setIfInBounds 1 (Value.bool false))).objs.size=H7.objs.size:=by simp [Heap.update]
 generalize H7.update z (Obj.mapFields fun x=>x.setIfInBounds 1 (Value.bool false))=H8 at hz8 ko8 sz8
 have kk:∀ c o,c≠z->H5.get? c=some o->H8.get? c=some o:=fun c o hc e=>(ko8 _ hc).trans ((ko7 _ hc).trans (ko6 _ _ e))
 have hzlt:=Heap.lt_size hz
 refine wpAny_pure ⟨_,rfl,hQ H8 hz8 (kk _ _ D.TOz hTO5') ?_ ?_ ?_ (by rw [sz8,sz7,sz6]) fun c o c1 c2 c3 c4 e=>kk _ _ c1 (ko c o c1 c2 c3 c4 e)⟩
 ·obtain ⟨o,ho,r⟩:=hit2
  exact ⟨o,kk _ _ D.i1z ((ko5 _ (Ne.symm D.TOi1)).trans ((ko4 _ D.i12).trans ((ko3 _ (Ne.symm D.TOi1)).trans ho))),r⟩
 ·obtain ⟨o,ho,r⟩:=hit4
  exact ⟨o,kk _ _ D.i2z ((ko5 _ (Ne.symm D.TOi2)).trans ho),r⟩
 ·exact (ko8 _ (Nat.ne_of_gt hzlt)).trans ((ko7 _ (Nat.ne_of_gt hzlt)).trans hnew)
theorem zcn {z TI TO i1 i2 t1 t2:Addr}{k1:Nat}{xs:Array Value}{Q:PySem.Fin->Shared->Prop}(D:ZipApart z TI TO i1 i2 t1 t2)(hh:A.handled=none)
  (hz:IsZip s.heap z TI TO .none) (hTI:IsPair s.heap TI (.ref i1) (.ref i2)) (h1:s.heap.IsTupleIter i1 t1 k1) (hx:s.heap.IsTuple t1 xs) (ex:xs[k1]?=none)
  (hE:∀ h' e,(∀ c o,c≠z->c≠i1->s.heap.get? c=some o->h'.get? c=some o)->(∃ o,h'.get? e=some o/\o.cls = .type "StopIteration")->E (.ref e) { s with heap:=h' }) :
  wpAny (model prog w) A (Builtin.«zip.__next__» ⟨[.ref z],[]⟩) Q E s:=by
 show wpAny _ _ (field (.ref z) 2 >>= _) _ _ s
 refine wpAny_bind (wpAny_field hz rfl (x:=.bool false) rfl ?_)
 show wpAny _ _ (field (.ref z) 3 >>= _) _ _ s
 refine wpAny_bind (wpAny_field hz rfl (x:=.ref TI) rfl ?_)
 show wpAny _ _ (seqItems? (.ref TI) >>= _) _ _ s
 refine wpAny_bind (wpAny_seqItems hTI rfl ?_)
 show wpAny _ _ (Builtin.SmallTypes.ownedTupleIsFree (.ref z) >>= _) _ _ s
 refine wpAny_bind ?_
 show wpAny _ _ (field (.ref z) 0 >>= _) _ _ s
 refine wpAny_bind (wpAny_field hz rfl (x:=.none) rfl ?_)
 refine wpAny_pure ?_
 show wpAny _ _ (rule "zip.__next__.owned-tuple-again" >>= _) _ _ s
 refine wpAny_bind (wpAny_rule ?_)
 show wpAny _ _ (field (.ref z) 4 >>= _) _ _ s
 refine wpAny_bind (wpAny_field hz rfl (x:=.ref TO) rfl ?_)
 show wpAny _ _ (setField (.ref z) 0 .ellipsis >>= _) _ _ s
 refine wpAny_bind (wpAny_setField hz rfl (by simp) ?_)
 have hz1:(s.heap.update z (Obj.mapFields fun x=>x.setIfInBounds 0 Value.ellipsis)).get? z=some { cls:=.type "zip",data:=.fields #[.ellipsis,.bool false,.bool false,.ref TI,.ref TO] }:=Heap.get?_update_self _ hz rfl
 have ko1:∀ c,c≠z->(s.heap.update z (Obj.mapFields fun x=>x.setIfInBounds 0 Value.ellipsis)).get? c=s.heap.get? c:=fun c hc=>Heap.get?_update_other _ _ (Ne.symm hc)
 generalize s.heap.update z (Obj.mapFields fun x=>x.setIfInBounds 0 Value.ellipsis)=H1 at hz1 ko1
 show wpAny _ _ (forIn ([(Value.ref i1,0),(Value.ref i2,1)]:List (Value×Nat)) ((none,()):Option PySem.Fin×Unit) _ >>= _) _ _ _
 rw [List.forIn_cons]
 refine wpAny_bind (wpAny_bind ?_)
 refine wpAny_bind (wpAny_onRaise ?_)
 show wpAny _ _ (if (Value.bool false==Value.bool true)=true then _ else (Builtin.SmallTypes.nextOf (.ref i1) >>= fun x=>pure (some x))) _ _ _
 rw [if_neg (by decide)]
 have h1':H1.IsTupleIter i1 t1 k1:=by obtain ⟨o,ho,r⟩:=h1;exact ⟨o,(ko1 _ D.i1z).trans ho,r⟩
 have hx':H1.IsTuple t1 xs:=by obtain ⟨o,ho,r⟩:=hx;exact ⟨o,(ko1 _ D.l1z).trans ho,r⟩
 refine wpAny_bind (yM (s:={ s with heap:=H1 }) hh h1' hx' ex fun H2 e eb he=>?_)
 have hz2:=eb z _ (Ne.symm D.i1z) hz1
 refine wpAny_setField (s:={ s with heap:=H2 }) hz2 rfl (by simp) ?_
 have hez:e≠z:=by
  intro q
  obtain ⟨o,ho,hc⟩:=he
  rw [q,hz2] at ho
  cases ho
  have:Value.type "zip" = Value.type "StopIteration" := hc
  exact absurd (Value.type.inj this) (by decide)
 refine hE _ e (fun c o c1 c2 e1=>?_) ?_
 ·exact (Heap.get?_update_other _ _ (Ne.symm c1)).trans (eb c o c2 ((ko1 _ c1).trans e1))
 ·obtain ⟨o,ho,hc⟩:=he
  exact ⟨o,(Heap.get?_update_other _ _ (Ne.symm hez)).trans ho,hc⟩
def zeQ (h:Heap)(l1 l2:Addr):Heap:=
 ((((h.push { cls:=.type "tuple_iterator",data:=.fields #[.ref l1,.int 0 0] }).push { cls:=.type "tuple_iterator",data:=.fields #[.ref l2,.int 0 0] }).push { cls:=.type "tuple",data:=.seq #[.ref h.objs.size,.ref (h.objs.size+1)] }).push { cls:=.type "tuple",data:=.seq #[.none,.none] }).push
  { cls:=.type "zip",data:=.fields #[.none,.bool false,.bool false,.ref (h.objs.size+2),.ref (h.objs.size+3)] }
theorem zbg (l1 l2:Addr)(xs ys:Array Value) :
  Meets (Builtin.«zip.__new__» ⟨[.type "zip",.ref l1,.ref l2],[]⟩) (fun _ R s=>s.heap.IsTuple l1 xs/\s.heap.IsTuple l2 ys/\R (.ok (.ret (.ref (s.heap.objs.size+4)))) { s with heap:=zeQ s.heap l1 l2 }):=
 .of_wp fun prog w A R s h=>by
  obtain ⟨hp,g,d,tk,os⟩:=s;obtain ⟨h1,h2,h⟩:=h
  have hsub:=sub_zip
  have h2':Heap.IsTuple (Shared.heap ⟨hp.push { cls:=.type "tuple_iterator",data:=.fields #[.ref l1,.int 0 0] },g,d,tk,os⟩) l2 ys:=by
   obtain ⟨o,ho,r⟩:=h2
   exact ⟨o,Heap.get?_push_of_some _ ho,r⟩
  wp_walk using wpAny_pyIter_tuple h1,wpAny_pyIter_tuple h2'
  refine ⟨_,rfl,?_⟩
  unfold zeQ at h
  simpa [Heap.size_push,Builtin.SmallTypes.ownedTupleFields] using h
theorem zaI {l1 l2:Addr}{xs ys:Array Value}{Q:Value->Shared->Prop}(h1:s.heap.IsTuple l1 xs)(h2:s.heap.IsTuple l2 ys)
  (h:∀ h',IsZip h' (s.heap.objs.size+4) (s.heap.objs.size+2) (s.heap.objs.size+3) .none->IsPair h' (s.heap.objs.size+2) (.ref s.heap.objs.size) (.ref (s.heap.objs.size+1))->IsPair h' (s.heap.objs.size+3) .none .none->
   h'.IsTupleIter s.heap.objs.size l1 0->h'.IsTupleIter (s.heap.objs.size+1) l2 0->h'.objs.size=s.heap.objs.size+5->(∀ b o,s.heap.get? b=some o->h'.get? b=some o)->Q (.ref (s.heap.objs.size+4)) { s with heap:=h' }) :
  wpAny (model prog w) A (call (.type "zip") [.ref l1,.ref l2]) Q E s:=by
 refine callType_new F.called_zip (by decide) (F.typeCall_zip_2 _ _) (F.newCall_zip_2 _ _) (fun obj=>F.args_object_init_3 obj _ _) F.entry_zip_new (zbg l1 l2 xs ys) ⟨h1,h2,?_⟩
 generalize ho0:({ cls:=.type "tuple_iterator",data:=.fields #[.ref l1,.int 0 0] }:Obj)=o0
 have z1:∀ o,(s.heap.push o).objs.size=s.heap.objs.size+1:=fun o=>Heap.size_push ..
 have z2:∀ o o',((s.heap.push o).push o').objs.size=s.heap.objs.size+2:=fun o o'=>by rw [Heap.size_push,z1]
 have z3:∀ o o' o'',(((s.heap.push o).push o').push o'').objs.size=s.heap.objs.size+3:=fun o o' o''=>by rw [Heap.size_push,z2]
 have z4:∀ o o' o'' p,((((s.heap.push o).push o').push o'').push p).objs.size=s.heap.objs.size+4:=fun o o' o'' p=>by rw [Heap.size_push,z3]
 have gz:(zeQ s.heap l1 l2).get? (s.heap.objs.size+4)=some { cls:=.type "zip",data:=.fields #[.none,.bool false,.bool false,.ref (s.heap.objs.size+2),.ref (s.heap.objs.size+3)] }:=by
  unfold zeQ
  rw [<- z4]
  exact Heap.get?_push_size _ rfl
 have gTO:(zeQ s.heap l1 l2).get? (s.heap.objs.size+3)=some { cls:=.type "tuple",data:=.seq #[.none,.none] }:=by
  unfold zeQ
  refine Heap.get?_push_of_some _ ?_
  rw [<- z3]
  exact Heap.get?_push_size _ rfl
 have gTI:(zeQ s.heap l1 l2).get? (s.heap.objs.size+2)=some { cls:=.type "tuple",data:=.seq #[.ref s.heap.objs.size,.ref (s.heap.objs.size+1)] }:=by
  unfold zeQ
  refine Heap.get?_push_of_some _ (Heap.get?_push_of_some _ ?_)
  rw [<- z2]
  exact Heap.get?_push_size _ rfl
 have gi2:(zeQ s.heap l1 l2).get? (s.heap.objs.size+1)=some { cls:=.type "tuple_iterator",data:=.fields #[.ref l2,.int 0 0] }:=by
  unfold zeQ
  refine Heap.get?_push_of_some _ (Heap.get?_push_of_some _ (Heap.get?_push_of_some _ ?_))
  rw [<- z1]
  exact Heap.get?_push_size _ rfl
 have gi1:(zeQ s.heap l1 l2).get? s.heap.objs.size=some { cls:=.type "tuple_iterator",data:=.fields #[.ref l1,.int 0 0] }:=by
  unfold zeQ
  exact Heap.get?_push_of_some _ (Heap.get?_push_of_some _ (Heap.get?_push_of_some _ (Heap.get?_push_of_some _ (Heap.get?_push_size _ rfl))))
 refine ⟨⟨_,gz,rfl⟩,h _ gz gTI gTO ⟨_,gi1,rfl,rfl⟩ ⟨_,gi2,rfl,rfl⟩ ?_ fun b o x=>?_⟩
 ·unfold zeQ
  rw [Heap.size_push,z4]
 ·unfold zeQ
  exact Heap.get?_push_of_some _ (Heap.get?_push_of_some _ (Heap.get?_push_of_some _ (Heap.get?_push_of_some _ (Heap.get?_push_of_some _ x))))
end
def Itz (K:PySem.W.Frag)(a b:Addr):It:=
 ⟨fun i H=>∃ xs ys x y,SqT K H a xs/\SqT K H b ys/\xs[i]?=some x/\ys[i]?=some y,fun i H v H'=>∃ T x y,v = .ref T/\H T=none/\H'=upd H T (.tup [x,y])/\(∀ xs,SqT K H a xs->xs[i]?=some x)/\∀ ys,SqT K H b ys->ys[i]?=some y,fun i H=>∃ xs,SqT K H a xs/\xs.length<=i⟩
theorem zi0 {P:Program}{w:World}{K:PySem.W.Frag}{elts:List Expr}{x1}{tpos:Pos}(z TI TO i1 i2 a b:Addr)(D:ZipApart z TI TO i1 i2 a b) :
  Turn P w K (.Tuple elts x1 tpos) (Itz K a b) [z,TI,TO,i1,i2] z (fun i h=>IsZip h z TI TO .none/\IsPair h TI (.ref i1) (.ref i2)/\(∃ c d,IsPair h TO c d)/\h.IsTupleIter i1 a i/\h.IsTupleIter i2 b i) where
 mem:=by simp
 obj:=fun i h st c hc=>by
  obtain ⟨hz,hTI,⟨u,v,hTO⟩,⟨o1,e1,c1,d1⟩,⟨o2,e2,c2,d2⟩⟩:=st
  simp only [List.mem_cons,List.not_mem_nil,or_false] at hc
  rcases hc with rfl | rfl | rfl | rfl | rfl
  ·exact ⟨_,hz,fun v q=>by have q':Data.fields _=Data.cell v:=q;cases q'⟩
  ·exact ⟨_,hTI,fun v q=>by have q':Data.seq _ 0=Data.cell v:=q;cases q'⟩
  ·exact ⟨_,hTO,fun v q=>by have q':Data.seq _ 0=Data.cell v:=q;cases q'⟩
  ·exact ⟨o1,e1,fun v q=>by rw [d1] at q;cases q⟩
  ·exact ⟨o2,e2,fun v q=>by rw [d2] at q;cases q⟩
 keep:=fun i h h' st k=>by
  obtain ⟨hz,hTI,⟨u,v,hTO⟩,⟨o1,e1,r1⟩,⟨o2,e2,r2⟩⟩:=st
  exact ⟨k z (by simp) _ hz,k TI (by simp) _ hTI,⟨u,v,k TO (by simp) _ hTO⟩,⟨o1,k i1 (by simp) _ e1,r1⟩,⟨o2,k i2 (by simp) _ e2,r2⟩⟩
 item:=by
  intro X hP hw hK hc i pins s σ H E I hf st hg
  subst hP hw hK
  obtain ⟨xs,ys,x,y,hq1,hq2,hx,hy⟩:=hg
  obtain ⟨its1,rv1,p1,hz1⟩:=I.tuple hq1
  obtain ⟨its2,rv2,p2,hz2⟩:=I.tuple hq2
  obtain ⟨u1,hu1,ru1⟩:=rv1.get hx
  obtain ⟨u2,hu2,ru2⟩:=rv2.get hy
  have fz:=hf z (by simp)
  have fTO:=hf TO (by simp)
  have f1:=hf i1 (by simp)
  have f2:=hf i2 (by simp)
  obtain ⟨hz,hTI,⟨c0,d0,hTO⟩,hi1,hi2⟩:=st
  have hT:s.TypeIs (.ref z) "zip" := ⟨_,hz,rfl⟩
  unfold pyNext
  refine wpAny_bind (wpAny_attempt (wpAny_callSpecial?_slot (name:=Str.ofString "__next__") hT F.slot_zip_next
   (wpAny_call_entry F.slot_zip_next hT F.entry_zip_next (zbk (A:=X.A.in1) D hz hTI hTO hi1 hi2 p1 p2 (x:=u1) (y:=u2) (by simpa using hu1) (by simpa using hu2) fun h' gz gTO gi1 gi2 gT sz' hk=>?_) (F.args_zip_next_1 _))))
  refine wpAny_pure ⟨_,rfl,?_⟩
  refine wpAny_letOwnedTupleGo_zip (s:={ s with heap:=h' }) gz fun h'' gz'' hs''=>?_
  have nz:∀ b' o',s.heap.get? b'=some o'->s.heap.objs.size≠b':=fun b' o' e=>Nat.ne_of_gt (Heap.lt_size e)
  have hTz:s.heap.objs.size≠z:=nz z _ hz
  have hTTO:s.heap.objs.size≠TO:=nz TO _ hTO
  have hT1:s.heap.objs.size≠i1:=by obtain ⟨o,ho,_⟩:=hi1;exact nz i1 _ ho
  have hT2:s.heap.objs.size≠i2:=by obtain ⟨o,ho,_⟩:=hi2;exact nz i2 _ ho
  have hTTI:s.heap.objs.size≠TI:=nz TI _ hTI
  have hnone:=I.hok.fresh (Nat.le_refl s.heap.objs.size)
  have kp:∀ c o,c≠z->c≠TO->c≠i1->c≠i2->s.heap.get? c=some o->h''.get? c=some o:=fun c o h1 h2 h3 h4 hb=>(hs''.2 c h1).trans (hk c o h1 h2 h3 h4 hb)
  have hT'':h''.get? s.heap.objs.size=some { cls:=.type "tuple",data:=.seq #[u1,u2] }:=(hs''.2 _ hTz).trans gT
  have objK:∀ b' u',H b'=some u'->b'≠z/\b'≠TO/\b'≠i1/\b'≠i2:=fun b' u' hb=>⟨zb hb fz.1,zb hb fTO.1,zb hb f1.1,zb hb f2.1⟩
  have hok':HOk X.prog X.w (upd H s.heap.objs.size (.tup [x,y])) h'':=by
   intro b' u' hb
   by_cases hbT:b'=s.heap.objs.size
   ·subst hbT
    rw [zh] at hb
    cases hb
    exact ⟨by show 2<=sizeLine;decide,[u1,u2],.cons ru1 (.cons ru2 .nil),_,hT'',rfl,⟨0,rfl⟩,rfl⟩
   ·rw [ze hbT] at hb
    refine (I.hok b' u' hb).stay (fun c v hcv q=>?_) (fun c q=>?_) (fun c ys q=>?_)
    ·have:c≠z/\c≠TO/\c≠i1/\c≠i2:=by
      rcases hcv with rfl | hcv
      ·exact objK _ _ hb
      ·exact ⟨zb hcv fz.1,zb hcv fTO.1,zb hcv f1.1,zb hcv f2.1⟩
     exact kp c v this.1 this.2.1 this.2.2.1 this.2.2.2 q
    ·rw [ze (zb q hnone)];exact q
    ·rw [ze (zb q hnone)];exact q
  have kp':∀ c o,c∉[z,TO,i1,i2]->s.heap.get? c=some o->h''.get? c=some o:=fun c o hc e=>kp c o (fun q=>hc (by simp [q])) (fun q=>hc (by simp [q])) (fun q=>hc (by simp [q])) (fun q=>hc (by simp [q])) e
  have I1:Inv X pins σ (upd H s.heap.objs.size (.tup [x,y])) { s with heap:=h'',toks:=s.toks }:=by
   refine Inv.step (ch:=[z,TO,i1,i2]) (g':=s.gens) (d':=s.drawn) (t':=s.toks) I (fun c hc=>?_) (fun c o h1 h2 h3 h4 h5=>?_) (fun c o h1 h2 h3 h4 h5=>?_) (fun c o h3 h4 h5=>?_) (fun c o h3 h4=>?_) (fun c ys q=>?_) (fun c o u' q=>?_) (fun c ps q=>?_) (fun m hm=>?_) hok' I.bare
   ·simp only [List.mem_cons,List.not_mem_nil,or_false] at hc
    rcases hc with rfl | rfl | rfl | rfl
    ·exact ⟨fz.2.2.2.1,fz.2.1,fz.2.2.2.2.1,fz.2.2.2.2.2⟩
    ·exact ⟨fTO.2.2.2.1,fTO.2.1,fTO.2.2.2.2.1,fTO.2.2.2.2.2⟩
    ·exact ⟨f1.2.2.2.1,f1.2.1,f1.2.2.2.2.1,f1.2.2.2.2.2⟩
    ·exact ⟨f2.2.2.2.1,f2.2.1,f2.2.2.2.2.1,f2.2.2.2.2.2⟩
   ·exact kp' c o h3 h4
   ·exact ⟨o.slots,kp' c o h3 h4⟩
   ·rw [ze (Nat.ne_of_lt (Heap.lt_size h4))];exact h5
   ·exact ⟨o,kp' c o h3 h4⟩
   ·rw [ze (zb q hnone)];exact q
   ·rw [ze (zb q hnone)];exact q
   ·exact ⟨#[],by rw [ze (zb q hnone),Array.append_empty];exact q⟩
   ·obtain ⟨o,es,ep,ho1,r1⟩:=hm
    exact ⟨o,es,ep,kp _ o (Ne.symm fz.2.1) (Ne.symm fTO.2.1) (Ne.symm f1.2.1) (Ne.symm f2.2.1) ho1,r1⟩
  refine ⟨.ref s.heap.objs.size,_,I1,rfl,⟨s.heap.objs.size,x,y,rfl,hnone,rfl,fun zs hz'=>by rw [I.tuple_inj hz' hq1];exact hx,fun zs hz'=>by rw [I.tuple_inj hz' hq2];exact hy⟩,⟨gz'',?_,⟨_,_,(hs''.2 TO D.TOz).trans gTO⟩,?_,?_⟩,fun c hc=>?_⟩
  ·exact kp TI _ D.TIz D.TITO D.TIi1 D.TIi2 hTI
  ·obtain ⟨o,ho,r⟩:=gi1
   exact ⟨o,(hs''.2 i1 D.i1z).trans ho,r⟩
  ·obtain ⟨o,ho,r⟩:=gi2
   exact ⟨o,(hs''.2 i2 D.i2z).trans ho,r⟩
  ·simp only [List.mem_cons,List.not_mem_nil,or_false] at hc
   rcases hc with rfl | rfl | rfl | rfl | rfl
   ·rw [ze (Ne.symm hTz)];exact fz.1
   ·rw [ze (Ne.symm hTTI)];exact (hf _ (by simp)).1
   ·rw [ze (Ne.symm hTTO)];exact fTO.1
   ·rw [ze (Ne.symm hT1)];exact f1.1
   ·rw [ze (Ne.symm hT2)];exact f2.1
 done:=by
  intro X hP hw hK hc i pins s σ H E I hf st hg
  subst hP hw hK
  obtain ⟨xs,hq,hx⟩:=hg
  obtain ⟨its,rv,p,hzz⟩:=I.tuple hq
  have fz:=hf z (by simp)
  have f1:=hf i1 (by simp)
  obtain ⟨hz,hTI,⟨c0,d0,hTO⟩,hi1,hi2⟩:=st
  have hl:=rv.length
  have hT:s.TypeIs (.ref z) "zip" := ⟨_,hz,rfl⟩
  unfold pyNext
  refine wpAny_bind (wpAny_attempt (wpAny_callSpecial?_slot (name:=Str.ofString "__next__") hT F.slot_zip_next
   (wpAny_call_entry F.slot_zip_next hT F.entry_zip_next (zcn (A:=X.A.in1) D (I.ok.hd hc) hz hTI hi1 p (by simp;lia) fun h' e ko he=>?_) (F.args_zip_next_1 _))))
  obtain ⟨o,ho,hc'⟩:=he
  refine wpAny_bind (wpAny_isInstance (T := "StopIteration") (b:=true) ⟨o,ho,hc'⟩ isSubtype_stop ?_)
  refine wpAny_pure ⟨rfl,?_⟩
  have kp':∀ c o,c∉[z,i1]->s.heap.get? c=some o->h'.get? c=some o:=fun c o hc e=>ko c o (fun q=>hc (by simp [q])) (fun q=>hc (by simp [q])) e
  refine Inv.step (ch:=[z,i1]) (g':=s.gens) (d':=s.drawn) (t':=s.toks) I (fun c hc=>?_) (fun c o h1 h2 h3 h4 h5=>kp' c o h3 h4) (fun c o h1 h2 h3 h4 h5=>⟨o.slots,kp' c o h3 h4⟩) (fun c o h3 h4 h5=>h5) (fun c o h3 h4=>⟨o,kp' c o h3 h4⟩) (fun c ys q=>q) (fun c o u' q=>q) (fun c ps q=>⟨#[],by rw [Array.append_empty];exact q⟩) (fun m hm=>?_) (fun b' u' hb=>?_) I.bare
  ·simp only [List.mem_cons,List.not_mem_nil,or_false] at hc
   rcases hc with rfl | rfl
   ·exact ⟨fz.2.2.2.1,fz.2.1,fz.2.2.2.2.1,fz.2.2.2.2.2⟩
   ·exact ⟨f1.2.2.2.1,f1.2.1,f1.2.2.2.2.1,f1.2.2.2.2.2⟩
  ·obtain ⟨o,es,ep,ho1,r1⟩:=hm
   exact ⟨o,es,ep,ko _ o (Ne.symm fz.2.1) (Ne.symm f1.2.1) ho1,r1⟩
  ·refine (I.hok b' u' hb).stay (fun c v hcv q=>?_) (fun c q=>q) (fun c ys q=>q)
   have:c≠z/\c≠i1:=by
    rcases hcv with rfl | hcv
    ·exact ⟨zb hb fz.1,zb hb f1.1⟩
    ·exact ⟨zb hcv fz.1,zb hcv f1.1⟩
   exact ko c v this.1 this.2 q
 self:=fun A i s Q E st h=>by
  obtain ⟨hz,_⟩:=st
  exact wpAny_pyIter_zip hz h
def iZip (K:PySem.W.Frag)(ta:TA):TI:=fun σ H R=>ta σ H fun vs H1=>∃ a b,vs=[.ref a,.ref b]/\(∃ xs,SqT K H1 a xs)/\(∃ ys,SqT K H1 b ys)/\R (Itz K a b) H1
theorem zmT {X:Cx}{elts:List Expr}{x1}{tpos:Pos}{a b:Expr}{ta:TA}{p pos:Pos}(hg:Gl X "zip")(hm:X.mg "zip" = none)(ha:PA X [a,b] ta)(hs:starEach [a,b] X.env=[(false,eval a X.env),(false,eval b X.env)]:=by rfl)(hs2:starEach [b] X.env=[(false,eval b X.env)]:=by rfl) :
  PI X (.Tuple elts x1 tpos) (.Call (.Name "zip" p) [a,b] [] pos) (iZip X.K ta):=by
 intro pins s σ H R I h
 refine Call_ (zbt I hg hm boot_zip (PyProof.Rows.callWith_type1 (thn (ha pos pins s σ H _ I h) fun us s1 ⟨vs,H1,I1,r1,q1⟩=>?_) (by rw [hs,hs2]) (by rw [hs2];rfl)))
 obtain ⟨c,d,e,⟨xs,hq1⟩,⟨ys,hq2⟩,q⟩:=q1
 subst e
 cases r1 with
 | cons r rr=>
  cases rr with
  | cons r' rr=>
   cases rr
   cases r
   cases r'
   obtain ⟨its1,rv1,p1,hz1⟩:=I1.tuple hq1
   obtain ⟨its2,rv2,p2,hz2⟩:=I1.tuple hq2
   have lt1:c<s1.heap.objs.size:=by obtain ⟨o,ho,_⟩:=id p1;exact Heap.lt_size ho
   have lt2:d<s1.heap.objs.size:=by obtain ⟨o,ho,_⟩:=id p2;exact Heap.lt_size ho
   refine zaI (show s1.heap.IsTuple c its1.toArray from p1) (show s1.heap.IsTuple d its2.toArray from p2) fun h' gz gTI gTO gi1 gi2 hsz hk=>?_
   have I2:Inv X pins σ H1 { s1 with heap:=h',toks:=s1.toks }:=I1.kept (t':=s1.toks) hk
   refine wpAny_pyIter_zip gz ?_
   refine ⟨s1.heap.objs.size+4,[s1.heap.objs.size+4,s1.heap.objs.size+2,s1.heap.objs.size+3,s1.heap.objs.size,s1.heap.objs.size+1],_,_,H1,rfl,I2,zi0 _ _ _ _ _ c d (zipApart_new lt1 lt2),⟨gz,gTI,⟨_,_,gTO⟩,gi1,gi2⟩,fun e he=>?_,q⟩
   simp only [List.mem_cons,List.not_mem_nil,or_false] at he
   rcases he with rfl | rfl | rfl | rfl | rfl
   ·exact I1.fpOk (by lia) (I1.hok.fresh (by lia))
   ·exact I1.fpOk (by lia) (I1.hok.fresh (by lia))
   ·exact I1.fpOk (by lia) (I1.hok.fresh (by lia))
   ·exact I1.fpOk (Nat.le_refl _) (I1.hok.fresh (Nat.le_refl _))
   ·exact I1.fpOk (by lia) (I1.hok.fresh (by lia))
theorem zm8 {X:Cx}{elts:List Expr}{x1}{tpos:Pos}{a b:Expr}{ta:TA}{p pos:Pos}(hg:Gl X "zip")(hm:X.mg "zip" = none)(ha:QA X [a,b] ta)(hs:starEach [a,b] X.env=[(false,eval a X.env),(false,eval b X.env)]:=by rfl)(hs2:starEach [b] X.env=[(false,eval b X.env)]:=by rfl) :
  QI X (.Tuple elts x1 tpos) (.Call (.Name "zip" p) [a,b] [] pos) (iZip X.K ta):=⟨zmT hg hm ha.run hs hs2⟩
section
variable {X:Cx}
end
section
variable {prog:Program}{w:World}{A:Around}{R:Result->Shared->Prop}{s:Shared}
theorem zaq {elt target iter:Expr}{c1:Comprehension}{ifs:List Expr}{scope:Scope}{pos:Pos}{it acc:Value}{env:Env}(I:Nat->Shared->Prop)
  (turn:∀ n s,I n s->wpAny (model prog w) A (pyNext it) (fun r s₁=>match r with
   | none=>R (.ok .next) s₁
   | some v=>wpAny (model prog w) A (letOwnedTupleGo target it v) (fun _ s₂=>wpAny (model prog w) A (assign target env v) (fun _ s₃=>
     wpAny (model prog w) A (forIn ifs true fun c r=>if r=true then do let ok <- isTrue c env (eval c env);pure (ForInStep.yield ok) else pure (ForInStep.yield r)) (fun ok s₄=>
      if ok=true then wpAny (model prog w) A (eval elt env) (fun x s₅=>
       wpAny (model prog w) A (call (.builtin "list.append") [acc,x]) (fun _ s₆=>∃ m,m<n/\I m s₆) (fun _ _=>False) s₅) (fun _ _=>False) s₄
      else ∃ m,m<n/\I m s₄) (fun _ _=>False) s₃) (fun _ _=>False) s₂) (fun _ _=>False) s₁) (fun _ _=>False) s)
  (n:Nat) (h:I n s) :
  codeAny (model prog w) A (.compLoop (.ListComp elt [c1,⟨target,iter,ifs,0⟩] scope pos) 1 it acc env) R s:=by
 refine codeAny_loop rfl I (fun n s hI=>?_) n h
 show wpAny _ A ((compTurn (.ListComp elt [c1,⟨target,iter,ifs,0⟩] scope pos) 1 it acc env).onRaise (fun x=>do noteFrame x env;theTreesLotGoes x)) _ _ s
 refine wpAny_noted ?_
 unfold compTurn
 refine wpAny_bind (wpAny_standAt (wpAny_bind (wpAny_mono (turn n s hI) (fun r s₁ h₁=>?_) fun _ _ h'=>h'.elim)))
 cases r with
 | none=>exact wpAny_pure h₁
 | some v=>
  refine wpAny_bind (wpAny_mono h₁ (fun _ s₂ h₂=>?_) fun _ _ h'=>h'.elim)
  refine wpAny_bind (wpAny_mono h₂ (fun _ s₃ h₃=>wpAny_bind (wpAny_mono h₃ (fun ok s₄ h₄=>?_) fun _ _ h'=>h'.elim)) fun _ _ h'=>h'.elim)
  cases ok with
  | false=>exact wpAny_pure ⟨rfl,h₄⟩
  | true=>
   exact wpAny_bind (wpAny_bind (wpAny_mono h₄ (fun x s₅ h₅=>wpAny_bind (wpAny_mono h₅ (fun _ s₆ h₆=>wpAny_pure (wpAny_pure ⟨rfl,h₆⟩)) fun _ _ h'=>h'.elim)) fun _ _ h'=>h'.elim))
theorem uo {elt target iter:Expr}{c1:Comprehension}{ifs:List Expr}{scope:Scope}{pos:Pos}{it acc:Value}{env:Env}
  (h1:codeAny (model prog w) A (.compLoop (.ListComp elt [c1,⟨target,iter,ifs,0⟩] scope pos) 1 it acc env) R s)
  (h2:wpAny (model prog w) A (pyIter it) (fun it' s'=>codeAny (model prog w) A (.compLoop (.ListComp elt [c1,⟨target,iter,ifs,0⟩] scope pos) 1 it' acc env) R s') (fun _ _=>False) s) :
  codeAny (model prog w) A (.compStart (.ListComp elt [c1,⟨target,iter,ifs,0⟩] scope pos) 1 it acc env) R s:=by
 refine codeAny_of_tree ?_
 show wpAny _ A ((compStart (.ListComp elt [c1,⟨target,iter,ifs,0⟩] scope pos) 1 it acc env).onRaise (fun x=>do noteFrame x env;standAt theWindowsPlace)) _ _ s
 refine wpAny_onRaise ?_
 unfold compStart
 rw [if_neg (by show ¬ ((0 != 0)=true);decide)]
 refine wpAny_bind (wpAny_askSetting ?_)
 split
 ·exact wpAny_pure ⟨rfl,h1⟩
 ·refine wpAny_bind (wpAny_rule ?_)
  refine wpAny_bind (wpAny_standAt ?_)
  refine wpAny_bind (wpAny_mono h2 (fun it' s' h'=>wpAny_pure ⟨rfl,h'⟩) fun _ _ h'=>h'.elim)
theorem u6 {elt target iter t2 it2:Expr}{ifs ifs2:List Expr}{scope:Scope}{pos:Pos}{it acc:Value}{env:Env}(hf:∀ x,foldedSetIterable it2 env x=pure x)(I:Nat->Shared->Prop)
  (turn:∀ n s,I n s->wpAny (model prog w) A (pyNext it) (fun r s₁=>match r with
   | none=>R (.ok .next) s₁
   | some v=>wpAny (model prog w) A (letOwnedTupleGo target it v) (fun _ s₂=>wpAny (model prog w) A (assign target env v) (fun _ s₃=>
     wpAny (model prog w) A (forIn ifs true fun c r=>if r=true then do let ok <- isTrue c env (eval c env);pure (ForInStep.yield ok) else pure (ForInStep.yield r)) (fun ok s₄=>
      if ok=true then wpAny (model prog w) A (eval it2 env) (fun x s₅=>wpAny (model prog w) A (pyIter x) (fun iv s₆=>
       codeAny (model prog w) A (.compStart (.ListComp elt [⟨target,iter,ifs,0⟩,⟨t2,it2,ifs2,0⟩] scope pos) 1 iv acc env) (fun r s₇=>match r with
        | .ok _=>∃ m,m<n/\I m s₇
        | .error _=>False) s₆) (fun _ _=>False) s₅) (fun _ _=>False) s₄
      else ∃ m,m<n/\I m s₄) (fun _ _=>False) s₃) (fun _ _=>False) s₂) (fun _ _=>False) s₁) (fun _ _=>False) s)
  (n:Nat) (h:I n s) :
  codeAny (model prog w) A (.compLoop (.ListComp elt [⟨target,iter,ifs,0⟩,⟨t2,it2,ifs2,0⟩] scope pos) 0 it acc env) R s:=by
 refine codeAny_loop rfl I (fun n s hI=>?_) n h
 show wpAny _ A ((compTurn (.ListComp elt [⟨target,iter,ifs,0⟩,⟨t2,it2,ifs2,0⟩] scope pos) 0 it acc env).onRaise (fun x=>do noteFrame x env;theTreesLotGoes x)) _ _ s
 refine wpAny_noted ?_
 unfold compTurn
 refine wpAny_bind (wpAny_standAt (wpAny_bind (wpAny_mono (turn n s hI) (fun r s₁ h₁=>?_) fun _ _ h'=>h'.elim)))
 cases r with
 | none=>exact wpAny_pure h₁
 | some v=>
  refine wpAny_bind (wpAny_mono h₁ (fun _ s₂ h₂=>?_) fun _ _ h'=>h'.elim)
  refine wpAny_bind (wpAny_mono h₂ (fun _ s₃ h₃=>wpAny_bind (wpAny_mono h₃ (fun ok s₄ h₄=>?_) fun _ _ h'=>h'.elim)) fun _ _ h'=>h'.elim)
  cases ok with
  | false=>exact wpAny_pure ⟨rfl,h₄⟩
  | true=>
   refine wpAny_bind (wpAny_mono h₄ (fun x s₅ h₅=>?_) fun _ _ h'=>h'.elim)
   refine wpAny_bind (wpAny_standAt ?_)
   show wpAny _ _ (foldedSetIterable it2 env x >>= _) _ _ _
   rw [hf]
   refine wpAny_bind (wpAny_pure ?_)
   show wpAny _ _ (holding [x] (pyIter x) >>= _) _ _ _
   refine wpAny_bind (wpAny_holding (wpAny_mono h₅ (fun iv s₆ h₆=>?_) fun _ _ h'=>h'.elim))
   refine wpAny_bind (wpAny_runOwn (h:=none) ?_)
   refine codeAny_mono (show codeAny (model prog w) (A.mark none) _ _ s₆ from h₆) fun r s₇ h₇=>?_
   cases r with
   | ok f=>exact wpAny_pure ⟨rfl,h₇⟩
   | error e=>exact h₇.elim
end
def zjn (J:It)(g:TG)(ti:TT)(te:TE)(acc:Addr)(N:St->Hp->Prop)(σ:St)(H:Hp):Prop:=∃ W:Nat->Nat->St->Hp->Prop,(∃ m,W 0 m σ H)/\
 ∀ i m σ' H',W i m σ' H'->(J.stop i H'/\N σ' H')\/(J.go i H'/\∃ N2:St->Hp->Prop,(∀ σ2 H2,N2 σ2 H2->∃ m',m'<m/\W (i+1) m' σ2 H2)/\∀ x H2,J.yld i H' x H2->zhY g ti te acc N2 x σ' H2)
def zfJ (g:TG)(ti:TT)(wi2:TI)(g2:TG)(ti2:TT)(te:TE)(acc:Addr)(N:St->Hp->Prop)(x:V)(σ:St)(H:Hp):Prop:=
 g x σ H fun σ3 H3=>ti σ3 H3 fun ok H4=>if ok=true then wi2 σ3 H4 fun J2 H5=>zjn J2 g2 ti2 te acc N σ3 H5 else N σ3 H4
def zjf (J:It)(g:TG)(ti:TT)(wi2:TI)(g2:TG)(ti2:TT)(te:TE)(acc:Addr)(Q:VK)(σ:St)(H:Hp):Prop:=∃ W:Nat->Nat->St->Hp->Prop,(∃ m,W 0 m σ H)/\
 ∀ i m σ' H',W i m σ' H'->(J.stop i H'/\Q (.ref acc) H')\/(J.go i H'/\∃ N:St->Hp->Prop,(∀ σ2 H2,N σ2 H2->∃ m',m'<m/\W (i+1) m' σ2 H2)/\∀ x H2,J.yld i H' x H2->zfJ g ti wi2 g2 ti2 te acc N x σ' H2)
def zhj (wi:TI)(g:TG)(ti:TT)(wi2:TI)(g2:TG)(ti2:TT)(te:TE)(cix:List (Option Nat)):TE:=fun σ H Q=>wi σ H fun J H1=>∀ acc,H1 acc=none->zjf J g ti wi2 g2 ti2 te acc Q (zcx σ cix) (upd H1 acc (.lst []))
theorem ziF {X:Cx}{elt tg iter tg2 iter2:Expr}{ifs ifs2:List Expr}{scope:Scope}{pos spos:Pos}{wi wi2:TI}{g g2:TG}{ti ti2:TT}{te:TE}{N:List Str}{cix:List (Option Nat)}{ix:Nat}{nx:Str}{px:Pos}(hNd:X.N.Nodup)(hix:X.N[ix]?=some nx)(hlx:X.env.scope.names.lookup nx=some .local)(hc:X.calm=true)(c:CompOk X scope N cix)
  (hi:PI X tg iter wi) (hg:∀ C s H ex,PG (zo X scope N C s H ex) tg g) (ht:∀ C s H ex,PTs (zo X scope N C s H ex) ifs ti)
  (hi2:∀ C s H ex,PI (zo X scope N C s H ex) tg2 iter2 wi2) (hg2:∀ C s H ex,PG (zo X scope N C s H ex) tg2 g2) (ht2:∀ C s H ex,PTs (zo X scope N C s H ex) ifs2 ti2) (he:∀ C s H ex,PE (zo X scope N C s H ex) elt te)
  (hsw:swapsWithSole [.Name nx px] (.ListComp elt [⟨tg,iter,ifs,0⟩,⟨tg2,iter2,ifs2,0⟩] scope pos) spos.line X.env=pure true)
  (hs:∀ x,foldedSetIterable iter X.env x=pure x:=by intro _;rfl) (hs2:∀ C s H ex x,foldedSetIterable iter2 (zo X scope N C s H ex).env x=pure x:=by intro _ _ _ _ _;rfl)
  (h1a:(assignEach [.Name nx px] X.env).map (·.2)=[assign (.Name nx px) X.env]:=by rfl):PS X (.Assign [.Name nx px] (.ListComp elt [⟨tg,iter,ifs,0⟩,⟨tg2,iter2,ifs2,0⟩] scope pos) spos) (zfi (zhj wi g ti wi2 g2 ti2 te cix) (u8 ix)):=by
 intro pins s σ H D I h0
 have h:zhj wi g ti wi2 g2 ti2 te cix σ H (fun x H1=>D.nx (σ.set ix (some x)) H1):=h0
 rw [exec_Assign_arm]
 refine wpAny_bind (wpAny_standAt ?_)
 rw [hsw]
 refine wpAny_bind (wpAny_pure ?_)
 rw [if_pos rfl]
 refine wpAny_bind ?_
 rw [evalThenUse.eq_1]
 refine wpAny_bind ?_
 generalize hU:(fun v=>assignAll v ((assignEach [.Name nx px] X.env).map (·.2)))=U
 refine wpAny_comprehension_free (g:=⟨tg,iter,ifs,0⟩) (gs:=[⟨tg2,iter2,ifs2,0⟩]) (use:=some U) rfl hs (u5 (c.cells I.ok)) c.kind c.names ?_
 refine (thn (hi pins s σ H _ I h) fun xv s1 h1=>thn h1 fun itv s2 h2=>?_)
 obtain ⟨it,fp,tn,J,H2,e,I2,T,st2,f2,q2⟩:=h2
 subst e
 refine wpAny_newObj_type (wpAny_newFunctionEnv c.cell (by intro y hy;simp at hy) (fun h4 hns4 hsb4=>?_) c.kind)
 dsimp only at hns4 hsb4 ⊢
 have hnone:=I2.hok.fresh (Nat.le_refl s2.heap.objs.size)
 have I3:Inv X pins σ (upd H2 s2.heap.objs.size (.lst [])) { s2 with heap:=s2.heap.push { cls:=.type "list",dict:=none,data:=.seq ([]:List Value).toArray },toks:=s2.toks }:=I2.lnew (t':=s2.toks) .nil (by simp)
 obtain ⟨W,⟨m0,w0⟩,turn⟩:=q2 s2.heap.objs.size hnone
 have ltF:∀ b∈fp,b<s2.heap.objs.size:=fun b hb=>by
  obtain ⟨o,ho,_⟩:=T.obj _ _ st2 b hb
  exact Heap.lt_size ho
 have f3:∀ b∈fp,zdg X pins (upd H2 s2.heap.objs.size (.lst [])) b:=fun b hb=>⟨by rw [ze (Nat.ne_of_lt (ltF b hb))];exact (f2 b hb).1,(f2 b hb).2⟩
 have kp:∀ b o,(s2.heap.push { cls:=.type "list",dict:=none,data:=.seq ([]:List Value).toArray }).get? b=some o->h4.get? b=some o:=fun b o e=>
  hsb4.extBut b o (Nat.ne_of_lt (Heap.lt_size e)) (Heap.get?_push_of_some _ e)
 have sz3:s2.heap.objs.size<(s2.heap.push { cls:=.type "list",dict:=none,data:=.seq ([]:List Value).toArray }).objs.size:=by rw [Heap.size_push];exact Nat.lt_succ_self _
 have I4:=zbN (tk:=s2.toks+([]:List (Str×Value)).length) I3 c f3 (fun b hb=>Nat.lt_trans (ltF b hb) sz3) hns4 kp
 have st4:tn 0 h4:=T.keep _ _ _ st2 fun b hb o e=>kp b o (Heap.get?_push_of_some _ e)
 generalize hX:zo X scope N (s2.heap.push { cls:=.type "list",dict:=none,data:=.seq ([]:List Value).toArray }).objs.size
  { s2 with heap:=s2.heap.push { cls:=.type "list",dict:=none,data:=.seq ([]:List Value).toArray },toks:=s2.toks } (upd H2 s2.heap.objs.size (.lst [])) fp=X' at I4
 have pX:X'.prog=X.prog:=by rw [<- hX];rfl
 have wX:X'.w=X.w:=by rw [<- hX];rfl
 have KX:X'.K=X.K:=by rw [<- hX];rfl
 have AX:X'.A=X.A:=by rw [<- hX];rfl
 have cX:X'.calm=true:=by rw [<- hX];exact hc
 have xX:X'.xe=fun _ _=>False:=by rw [<- hX];rfl
 have eX:X'.env=compEnvC scope (zdm X.env scope.names []) (s2.heap.push { cls:=.type "list",dict:=none,data:=.seq ([]:List Value).toArray }).objs.size X.env:=by rw [<- hX];rfl
 have hg':PG X' tg g:=by rw [<- hX];exact hg _ _ _ _
 have ht':PTs X' ifs ti:=by rw [<- hX];exact ht _ _ _ _
 have he':PE X' elt te:=by rw [<- hX];exact he _ _ _ _
 have hi2':PI X' tg2 iter2 wi2:=by rw [<- hX];exact hi2 _ _ _ _
 have hg2':PG X' tg2 g2:=by rw [<- hX];exact hg2 _ _ _ _
 have ht2':PTs X' ifs2 ti2:=by rw [<- hX];exact ht2 _ _ _ _
 have hs2':∀ x,foldedSetIterable iter2 X'.env x=pure x:=by rw [<- hX];exact hs2 _ _ _ _
 have f4:∀ {H':Hp},(∀ b∈fp,H' b=none)->∀ b∈fp,zdg X' [] H' b:=fun {H'} hn b hb=>by
  refine ⟨hn b hb,?_,?_,.inl ?_,?_,?_⟩
  ·rw [eX];exact Nat.ne_of_lt (Nat.lt_trans (ltF b hb) sz3)
  ·have e1:X'.fs=frs X.stack:=by rw [<- hX];rfl
   rw [e1]
   intro z
   rcases List.mem_cons.mp (I2.stkSub b z) with e | e
   ·exact (f2 b hb).2.1 e
   ·exact (f2 b hb).2.2.1 e
  ·rw [<- hX];exact hb
  ·rw [eX]
   intro x a e
   rcases xS (c.cells I.ok) e with z | z
   ·exact (f2 b hb).2.2.2.2.1 x a z
   ·simp at z
  ·intro p hp
   have e1:X'.pn++([]:List (Addr×Obj))=[]:=by rw [<- hX];rfl
   rw [e1] at hp
   simp at hp
 have loop:∀ s4:Shared,s4={ s2 with heap:=h4,toks:=s2.toks+([]:List (Str×Value)).length }->
   codeAny (model X.prog X.w) X.A (.compLoop (.ListComp elt [⟨tg,iter,ifs,0⟩,⟨tg2,iter2,ifs2,0⟩] scope pos) 0 (.ref it) (.ref s2.heap.objs.size) X'.env)
    (compPost (model X.prog X.w) X.A X.xe (some U) (fun _ s=>wpAny (model X.prog X.w) X.A (pure ()) (fun _ s=>wpAny (model X.prog X.w) X.A (pure Flow.next) (SP X pins D) X.xe s) X.xe s) (.ref s2.heap.objs.size) (s2.heap.push { cls:=.type "list",dict:=none,data:=.seq ([]:List Value).toArray }).objs.size) s4:=by
  rintro s4 rfl
  refine u6 hs2' (fun n s'=>∃ i σ' H',Inv X' [] σ' H' s'/\tn i s'.heap/\(∀ b∈fp,H' b=none)/\W i n σ' H') ?_ m0 ⟨0,zcx σ cix,_,I4,st4,fun b hb=>(f3 b hb).1,w0⟩
  rintro n s5 ⟨i,σ5,H5,I5,st5,fr5,w5⟩
  rcases turn i n σ5 H5 w5 with ⟨stop,qn⟩ | ⟨go,Nx,hN,step⟩
  ·have:=T.done X' pX wX KX cX i [] s5 σ5 H5 (fun _ _=>False) I5 (f4 fr5) st5 stop
   rw [AX] at this
   refine thn this fun r s6 ⟨hr,I6⟩=>?_
   subst hr
   obtain ⟨m6,hn6,_⟩:=I6.loc
   have hfr:H5 (s2.heap.push { cls:=.type "list",dict:=none,data:=.seq ([]:List Value).toArray }).objs.size=none:=by
    have:=I6.free
    rw [eX] at this
    exact this
   rw [eX] at hn6
   have I6':=I6
   rw [<- hX] at I6'
   have IX:=u9 I3 f3 I6' ⟨rfl,fun _ _=>rfl⟩
   have fC:=I3.fpOk (Nat.le_refl _) hfr
   have hUv:U (.ref s2.heap.objs.size)=assignAll (.ref s2.heap.objs.size) [assign (.Name nx px) X.env]:=by
    rw [<- hU,<- h1a]
   show wpAny _ _ (U (.ref s2.heap.objs.size)) _ _ s6
   rw [hUv]
   refine wpAny_assign_Name (x:=nx) (pos:=px) ?_
   refine zbd IX hNd hix (Or.inl hlx) (v:=.ref s2.heap.objs.size) rfl (fun s7 I7 ⟨a7,hs7,ha7⟩=>?_) (.inr hlx)
   have hCa:(s2.heap.push { cls:=.type "list",dict:=none,data:=.seq ([]:List Value).toArray }).objs.size≠a7:=by
    intro z
    rcases ha7 with e | e
    ·exact fC.2.1 (z.trans e)
    ·exact fC.2.2.2.2.1 nx a7 e z.symm
   obtain ⟨oC,esC,epC,hoC,rC⟩:=hn6
   refine ⟨m6,⟨oC,esC,epC,(hs7.2 _ hCa).trans hoC,rC⟩,fun h8 hs8=>?_⟩
   refine wpAny_pure (wpAny_pure ?_)
   exact ⟨_,H5,I7.turned (t':=s7.toks) (fun b o hb e=>(hs8.2 b hb).trans e) hfr fC.2.1 fC.2.2.2.1 fC.2.2.2.2.1 fC.2.2.2.2.2,qn⟩
  ·have:=T.item X' pX wX KX cX i [] s5 σ5 H5 (fun _ _=>False) I5 (f4 fr5) st5 go
   rw [AX] at this
   refine thn this fun r s6 ⟨u,hr,h6⟩=>?_
   subst hr
   refine thn h6 fun _ s7 ⟨x,H7,I7,r7,y7,st7,fr7⟩=>?_
   have I7':=I7.pinned (f4 fr7) (T.obj _ _ st7)
   have a7:=hg' _ s7 σ5 H7 x u _ I7' r7 (step x H7 y7)
   rw [pX,wX,AX,xX] at a7
   refine thn a7 fun _ s8 ⟨σ8,H8,I8,q8⟩=>?_
   have t8:=ht' _ s8 σ8 H8 _ I8 q8
   rw [pX,wX,AX,xX] at t8
   refine thn t8 fun ok s9 ⟨H9,I9,q9⟩=>?_
   have again:∀ {s':Shared} {σ':St} {H':Hp},Inv X' ([]++xP fp s7.heap) σ' H' s'->Nx σ' H'->∃ m,m<n/\∃ i σ' H',Inv X' [] σ' H' s'/\tn i s'.heap/\(∀ b∈fp,H' b=none)/\W i m σ' H':=fun {s' σ' H'} J' n'=>by
    obtain ⟨m',hm,w'⟩:=hN σ' H' n'
    refine ⟨m',hm,i+1,σ',H',J'.unpinned,T.keep _ _ _ st7 fun b hb o e=>(J'.pin (b,o) (List.mem_append_right _ (List.mem_append_right _ (zT hb e)))).1,fun b hb=>?_,w'⟩
    obtain ⟨o,e,d⟩:=T.obj _ _ st7 b hb
    exact (J'.pin (b,o) (List.mem_append_right _ (List.mem_append_right _ (zT hb e)))).2.1
   cases ok with
   | false=>exact again I9 q9
   | true=>
    have e9:=hi2' _ s9 σ8 H9 _ I9 q9
    rw [pX,wX,AX,xX] at e9
    refine thn e9 fun xv2 s10 h10=>thn h10 fun itv2 s11 h11=>?_
    obtain ⟨it2,fp2,tn2,J2,H11,e2,I11,T2,st11,f11,W2,⟨m20,w20⟩,turn2⟩:=h11
    subst e2
    rw [pX,wX,KX] at T2
    have stat:∀ {H':Hp},(∀ b∈fp2,H' b=none)->∀ b∈fp2,zdg X' ([]++xP fp s7.heap) H' b:=fun hn b hb=>⟨hn b hb,(f11 b hb).2⟩
    have loop2:codeAny (model X.prog X.w) X.A (.compLoop (.ListComp elt [⟨tg,iter,ifs,0⟩,⟨tg2,iter2,ifs2,0⟩] scope pos) 1 (.ref it2) (.ref s2.heap.objs.size) X'.env) (fun r s₇=>match r with
      | .ok _=>∃ m,m<n/\∃ i σ' H',Inv X' [] σ' H' s₇/\tn i s₇.heap/\(∀ b∈fp,H' b=none)/\W i m σ' H'
      | .error _=>False) s11:=by
     refine zaq (fun n2 s'=>∃ i σ' H',Inv X' ([]++xP fp s7.heap) σ' H' s'/\tn2 i s'.heap/\(∀ b∈fp2,H' b=none)/\W2 i n2 σ' H') ?_ m20 ⟨0,σ8,H11,I11,st11,fun b hb=>(f11 b hb).1,w20⟩
     rintro n2 s12 ⟨i2,σ12,H12,I12,st12,fr12,w12⟩
     rcases turn2 i2 n2 σ12 H12 w12 with ⟨stop2,qn2⟩ | ⟨go2,Nx2,hN2,step2⟩
     ·have:=T2.done X' pX wX KX cX i2 _ s12 σ12 H12 (fun _ _=>False) I12 (stat fr12) st12 stop2
      rw [AX] at this
      refine thn this fun r s13 ⟨hr,I13⟩=>?_
      subst hr
      exact again I13 qn2
     ·have:=T2.item X' pX wX KX cX i2 _ s12 σ12 H12 (fun _ _=>False) I12 (stat fr12) st12 go2
      rw [AX] at this
      refine thn this fun r s13 ⟨u,hr,h13⟩=>?_
      subst hr
      refine thn h13 fun _ s14 ⟨x,H14,I14,r14,y14,st14,fr14⟩=>?_
      have I14':=I14.pinned (stat fr14) (T2.obj _ _ st14)
      have a14:=hg2' _ s14 σ12 H14 x u _ I14' r14 (step2 x H14 y14)
      rw [pX,wX,AX,xX] at a14
      refine thn a14 fun _ s15 ⟨σ15,H15,I15,q15⟩=>?_
      have t15:=ht2' _ s15 σ15 H15 _ I15 q15
      rw [pX,wX,AX,xX] at t15
      refine thn t15 fun ok s16 ⟨H16,I16,q16⟩=>?_
      have again2:∀ {s':Shared} {σ':St} {H':Hp},Inv X' (([]++xP fp s7.heap)++xP fp2 s14.heap) σ' H' s'->Nx2 σ' H'->∃ m,m<n2/\∃ i σ' H',Inv X' ([]++xP fp s7.heap) σ' H' s'/\tn2 i s'.heap/\(∀ b∈fp2,H' b=none)/\W2 i m σ' H':=fun {s' σ' H'} J' n'=>by
       obtain ⟨m',hm,w'⟩:=hN2 σ' H' n'
       refine ⟨m',hm,i2+1,σ',H',J'.unpinned,T2.keep _ _ _ st14 fun b hb o e=>(J'.pin (b,o) (List.mem_append_right _ (List.mem_append_right _ (zT hb e)))).1,fun b hb=>?_,w'⟩
       obtain ⟨o,e,d⟩:=T2.obj _ _ st14 b hb
       exact (J'.pin (b,o) (List.mem_append_right _ (List.mem_append_right _ (zT hb e)))).2.1
      cases ok with
      | false=>exact again2 I16 q16
      | true=>
       have e16:=he' _ s16 σ15 H16 _ I16 q16
       rw [pX,wX,AX,xX] at e16
       refine thn e16 fun u2 s17 ⟨v,H17,I17,r17,q17⟩=>?_
       obtain ⟨xs,hxs,hlt,nx⟩:=q17
       have m17:=uP (X:=X') _ s17 σ15 H17 (.ref s2.heap.objs.size) [v] (.ref s2.heap.objs.size) [u2] (fun _ H'=>Nx2 σ15 H') I17 rfl (.cons r17 .nil) ⟨_,xs,v,rfl,rfl,hxs,hlt,nx⟩
       rw [pX,wX,AX,xX] at m17
       refine thn m17 fun _ s18 ⟨_,H18,I18,_,n18⟩=>again2 I18 n18
    exact uo loop2 (T2.self X.A 0 _ _ _ st11 loop2)
 have l0:=loop _ rfl
 rw [eX] at l0
 exact codeAny_compStart_list l0 (T.self X.A 0 _ _ _ st4 l0)
theorem ziM {X:Cx}{elt tg iter tg2 iter2:Expr}{ifs ifs2:List Expr}{scope:Scope}{pos spos:Pos}{wi wi2:TI}{g g2:TG}{ti ti2:TT}{te:TE}{N:List Str}{cix:List (Option Nat)}{ix:Nat}{nx:Str}{px:Pos}(hNd:X.N.Nodup)(hix:X.N[ix]?=some nx)(hlx:X.env.scope.names.lookup nx=some .local)(hc:X.calm=true)(c:CompOk X scope N cix)
  (hi:QI X tg iter wi) (hg:∀ C s H ex,QG (zo X scope N C s H ex) tg g) (ht:∀ C s H ex,QTs (zo X scope N C s H ex) ifs ti)
  (hi2:∀ C s H ex,QI (zo X scope N C s H ex) tg2 iter2 wi2) (hg2:∀ C s H ex,QG (zo X scope N C s H ex) tg2 g2) (ht2:∀ C s H ex,QTs (zo X scope N C s H ex) ifs2 ti2) (he:∀ C s H ex,QE (zo X scope N C s H ex) elt te)
  (hsw:swapsWithSole [.Name nx px] (.ListComp elt [⟨tg,iter,ifs,0⟩,⟨tg2,iter2,ifs2,0⟩] scope pos) spos.line X.env=pure true:=by rfl)
  (hs:∀ x,foldedSetIterable iter X.env x=pure x:=by intro _;rfl) (hs2:∀ C s H ex x,foldedSetIterable iter2 (zo X scope N C s H ex).env x=pure x:=by intro _ _ _ _ _;rfl)
  (h1a:(assignEach [.Name nx px] X.env).map (·.2)=[assign (.Name nx px) X.env]:=by rfl):QS X (.Assign [.Name nx px] (.ListComp elt [⟨tg,iter,ifs,0⟩,⟨tg2,iter2,ifs2,0⟩] scope pos) spos) (zfi (zhj wi g ti wi2 g2 ti2 te cix) (u8 ix)):=
 ⟨ziF hNd hix hlx hc c hi.run (fun C s H ex=>(hg C s H ex).run) (fun C s H ex=>(ht C s H ex).run) (fun C s H ex=>(hi2 C s H ex).run) (fun C s H ex=>(hg2 C s H ex).run) (fun C s H ex=>(ht2 C s H ex).run) (fun C s H ex=>(he C s H ex).run) hsw hs hs2 h1a⟩
section
variable {K:PySem.W.Frag}{a acc:Addr}{xs:List V}{g:TG}{ti:TT}{wi2:TI}{g2:TG}{ti2:TT}{te:TE}{σ:St}{H:Hp}{Q:VK}{N:St->Hp->Prop}
theorem zeW (hacc:H acc=none)(Pv:Nat->St->Hp->Prop)(h0:∀ H',H' acc=some (.lst [])->yL H H'->Pv 0 σ H')(hl:∀ i σ H,i<=xs.length->Pv i σ H->SqL K H a xs)
  (hs:∀ i x σ H,xs[i]?=some x->Pv i σ H->zfJ g ti wi2 g2 ti2 te acc (Pv (i+1)) x σ H) (hd:∀ σ H,Pv xs.length σ H->Q (.ref acc) H):zjf (Itl K a) g ti wi2 g2 ti2 te acc Q σ (upd H acc (.lst [])):=by
 refine ⟨fun i m σ H=>m=xs.length - i/\i<=xs.length/\Pv i σ H,⟨xs.length,by simp,Nat.zero_le _,h0 _ zh (yL.upd hacc)⟩,?_⟩
 rintro i m σ H ⟨rfl,hi,p⟩
 have q:=hl i σ H hi p
 by_cases hlt:i<xs.length
 ·refine .inr ⟨⟨xs,xs[i],q,by simp [hlt]⟩,Pv (i+1),fun σ' H' p'=>⟨xs.length - (i+1),by lia,rfl,hlt,p'⟩,fun x H' y=>?_⟩
  obtain ⟨e,y⟩:=y
  subst e
  exact hs i x σ _ (y xs q) p
 ·have e:i=xs.length:=by lia
  subst e
  exact .inl ⟨⟨xs,q,Nat.le_refl _⟩,hd σ H p⟩
theorem ze3 (Pv:Nat->St->Hp->Prop)(h0:Pv 0 σ H)(hl:∀ i σ H,i<=xs.length->Pv i σ H->SqL K H a xs)
  (hs:∀ i x σ H,xs[i]?=some x->Pv i σ H->zhY g ti te acc (Pv (i+1)) x σ H) (hd:∀ σ H,Pv xs.length σ H->N σ H):zjn (Itl K a) g ti te acc N σ H:=by
 refine ⟨fun i m σ H=>m=xs.length - i/\i<=xs.length/\Pv i σ H,⟨xs.length,by simp,Nat.zero_le _,h0⟩,?_⟩
 rintro i m σ H ⟨rfl,hi,p⟩
 have q:=hl i σ H hi p
 by_cases hlt:i<xs.length
 ·refine .inr ⟨⟨xs,xs[i],q,by simp [hlt]⟩,Pv (i+1),fun σ' H' p'=>⟨xs.length - (i+1),by lia,rfl,hlt,p'⟩,fun x H' y=>?_⟩
  obtain ⟨e,y⟩:=y
  subst e
  exact hs i x σ _ (y xs q) p
 ·have e:i=xs.length:=by lia
  subst e
  exact .inl ⟨⟨xs,q,Nat.le_refl _⟩,hd σ H p⟩
end
section
variable {X:Cx}
theorem zh0:CallQ X (.type "range") (fun xs H Q=>∃ n,xs=[.int n]/\New H (.rng 0 n) Q):=⟨by
 intro pins s σ H xs us Q I r h
 obtain ⟨n,rfl,q⟩:=h
 obtain ⟨u,rfl,ru⟩:=zcm r
 obtain ⟨t,rfl⟩:=ru
 refine call_range_1 ?_
 refine ⟨.ref s.heap.objs.size,_,I.laid (t':=s.toks+1+1) (o:=.rng 0 n) (fun b ob q=>Heap.get?_push_of_some _ q) (Nat.le_refl _) ?_,rfl,q.at (I.hok.fresh (Nat.le_refl _))⟩
 exact ⟨_,_,_,Heap.get?_push_size _ rfl⟩⟩
theorem zeI (n:Nat):Builtin.Range.rangeSize 0 (n:Int) 1=n:=by
 unfold Builtin.Range.rangeSize
 rw [if_pos (by decide)]
 split
 ·rw [Int.ediv_one];lia
 ·lia
theorem zhB:∀ {xs:List V} {us:List Value},xs.length=us.length->(∀ (i:Nat) x u,xs[i]?=some x->us[i]?=some u->zX x u)->zY xs us
 | [],[],_,_=>.nil
 | [],_::_,h,_=>by simp at h
 | _::_,[],h,_=>by simp at h
 | x::xs,u::us,h,k=>.cons (k 0 x u rfl rfl) (zhB (by simpa using h) fun i y v hy hv=>k (i+1) y v hy hv)
theorem zdo (hc:X.calm=true):CallQ X (.type "list") (fun xs H Q=>∃ (p:Addr) (n:Nat),xs=[.ref p]/\H p=some (.rng 0 n)/\n<=1000/\New H (.lst ((List.range n).map fun i:Nat=>V.int i)) Q):=⟨by
 intro pins s σ H xs us Q I r h
 obtain ⟨p,n,rfl,hp,hn,q⟩:=h
 obtain ⟨u,rfl,ru⟩:=zcm r
 cases ru
 obtain ⟨t,u,v,ho⟩:=I.hok p _ hp
 have hn':n<sizeLine:=uV hn
 refine call_list_range (a:=0) (b:=n) (c:=1) (n:=n) (I.ok.hd hc) ho ?_ ?_ (Nat.le_trans hn (by decide)) fun h' tk acc' c' kp hg hit=>?_
 ·have e:=zeI n
  unfold Builtin.Range.small
  rw [e]
  simp [Builtin.Range.rangeFitsLong]
  lia
 ·exact zeI n
 ·have hv:zY ((List.range n).map fun i:Nat=>V.int i) acc'.toList:=by
   refine zhB (by rw [List.length_map,List.length_range,Array.length_toList,hit.1]) fun j x u hx hu=>?_
   rw [List.getElem?_map] at hx
   obtain ⟨k,hk,rfl⟩:=Option.map_eq_some_iff.mp hx
   obtain ⟨hlt,e⟩:=List.getElem?_eq_some_iff.mp hk
   have:k=j:=by simpa using e.symm
   subst this
   obtain ⟨t',rfl⟩:=hit.2 k u (by simpa using hu)
   exact ⟨t',by rw [show (0:Int)+(k:Int) * 1=k by lia]⟩
  refine ⟨.ref s.heap.objs.size,_,I.laid (t':=tk) (o:=.lst ((List.range n).map fun i:Nat=>V.int i)) kp (Nat.le_refl _) ?_,rfl,q.at (I.hok.fresh (Nat.le_refl _))⟩
  exact ⟨by rw [List.length_map,List.length_range];exact Nat.le_of_lt hn',acc'.toList,c',hv,by simpa using hg⟩⟩
end
def zx (m:Int):List Int:=(List.range m.toNat).map fun i:Nat=>(i:Int)
def yK (rows:List (List Int))(ws:List Int):List (List Int):=rows.flatMap fun r=>ws.map fun w=>r++[w]
def yO (cs:List (List Int)):List (List Int):=cs.foldl yK [[]]
theorem zR (cs:List (List Int))(c:List Int):yO (cs++[c])=yK (yO cs) c:=by
 unfold yO
 rw [List.foldl_append]
 rfl
def zdu:List Int->Nat->List Int
 | [],_=>[]
 | m::r,k=>zdu r (k / m.toNat)++[((k % m.toNat:Nat):Int)]
def zea:List Int->Nat
 | []=>1
 | m::r=>zea r * m.toNat
theorem zg4 (P m:Nat):List.range (P * m)=(List.range P).flatMap fun q=>(List.range m).map fun r=>q * m+r:=by
 induction P with
 | zero=>rw [Nat.zero_mul];rfl
 | succ P ih=>
  rw [Nat.succ_mul,List.range_add,ih,List.range_succ,List.flatMap_append]
  simp
theorem zdp (P m:Nat)(f:Nat->List Int):yK ((List.range P).map f) ((List.range m).map fun i:Nat=>(i:Int))=(List.range (P * m)).map fun k=>f (k / m)++[((k % m:Nat):Int)]:=by
 unfold yK
 rw [zg4,List.map_flatMap,List.flatMap_map]
 congr 1
 funext q
 rw [List.map_map,List.map_map]
 refine List.map_congr_left fun r hr=>?_
 have hr':=List.mem_range.mp hr
 show f q++[(r:Int)]=f ((q * m+r) / m)++[(((q * m+r) % m:Nat):Int)]
 have e1:(q * m+r) / m=q:=by
  rw [Nat.mul_comm,Nat.mul_add_div (by lia),Nat.div_eq_of_lt hr']
  lia
 have e2:(q * m+r) % m=r:=by
  rw [Nat.mul_comm,Nat.mul_add_mod,Nat.mod_eq_of_lt hr']
 rw [e1,e2]
theorem zeh:∀ rr:List Int,yO (rr.reverse.map zx)=(List.range (zea rr)).map (zdu rr)
 | []=>rfl
 | m::r=>by
  rw [List.reverse_cons,List.map_append]
  show yO (r.reverse.map zx++[zx m])=_
  rw [zR,zeh r]
  exact zdp (zea r) m.toNat (zdu r)
def yI:List Int->List Int->Prop
 | [],[]=>True
 | m::rm,w::st=>0<=w/\w<m/\yI rm st
 | _,_=>False
theorem yI.snoc:∀ {rm st:List Int} {m w:Int},yI rm st->0<=w->w<m->yI (rm++[m]) (st++[w])
 | [],[],_,_,_,h0,h1=>⟨h0,h1,trivial⟩
 | [],_::_,_,_,h,_,_=>h.elim
 | _::_,[],_,_,h,_,_=>h.elim
 | _::rm,_::st,_,_,h,h0,h1=>⟨h.1,h.2.1,yI.snoc h.2.2 h0 h1⟩
theorem yI.len:∀ {rm st:List Int},yI rm st->st.length=rm.length
 | [],[],_=>rfl
 | [],_::_,h=>h.elim
 | _::_,[],h=>h.elim
 | _::rm,_::st,h=>by rw [List.length_cons,List.length_cons,yI.len h.2.2]
theorem yI.get:∀ {rm st:List Int},yI rm st->∀ j:Nat,j<rm.length->0<=st.getD j 0/\st.getD j 0<rm.getD j 0
 | [],[],_,j,hj=>by simp at hj
 | [],_::_,h,_,_=>h.elim
 | _::_,[],h,_,_=>h.elim
 | _::rm,_::st,h,0,_=>⟨h.1,h.2.1⟩
 | _::rm,_::st,h,j+1,hj=>by
  have:=yI.get h.2.2 j (by simpa using hj)
  simpa using this
theorem yI.st {rm st:List Int}(h:yI rm st):∀ b:Int,0<=b->b<rm.length->0<=zE st b/\zE st b<zE rm b:=fun b b0 b1=>by
 obtain ⟨j,rfl⟩:∃ j:Nat,b=j:=⟨b.toNat,by lia⟩
 rw [yj,yj]
 exact h.get j (by lia)
theorem u7:∀ {rr:List Int} (k:Nat),(∀ m∈rr,1<=m)->yI rr.reverse (zdu rr k)
 | [],_,_=>trivial
 | m::r,k,h=>by
  rw [List.reverse_cons]
  have hm:=h m List.mem_cons_self
  refine yI.snoc (u7 (k / m.toNat) fun x hx=>h x (List.mem_cons_of_mem _ hx)) (by lia) ?_
  have:=Nat.mod_lt k (show 0<m.toNat by lia)
  lia
def yq:Int->List Int->List Int->Int
 | p,m::rm,w::st=>yq (p * m+w) rm st
 | p,_,_=>p
theorem zad:∀ {rm st:List Int} {p m w:Int},st.length=rm.length->yq p (rm++[m]) (st++[w])=yq p rm st * m+w
 | [],[],_,_,_,_=>rfl
 | [],_::_,_,_,_,h=>by simp at h
 | _::_,[],_,_,_,h=>by simp at h
 | _::rm,_::st,p,m,w,h=>zad (rm:=rm) (st:=st) (by simpa using h)
theorem zcP:∀ {rr:List Int} {k:Nat},(∀ m∈rr,1<=m)->k<zea rr->yq 0 rr.reverse (zdu rr k)=k
 | [],k,_,hk=>by
  have:k=0:=by
   have:k<1:=hk
   lia
  subst this
  rfl
 | m::r,k,h,hk=>by
  have hm:=h m List.mem_cons_self
  have hr:∀ x∈r,1<=x:=fun x hx=>h x (List.mem_cons_of_mem _ hx)
  rw [List.reverse_cons]
  show yq 0 (r.reverse++[m]) (zdu r (k / m.toNat)++[((k % m.toNat:Nat):Int)])=k
  rw [zad (u7 _ hr).len,zcP hr (Nat.div_lt_of_lt_mul (by rw [Nat.mul_comm];exact hk))]
  have e:((m.toNat:Nat):Int)=m:=by lia
  have:=Nat.div_add_mod k m.toNat
  have e2:((k / m.toNat:Nat):Int) * m+((k % m.toNat:Nat):Int)=((m.toNat * (k / m.toNat)+k % m.toNat:Nat):Int):=by
   rw [Int.natCast_add,Int.natCast_mul,e,Int.mul_comm]
  rw [e2,this]
def zbi:List Int->Int
 | []=>1
 | m::r=>m * zbi r
theorem y6:∀ {rm st:List Int} (p:Int),st.length=rm.length->yq p rm st=p * zbi rm+yq 0 rm st
 | [],[],p,_=>by show p=p * 1+0;lia
 | [],_::_,_,h=>by simp at h
 | _::_,[],_,h=>by simp at h
 | m::rm,w::st,p,h=>by
  have h':st.length=rm.length:=by simpa using h
  show yq (p * m+w) rm st=p * (m * zbi rm)+yq (0 * m+w) rm st
  rw [y6 (p * m+w) h',y6 (0 * m+w) h',Int.zero_mul,Int.zero_add,Int.add_mul,Int.mul_assoc,Int.add_assoc]
theorem uy:∀ {rm st:List Int},yI rm st->0<=yq 0 rm st/\yq 0 rm st<zbi rm
 | [],[],_=>⟨Int.le_refl 0,by decide⟩
 | [],_::_,h=>h.elim
 | _::_,[],h=>h.elim
 | m::rm,w::st,h=>by
  have ih:=uy h.2.2
  show 0<=yq (0 * m+w) rm st/\yq (0 * m+w) rm st<m * zbi rm
  rw [y6 _ h.2.2.len,Int.zero_mul,Int.zero_add]
  have h0:0<=w * zbi rm:=Int.mul_nonneg h.1 (by lia)
  have h1:(w+1) * zbi rm<=m * zbi rm:=Int.mul_le_mul_of_nonneg_right (by have:=h.2.1;lia) (by lia)
  rw [Int.add_mul,Int.one_mul] at h1
  lia
theorem zew:∀ {rm s t:List Int},yI rm s->yI rm t->yq 0 rm s<yq 0 rm t->HT.lexLt s t=true
 | [],[],[],_,_,h=>absurd h (Int.lt_irrefl _)
 | [],_::_,_,h,_,_=>h.elim
 | [],[],_::_,_,h,_=>h.elim
 | _::_,[],_,h,_,_=>h.elim
 | _::_,_::_,[],_,h,_=>h.elim
 | m::rm,a::s,b::t,hs,ht,h=>by
  have h':yq (0 * m+a) rm s<yq (0 * m+b) rm t:=h
  rw [y6 _ hs.2.2.len,y6 _ ht.2.2.len,Int.zero_mul,Int.zero_add,Int.zero_add] at h'
  have bs:=uy hs.2.2
  have bt:=uy ht.2.2
  rcases Int.lt_trichotomy a b with hab | hab | hab
  ·have:HT.lexLt (a::s) (b::t)=true:=by
    simp [HT.lexLt,hab]
    left
    lia
   exact this
  ·subst hab
   have:=zew hs.2.2 ht.2.2 (by lia)
   simp [HT.lexLt,this]
  ·have h1:(b+1) * zbi rm<=a * zbi rm:=Int.mul_le_mul_of_nonneg_right (by lia) (by lia)
   rw [Int.add_mul,Int.one_mul] at h1
   lia
theorem zbB:∀ {rr:List Int},(∀ m∈rr,1<=m)->(zea rr:Int)=xm rr.reverse
 | [],_=>rfl
 | m::r,h=>by
  have hm:=h m List.mem_cons_self
  rw [List.reverse_cons,uc,<- zbB fun x hx=>h x (List.mem_cons_of_mem _ hx)]
  show ((zea r * m.toNat:Nat):Int)=_
  rw [Int.natCast_mul]
  congr 1
  lia
@[reducible] def stD (st:List Int):Dt:=.tup (st.map .int)
theorem uQ:∀ sts:List (List Int),Dt.noLs (sts.map stD)=true
 | []=>rfl
 | st::sts=>by
  show ((stD st).noL&&Dt.noLs (sts.map stD))=true
  rw [uQ sts,show (stD st).noL=true from zcN st]
  rfl
theorem zdK (sts:List (List Int)):(Dt.lst (sts.map stD)).eqOk:=by
 have e:∀ sts:List (List Int),(Dt.toWs (sts.map stD)).all (PySem.W.kqdOk 7)=true:=by
  intro sts
  induction sts with
  | nil=>rfl
  | cons m ms ih=>simp only [List.map_cons,Dt.toWs,List.all_cons,ih,show PySem.W.kqdOk 7 (stD m).toW=true from zig m,Bool.and_true]
 exact e sts
def zlv (H:Hp)(xs:List V)(cs:List (List Int)):Prop:=xs.length=cs.length/\∀ (i:Nat) c,cs[i]?=some c->∃ a,xs[i]?=some (.ref a)/\H a=some (.lst (c.map V.int))
def zbD (K:PySem.W.Frag):Sp:=fun vs H Q _=>∃ (ca:Addr) (xs:List V) (cs:List (List Int)),vs=[.ref ca]/\H ca=some (.lst xs)/\zlv H xs cs/\cs.length<=8/\(∀ c∈cs,c.length<=4)/\
 ∀ (a:Addr) (ys:List V) (H':Hp),H a=none->H' a=some (.lst ys)->IsL H' ((yO cs).map stD) ys->yL H H'->Q (.ref a) H'
theorem zaL (rows:List (List Int))(r ws:List Int):yK (rows++[r]) ws=yK rows ws++ws.map fun w=>r++[w]:=by
 unfold yK
 rw [List.flatMap_append]
 simp
theorem x8 (rows:List (List Int))(ws:List Int):(yK rows ws).length=rows.length * ws.length:=by
 unfold yK
 rw [List.length_flatMap]
 induction rows with
 | nil=>simp
 | cons r rows ih=>rw [List.map_cons,List.sum_cons,ih,List.length_map,List.length_cons,Nat.succ_mul,Nat.add_comm]
theorem zav:∀ (cs:List (List Int)) (row:List Int),row∈yO cs->row.length=cs.length:=by
 intro cs
 have:∀ (n:Nat) (cs:List (List Int)),cs.length=n->∀ row,row∈yO cs->row.length=cs.length:=by
  intro n
  induction n with
  | zero=>
   intro cs h row hr
   have:cs=[]:=List.eq_nil_of_length_eq_zero h
   subst this
   have:row=[]:=by simpa [yO] using hr
   subst this
   rfl
  | succ n ih=>
   intro cs h row hr
   have hne:cs≠[]:=by intro z;rw [z] at h;simp at h
   rw [<- List.dropLast_concat_getLast hne,zR] at hr
   unfold yK at hr
   obtain ⟨r,hr1,hr2⟩:=List.mem_flatMap.mp hr
   obtain ⟨w,_,rfl⟩:=List.mem_map.mp hr2
   have:=ih cs.dropLast (by rw [List.length_dropLast];lia) r hr1
   rw [List.length_append,this,List.length_dropLast]
   show cs.length - 1+1=cs.length
   lia
 exact this cs.length cs rfl
theorem zjF:∀ (n:Nat) (cs:List (List Int)),cs.length=n->(∀ c∈cs,c.length<=4)->(yO cs).length<=4 ^ n:=by
 intro n
 induction n with
 | zero=>
  intro cs h _
  have:cs=[]:=List.eq_nil_of_length_eq_zero h
  subst this
  exact Nat.le_refl _
 | succ n ih=>
  intro cs h h4
  have hne:cs≠[]:=by intro z;rw [z] at h;simp at h
  rw [<- List.dropLast_concat_getLast hne,zR,x8,Nat.pow_succ]
  exact Nat.mul_le_mul (ih cs.dropLast (by rw [List.length_dropLast];lia) fun c hc=>h4 c ((List.dropLast_sublist cs).subset hc)) (h4 _ (List.getLast_mem hne))
theorem zbH {cs:List (List Int)}(h8:cs.length<=8)(h4:∀ c∈cs,c.length<=4)(k:Nat):(yO (cs.take k)).length<=65536:=by
 refine Nat.le_trans (zjF _ (cs.take k) rfl fun c hc=>h4 c (List.mem_of_mem_take hc)) ?_
 have:(cs.take k).length<=8:=by rw [List.length_take];lia
 exact Nat.le_trans (Nat.pow_le_pow_right (by decide) this) (by decide)
theorem zcc (rm:List Int):yO (rm.map zx)=(List.range (zea rm.reverse)).map (zdu rm.reverse):=by
 have:=zeh rm.reverse
 rwa [List.reverse_reverse] at this
theorem yQ (m:Int):(zx m).length=m.toNat:=by unfold zx;rw [List.length_map,List.length_range]
section
variable {X:Cx}{o:Expr}{to:TE}{apos cpos:Pos}
end
open PySem PySem.Spec PyProof.Rows PySem.W
section
variable {n:Nat}{f:Nat->Int}
def key (f:Nat->Int)(p:Array Nat)(k:Nat):Int:=f (p.getD k 0)
structure Up (n:Nat)(f:Nat->Int)(p:Array Nat)(m:Nat):Prop where
 perm:p.Perm (List.range n).toArray
 le:m<=n
 up:∀ k,k+1<m->key f p k<key f p (k+1)
theorem zgQ {p:Array Nat}(h:p.Perm (List.range n).toArray):p.size=n:=by
 have:=h.size_eq
 simpa using this
theorem Up.lt_of {p:Array Nat}{m:Nat}(h:Up n f p m):∀ {i j:Nat},i<j->j<m->key f p i<key f p j:=by
 intro i j
 induction j with
 | zero=>intro h0;lia
 | succ j ih=>
  intro hij hj
  have h1:=h.up j hj
  by_cases e:i=j
  ·subst e;exact h1
  ·have:=ih (by lia) (by lia)
   lia
def zja (n:Nat)(f:Nat->Int):Prop:=∀ i j,i<n->j<n->f i=f j->i=j
end
open PySem PyProof.Rows
def zgf:Bool->Keyed->Array Keyed->Nat->Nat->Nat->StateT SortSt Sem (Option Nat):=sortPriv% PySem.Builtin.gallop
def ziq:Array Keyed->Array Keyed->StateT SortSt Sem (Array Keyed):=sortPriv% PySem.Builtin.mergeLo
def zio:Array Keyed->Array Keyed->StateT SortSt Sem (Array Keyed):=sortPriv% PySem.Builtin.mergeHi
def zap (M:Model)(A:Around)(s:Shared)(κ:SortKind)(L0:List Keyed)(f:Keyed->Int):Prop:=
 ∀ x y,x∈L0->y∈L0->∀ (Q:Bool->Shared->Prop) (E:Value->Shared->Prop),Q (decide (f x<f y)) s->wpAny M A (keyLt' κ x.1 y.1) Q E s
section
variable {M:Model}{A:Around}{E:Value->Shared->Prop}{s:Shared}{κ:SortKind}{L0:List Keyed}{f:Keyed->Int}
theorem znH (R:zap M A s κ L0 f){x y:Keyed}(hx:x∈L0)(hy:y∈L0){st:SortSt}(hk:kindOf st=κ){Q:Option Bool->SortSt->Prop}(h:Q (some (decide (f x<f y))) st):wpS M A E s (lt' x y) Q st:=by
 rw [lt'_eq]
 refine wpS_bind (wpS_get ?_)
 rw [hk]
 exact wpS_bind (wpS_lift (wpAny_attempt (R x y hx hy _ _ ⟨rfl,wpS_pure h⟩)))
theorem z8 {a:Array Keyed}{i:Nat}{x:Keyed}(e:a[i]?=some x){st:SortSt}{Q:Keyed->SortSt->Prop}(h:Q x st):wpS M A E s (elem' a i) Q st:=by
 rw [elem'_eq,e]
 exact wpS_pure h
def xj (f:Keyed->Int)(left:Bool)(key x:Keyed):Bool:=if left=true then decide (f x<f key) else !decide (f key<f x)
theorem zli (R:zap M A s κ L0 f){key x:Keyed}(hx:x∈L0)(hy:key∈L0){left:Bool}{st:SortSt}(hk:kindOf st=κ){Q:Option Bool->SortSt->Prop}(h:Q (some (xj f left key x)) st) :
  wpS M A E s (if left=true then lt' x key else lt' key x >>= fun r=>pure (Option.map (fun b=>!b) r)) Q st:=by
 unfold xj at h
 cases left with
 | true=>rw [if_pos rfl] at h ⊢;exact znH R hx hy hk h
 | false=>rw [if_neg Bool.false_ne_true] at h ⊢;exact wpS_bind (znH R hy hx hk (wpS_pure h))
theorem ziX (R:zap M A s κ L0 f){left:Bool}{key:Keyed}{a:Array Keyed}{base n hint:Nat}(hy:key∈L0)(ha:∀ x∈a,x∈L0)(hn:base+n<=a.size)(hh:hint<n){B:Nat->Bool}(hB:∀ i x,i<n->a[base+i]?=some x->xj f left key x=B i)(hm:∀ i j,i<=j->j<n->B j=true->B i=true)
  {st:SortSt} (hk:kindOf st=κ) {Q:Option Nat->SortSt->Prop} (h:∀ k,k<=n->(∀ i,i<k->B i=true)->(∀ i,k<=i->i<n->B i=false)->Q (some k) st):wpS M A E s (zgf left key a base n hint) Q st:=by
 have ask:∀ i,i<n->∀ {Q:Option Bool->SortSt->Prop},Q (some (B i)) st->wpS M A E s (elem' a (base+i) >>= fun x=>if left=true then lt' x key else lt' key x >>= fun r=>pure (Option.map (fun b=>!b) r)) Q st:=fun i hi {Q} hq=>by
  have e:a[base+i]?=some a[base+i]:=Array.getElem?_eq_getElem (by lia)
  refine wpS_bind (z8 e (zli R (ha _ (Array.getElem_mem _)) hy hk ?_))
  rw [hB i _ hi e]
  exact hq
 have up:∀ i j,i<=j->j<n->B i=false->B j=false:=fun i j h1 h2 h3=>by
  cases e:B j with
  | false=>rfl
  | true=>rw [hm i j h1 h2 e] at h3;cases h3
 have fin:∀ lo hi,lo<=hi->hi<=n->(∀ i,i<lo->B i=true)->(∀ i,hi<=i->i<n->B i=false)->∀ {G:Option (Option Nat)×Nat×Nat->SortSt->Prop},(∀ l k,k<=n->(∀ i,i<k->B i=true)->(∀ i,k<=i->i<n->B i=false)->G (none,l,k) st)->∀ {body:Nat->Option (Option Nat)×Nat×Nat->StateT SortSt Sem (ForInStep (Option (Option Nat)×Nat×Nat))},
   (∀ x lo hi (G':ForInStep (Option (Option Nat)×Nat×Nat)->SortSt->Prop),lo ≥ hi->G' (.done (none,lo,hi)) st->wpS M A E s (body x (none,lo,hi)) G' st)->
   (∀ x lo hi (G':ForInStep (Option (Option Nat)×Nat×Nat)->SortSt->Prop),lo<hi->hi<=n->(B (lo+(hi - lo) / 2)=true->G' (.yield (none,lo+(hi - lo) / 2+1,hi)) st)->(B (lo+(hi - lo) / 2)=false->G' (.yield (none,lo,lo+(hi - lo) / 2)) st)->wpS M A E s (body x (none,lo,hi)) G' st)->
   wpS M A E s (forIn [0:n] (none,lo,hi) body) G st:=by
  intro lo hi h1 h2 h3 h4 G hG body b1 b2
  refine wpS_forRange (I:=fun x c st'=>st'=st/\∃ lo hi,c=(none,lo,hi)/\lo<=hi/\hi<=n/\(∀ i,i<lo->B i=true)/\(∀ i,hi<=i->i<n->B i=false)/\hi - lo+x<=n) ?_ ?_ ⟨rfl,lo,hi,rfl,h1,h2,h3,h4,by lia⟩
  ·rintro x c st' _ hx ⟨rfl,lo,hi,rfl,h1,h2,h3,h4,h5⟩
   by_cases e:lo ≥ hi
   ·refine b1 x lo hi _ e ?_
    obtain rfl:lo=hi:=by lia
    exact hG _ _ h2 h3 h4
   ·refine b2 x lo hi _ (by lia) h2 (fun hb=>?_) (fun hb=>?_)
    ·exact ⟨rfl,_,_,rfl,by lia,h2,fun i hi'=>hm i _ (by lia) (by lia) hb,h4,by lia⟩
    ·exact ⟨rfl,_,_,rfl,by lia,by lia,h3,fun i h1 h2=>up _ i h1 h2 hb,by lia⟩
  ·rintro c st' ⟨rfl,lo,hi,rfl,h1,h2,h3,h4,h5⟩
   obtain rfl:lo=hi:=by lia
   exact hG _ _ h2 h3 h4
 refine wpS_bind (ask hint hh ?_)
 dsimp only
 cases eB:B hint with
 | true=>
  rw [if_pos rfl]
  refine wpS_bind (wpS_mono (wpS_forRange (I:=fun x c st'=>st'=st/\∃ l o,c=(none,l,o)/\l<o/\hint+l<n/\B (hint+l)=true/\x+1<=o) (Q:=fun c st'=>st'=st/\∃ l o,c=(none,l,o)/\l<o/\hint+l<n/\B (hint+l)=true/\(o ≥ n - hint\/(hint+o<n/\B (hint+o)=false))) ?_ ?_ ⟨rfl,0,1,rfl,by lia,by lia,eB,by lia⟩) ?_)
  ·rintro x c st' _ hx ⟨rfl,l,o,rfl,h1,h2,h3,h4⟩
   dsimp only
   by_cases e:o ≥ n - hint
   ·rw [if_pos e]
    exact wpS_pure ⟨rfl,l,o,rfl,h1,h2,h3,.inl e⟩
   ·rw [if_neg e]
    refine wpS_bind (ask (hint+o) (by lia) ?_)
    cases eo:B (hint+o) with
    | true=>exact wpS_pure ⟨rfl,o,2 * o+1,rfl,by lia,by lia,eo,by lia⟩
    | false=>exact wpS_pure ⟨rfl,l,o,rfl,h1,h2,h3,.inr ⟨by lia,eo⟩⟩
  ·rintro c st' ⟨rfl,l,o,rfl,h1,h2,h3,h4⟩
   exact ⟨rfl,l,o,rfl,h1,h2,h3,.inl (by lia)⟩
  ·rintro c st' ⟨rfl,l,o,rfl,h1,h2,h3,h4⟩
   dsimp only
   refine wpS_bind (fin (hint+l+1) (hint+min o (n - hint)) (by lia) (by lia) (fun i hi=>hm i _ (by lia) h2 h3) (fun i h5 h6=>?_) (fun l' k k1 k2 k3=>?_) (fun x lo hi G' e hg=>?_) (fun x lo hi G' e e2 hg1 hg2=>?_))
   ·rcases h4 with h4 | ⟨h4,h7⟩
    ·lia
    ·exact up _ i (by lia) h6 h7
   ·exact wpS_pure (h k k1 k2 k3)
   ·dsimp only
    rw [if_pos e]
    exact wpS_pure hg
   ·dsimp only
    rw [if_neg (by lia)]
    refine wpS_bind (ask _ (by lia) ?_)
    cases eb:B (lo+(hi - lo) / 2) with
    | true=>exact wpS_pure (hg1 eb)
    | false=>exact wpS_pure (hg2 eb)
 | false=>
  rw [if_neg Bool.false_ne_true]
  refine wpS_bind (wpS_mono (wpS_forRange (I:=fun x c st'=>st'=st/\∃ l o,c=(none,l,o)/\l<o/\l<=hint/\B (hint - l)=false/\x+1<=o) (Q:=fun c st'=>st'=st/\∃ l o,c=(none,l,o)/\l<o/\l<=hint/\B (hint - l)=false/\(o ≥ hint+1\/(o<=hint/\B (hint - o)=true))) ?_ ?_ ⟨rfl,0,1,rfl,by lia,by lia,eB,by lia⟩) ?_)
  ·rintro x c st' _ hx ⟨rfl,l,o,rfl,h1,h2,h3,h4⟩
   dsimp only
   by_cases e:o ≥ hint+1
   ·rw [if_pos e]
    exact wpS_pure ⟨rfl,l,o,rfl,h1,h2,h3,.inl e⟩
   ·rw [if_neg e]
    refine wpS_bind (ask (hint - o) (by lia) ?_)
    cases eo:B (hint - o) with
    | true=>exact wpS_pure ⟨rfl,l,o,rfl,h1,h2,h3,.inr ⟨by lia,eo⟩⟩
    | false=>exact wpS_pure ⟨rfl,o,2 * o+1,rfl,by lia,by lia,eo,by lia⟩
  ·rintro c st' ⟨rfl,l,o,rfl,h1,h2,h3,h4⟩
   exact ⟨rfl,l,o,rfl,h1,h2,h3,.inl (by lia)⟩
  ·rintro c st' ⟨rfl,l,o,rfl,h1,h2,h3,h4⟩
   dsimp only
   refine wpS_bind (fin (hint+1 - min o (hint+1)) (hint - l) (by lia) (by lia) (fun i hi=>?_) (fun i h5 h6=>up _ i h5 h6 h3) (fun l' k k1 k2 k3=>?_) (fun x lo hi G' e hg=>?_) (fun x lo hi G' e e2 hg1 hg2=>?_))
   ·rcases h4 with h4 | ⟨h4,h7⟩
    ·lia
    ·exact hm i _ (by lia) (by lia) h7
   ·exact wpS_pure (h k k1 k2 k3)
   ·dsimp only
    rw [if_pos e]
    exact wpS_pure hg
   ·dsimp only
    rw [if_neg (by lia)]
    refine wpS_bind (ask _ (by lia) ?_)
    cases eb:B (lo+(hi - lo) / 2) with
    | true=>exact wpS_pure (hg1 eb)
    | false=>exact wpS_pure (hg2 eb)
theorem zeV {left:Bool}{key x y:Keyed}(h:f x<=f y)(e:xj f left key y=true):xj f left key x=true:=by
 unfold xj at e ⊢
 cases left with
 | true=>rw [if_pos rfl] at e ⊢;have:=of_decide_eq_true e;exact decide_eq_true (by lia)
 | false=>
  rw [if_neg Bool.false_ne_true] at e ⊢
  simp only [Bool.not_eq_true',decide_eq_false_iff_not] at e ⊢
  lia
abbrev leF (f:Keyed->Int)(x y:Keyed):Prop:=f x<=f y
theorem zfm (R:zap M A s κ L0 f){left:Bool}{key:Keyed}{a:Array Keyed}{base n hint:Nat}(hy:key∈L0)(ha:∀ x∈a,x∈L0)(hn:base+n<=a.size)(hh:hint<n)(hs:((a.toList.drop base).take n).Pairwise (leF f))
  {st:SortSt} (hk:kindOf st=κ) {Q:Option Nat->SortSt->Prop} (h:∀ k,k<=n->(∀ x∈(a.toList.drop base).take k,xj f left key x=true)->(∀ x∈((a.toList.drop base).take n).drop k,xj f left key x=false)->Q (some k) st):wpS M A E s (zgf left key a base n hint) Q st:=by
 have hlen:((a.toList.drop base).take n).length=n:=by simp;lia
 have hget:∀ i,i<n->∃ x,a[base+i]?=some x/\((a.toList.drop base).take n)[i]?=some x:=fun i hi=>by
  refine ⟨a[base+i],Array.getElem?_eq_getElem (by lia),?_⟩
  rw [List.getElem?_take_of_lt hi,List.getElem?_drop,Array.getElem?_toList,Array.getElem?_eq_getElem (by lia)]
 refine ziX R hy ha hn hh (B:=fun i=>match a[base+i]? with | some x=>xj f left key x | none=>false) (fun i x hi e=>by rw [e]) (fun i j hij hj hb=>?_) hk fun k hk1 h1 h2=>h k hk1 (fun x hx=>?_) (fun x hx=>?_)
 ·obtain ⟨x,e1,e2⟩:=hget i (by lia)
  obtain ⟨y,e3,e4⟩:=hget j hj
  rw [e1]
  rw [e3] at hb
  by_cases e:i=j
  ·subst e;rw [e1] at e3;cases e3;exact hb
  ·refine zeV ?_ hb
   obtain ⟨hi',q1⟩:=List.getElem?_eq_some_iff.mp e2
   obtain ⟨hj',q2⟩:=List.getElem?_eq_some_iff.mp e4
   have:=List.pairwise_iff_getElem.mp hs i j hi' hj' (by lia)
   rw [q1,q2] at this
   exact this
 ·obtain ⟨i,hi,e⟩:=List.mem_iff_getElem.mp hx
  have hi2:i<k:=by simp at hi;lia
  have:=h1 i hi2
  obtain ⟨y,e1,e2⟩:=hget i (by lia)
  rw [e1] at this
  rw [List.getElem?_take_of_lt (by lia)] at e2
  rw [List.getElem_take] at e
  obtain ⟨_,e4⟩:=List.getElem?_eq_some_iff.mp e2
  rw [<- e,e4]
  exact this
 ·obtain ⟨i,hi,e⟩:=List.mem_iff_getElem.mp hx
  rw [List.length_drop,hlen] at hi
  have:=h2 (k+i) (by lia) (by lia)
  obtain ⟨y,e1,e2⟩:=hget (k+i) (by lia)
  rw [e1] at this
  rw [List.getElem_drop] at e
  obtain ⟨_,e4⟩:=List.getElem?_eq_some_iff.mp e2
  rw [<- e,e4]
  exact this
end
structure Mg (R:Keyed->Keyed->Prop)(T out ra rb:List Keyed):Prop where
 perm:(out++(ra++rb)).Perm T
 up:out.Pairwise R
 le:∀ x∈out,∀ y∈ra++rb,R x y
 ua:ra.Pairwise R
 ub:rb.Pairwise R
section
variable {R:Keyed->Keyed->Prop}{T out ra rb c:List Keyed}
theorem Mg.a (h:Mg R T out (c++ra) rb)(k:∀ x∈c,∀ y∈rb,R x y):Mg R T (out++c) ra rb:=by
 have ua:=List.pairwise_append.mp h.ua
 refine ⟨?_,List.pairwise_append.mpr ⟨h.up,ua.1,fun x hx y hy=>h.le x hx y (by simp [hy])⟩,fun x hx y hy=>?_,ua.2.1,h.ub⟩
 ·have:=h.perm
  simpa only [List.append_assoc] using this
 ·rcases List.mem_append.mp hx with hx | hx
  ·exact h.le x hx y (by rcases List.mem_append.mp hy with hy | hy <;> simp [hy])
  ·rcases List.mem_append.mp hy with hy | hy
   ·exact ua.2.2 x hx y hy
   ·exact k x hx y hy
theorem Mg.b (h:Mg R T out ra (c++rb))(k:∀ x∈c,∀ y∈ra,R x y):Mg R T (out++c) ra rb:=by
 have ub:=List.pairwise_append.mp h.ub
 refine ⟨?_,List.pairwise_append.mpr ⟨h.up,ub.1,fun x hx y hy=>h.le x hx y (by simp [hy])⟩,fun x hx y hy=>?_,h.ua,ub.2.1⟩
 ·refine List.Perm.trans ?_ h.perm
  rw [List.append_assoc]
  refine List.Perm.append_left _ ?_
  rw [<- List.append_assoc,<- List.append_assoc]
  exact List.Perm.append_right _ List.perm_append_comm
 ·rcases List.mem_append.mp hx with hx | hx
  ·exact h.le x hx y (by rcases List.mem_append.mp hy with hy | hy <;> simp [hy])
  ·rcases List.mem_append.mp hy with hy | hy
   ·exact k x hx y hy
   ·exact ub.2.2 x hx y hy
def zbm (R:Keyed->Keyed->Prop)(T out:List Keyed):Prop:=out.Perm T/\out.Pairwise R
theorem Mg.told (h:Mg R T out [] []):zbm R T out:=⟨by have:=h.perm;simpa using this,h.up⟩
theorem Mg.doneA (h:Mg R T out ra []):zbm R T (out++ra):=(Mg.a (c:=ra) (ra:=[]) (by simpa using h) (fun _ _ _ hy=>by simp at hy)).told
theorem Mg.doneB (h:Mg R T out [] rb):zbm R T (out++rb):=(Mg.b (c:=rb) (rb:=[]) (by simpa using h) (fun _ _ _ hy=>by simp at hy)).told
theorem Mg.last {z:Keyed}(h:Mg R T out [z] rb)(k:∀ y∈rb,R y z):zbm R T (out++rb++[z]):=(Mg.b (c:=rb) (rb:=[]) (by simpa using h) (fun x hx y hy=>by rw [List.mem_singleton.mp hy];exact k x hx)).doneA
theorem Mg.lastB {z:Keyed}(h:Mg R T out ra [z])(k:∀ y∈ra,R y z):zbm R T (out++ra++[z]):=(Mg.a (c:=ra) (ra:=[]) (by simpa using h) (fun x hx y hy=>by rw [List.mem_singleton.mp hy];exact k x hx)).doneB
end
theorem zeZ {a:Array Keyed}{i:Nat}(h:i<a.size):∃ x,a[i]?=some x/\x∈a/\a.toList.drop i=x::a.toList.drop (i+1):=
 ⟨a[i],Array.getElem?_eq_getElem h,Array.getElem_mem h,by rw [List.drop_eq_getElem_cons (by simpa using h)];rfl⟩
theorem zbK (a:Array Keyed)(i:Nat):(a.extract i a.size).toList=a.toList.drop i:=by
 simp [List.take_of_length_le]
theorem zfR (l:List Keyed)(i k:Nat):(l.drop i).take k++l.drop (i+k)=l.drop i:=by rw [<- List.drop_drop,List.take_append_drop]
theorem zen (a:Array Keyed)(i k:Nat):(a.extract i (i+k)).toList=(a.toList.drop i).take k:=by
 simp
structure Like (st st':SortSt):Prop where
 kind:kindOf st'=kindOf st
 arr:arrOf st'=arrOf st
 pend:pendingOf st'=pendingOf st
 fail:failedOf st'=failedOf st
section
variable {M:Model}{A:Around}{E:Value->Shared->Prop}{s:Shared}{κ:SortKind}{L0:List Keyed}{f:Keyed->Int}
structure LoI (f:Keyed->Int)(T:List Keyed)(a b:Array Keyed)(out:Array Keyed)(ia ib:Nat):Prop where
 mg:Mg (leF f) T out.toList (a.toList.drop ia) (b.toList.drop ib)
 la:ia+1<a.size
 lb:ib<b.size
theorem zeu {T:List Keyed}{a b out:Array Keyed}{ia ib:Nat}(mg:Mg (leF f) T out.toList (a.toList.drop ia) (b.toList.drop ib))(e:(ia+1==a.size)=true)(hl:∀ x∈b,∀ y,a[a.size - 1]?=some y->f x<=f y):zbm (leF f) T (out++b.extract ib b.size++a.extract ia a.size).toList:=by
 have e:=eq_of_beq e
 obtain ⟨z,z1,z2,z3⟩:=zeZ (a:=a) (i:=ia) (by lia)
 have z4:a.toList.drop (ia+1)=[]:=by rw [List.drop_eq_nil_iff];simp;lia
 rw [Array.toList_append,Array.toList_append,zbK,zbK]
 rw [z3,z4] at mg ⊢
 refine mg.last fun y hy=>hl y ?_ z ?_
 ·have:=List.mem_of_mem_drop hy;simpa using this
 ·rw [<- z1];congr 1;lia
theorem zcA {T:List Keyed}{a b out:Array Keyed}{ia ib:Nat}(mg:Mg (leF f) T out.toList (a.toList.drop ia) (b.toList.drop ib))(e:ib=b.size\/ia=a.size):zbm (leF f) T (out++a.extract ia a.size++b.extract ib b.size).toList:=by
 rw [Array.toList_append,Array.toList_append,zbK,zbK]
 rcases e with e | e
 ·have z4:b.toList.drop ib=[]:=by rw [List.drop_eq_nil_iff];simp;lia
  rw [z4] at mg ⊢
  rw [List.append_nil]
  exact mg.doneA
 ·have z4:a.toList.drop ia=[]:=by rw [List.drop_eq_nil_iff];simp;lia
  rw [z4] at mg ⊢
  rw [List.append_nil]
  exact mg.doneB
theorem zhq (R:zap M A s κ L0 f){a b:Array Keyed}(ha:∀ x∈a,x∈L0)(hb:∀ x∈b,x∈L0)(sa:a.toList.Pairwise (leF f))(sb:b.toList.Pairwise (leF f))(na:1<=a.size)(nb:1<=b.size)
  (hf:∀ x∈a,∀ y,b[0]?=some y->f y<=f x) (hl:∀ x∈b,∀ y,a[a.size - 1]?=some y->f x<=f y) {st:SortSt} (hk:kindOf st=κ) {Q:Array Keyed->SortSt->Prop}
  (h:∀ out st',Like st st'->zbm (leF f) (a.toList++b.toList) out.toList->Q out st'):wpS M A E s (ziq a b) Q st:=by
 refine wpS_bind (wpS_lift (wpAny_rule ⟨rfl,?_⟩))
 obtain ⟨y,y1,y2,y3⟩:=zeZ (a:=b) (i:=0) (by lia)
 refine wpS_bind (z8 y1 ?_)
 have m0:Mg (leF f) (a.toList++b.toList) (#[y]:Array Keyed).toList (a.toList.drop 0) (b.toList.drop 1):=by
  have h0:Mg (leF f) (a.toList++b.toList) [] a.toList ([y]++b.toList.drop 1):=by
   have e:b.toList=[y]++b.toList.drop 1:=y3
   rw [<- e]
   exact ⟨by simp,.nil,fun _ hx=>by simp at hx,sa,sb⟩
  exact h0.b fun x hx z hz=>by rw [List.mem_singleton.mp hx];exact hf z (by simpa using hz) y y1
 dsimp only
 by_cases e1:(1==b.size)=true
 ·rw [if_pos e1]
  exact wpS_pure (h _ _ ⟨rfl,rfl,rfl,rfl⟩ (zcA m0 (.inl (eq_of_beq e1))))
 rw [if_neg e1]
 by_cases e2:(0+1==a.size)=true
 ·rw [if_pos e2]
  exact wpS_pure (h _ _ ⟨rfl,rfl,rfl,rfl⟩ (zeu m0 e2 hl))
 rw [if_neg e2]
 have e1':1≠b.size:=fun z=>e1 (by rw [<- z];rfl)
 have e2':1≠a.size:=fun z=>e2 (by rw [<- z];rfl)
 refine wpS_bind (wpS_get ?_)
 refine wpS_bind (wpS_mono (wpS_forRange (I:=fun x c st'=>Like st st'/\∃ out ia ib g,c=(none,out,ia,ib,g)/\LoI f (a.toList++b.toList) a b out ia ib/\x+1<=ia+ib) (Q:=fun c st'=>Like st st'/\∃ r out ia ib g,c=(some r,out,ia,ib,g)/\zbm (leF f) (a.toList++b.toList) r.toList) ?_ ?_ ⟨⟨rfl,rfl,rfl,rfl⟩,_,0,1,_,rfl,⟨m0,by lia,by lia⟩,by lia⟩) ?_)
 ·rintro x c st1 _ hx ⟨l1,out,ia,ib,g,rfl,I,hp⟩
  dsimp only
  refine wpS_bind (wpS_mono (wpS_forRange (I:=fun x c st'=>Like st st'/\∃ out' ia' ib' ac bc,c=(none,out',ia',ib',ac,bc)/\LoI f (a.toList++b.toList) a b out' ia' ib'/\x+(ia+ib)<=ia'+ib')
   (Q:=fun c st'=>Like st st'/\((∃ r out' ia' ib' ac bc,c=(some r,out',ia',ib',ac,bc)/\zbm (leF f) (a.toList++b.toList) r.toList)\/∃ out' ia' ib' ac bc,c=(none,out',ia',ib',ac,bc)/\LoI f (a.toList++b.toList) a b out' ia' ib'/\ia+ib+1<=ia'+ib')) ?_ ?_ ⟨l1,_,_,_,_,_,rfl,I,by lia⟩) ?_)
  ·rintro x2 c st2 _ hx2 ⟨l2,o2,ia2,ib2,ac,bc,rfl,I2,hp2⟩
   dsimp only
   have la:=I2.la
   have lb:=I2.lb
   obtain ⟨y,y1,y2,y3⟩:=zeZ lb
   obtain ⟨z,z1,z2,z3⟩:=zeZ (a:=a) (i:=ia2) (by lia)
   refine wpS_bind (z8 y1 (wpS_bind (z8 z1 (wpS_bind (znH R (hb _ y2) (ha _ z2) (l2.kind.trans hk) ?_)))))
   have mg:=I2.mg
   by_cases hyz:f y<f z
   ·rw [decide_eq_true hyz]
    dsimp only
    rw [if_pos rfl]
    refine wpS_bind (z8 y1 ?_)
    have ua:=mg.ua
    rw [z3] at ua
    have ua:=List.pairwise_cons.mp ua
    have m2:Mg (leF f) (a.toList++b.toList) (o2.push y).toList (a.toList.drop ia2) (b.toList.drop (ib2+1)):=by
     rw [y3] at mg
     rw [Array.toList_push]
     refine Mg.b (c:=[y]) mg fun x hx w hw=>?_
     rw [List.mem_singleton.mp hx]
     rw [z3] at hw
     show f y<=f w
     rcases List.mem_cons.mp hw with rfl | hw
     ·lia
     ·have h9:f z<=f w:=ua.1 w hw;lia
    by_cases e3:(ib2+1==b.size)=true
    ·rw [if_pos e3]
     exact wpS_pure ⟨l2,.inl ⟨_,_,_,_,_,_,rfl,zcA m2 (.inl (eq_of_beq e3))⟩⟩
    ·rw [if_neg e3]
     have e3':ib2+1≠b.size:=fun q=>e3 (by rw [q];exact beq_self_eq_true _)
     split
     ·exact wpS_pure ⟨l2,.inr ⟨_,_,_,_,_,rfl,⟨m2,la,by lia⟩,by lia⟩⟩
     ·exact wpS_pure ⟨l2,_,_,_,_,_,rfl,⟨m2,la,by lia⟩,by lia⟩
   ·rw [decide_eq_false hyz]
    dsimp only
    rw [if_neg Bool.false_ne_true]
    refine wpS_bind (z8 z1 ?_)
    have ub:=mg.ub
    rw [y3] at ub
    have ub:=List.pairwise_cons.mp ub
    have m2:Mg (leF f) (a.toList++b.toList) (o2.push z).toList (a.toList.drop (ia2+1)) (b.toList.drop ib2):=by
     rw [z3] at mg
     rw [Array.toList_push]
     refine Mg.a (c:=[z]) mg fun x hx w hw=>?_
     rw [List.mem_singleton.mp hx]
     rw [y3] at hw
     show f z<=f w
     rcases List.mem_cons.mp hw with rfl | hw
     ·lia
     ·have h9:f y<=f w:=ub.1 w hw;lia
    by_cases e3:(ia2+1+1==a.size)=true
    ·rw [if_pos e3]
     exact wpS_pure ⟨l2,.inl ⟨_,_,_,_,_,_,rfl,zeu m2 e3 hl⟩⟩
    ·rw [if_neg e3]
     have e3':ia2+1+1≠a.size:=fun q=>e3 (by rw [q];exact beq_self_eq_true _)
     split
     ·exact wpS_pure ⟨l2,.inr ⟨_,_,_,_,_,rfl,⟨m2,by lia,lb⟩,by lia⟩⟩
     ·exact wpS_pure ⟨l2,_,_,_,_,_,rfl,⟨m2,by lia,lb⟩,by lia⟩
  ·rintro c st2 ⟨l2,o2,ia2,ib2,ac,bc,rfl,I2,hp2⟩
   have la:=I2.la
   have lb:=I2.lb
   lia
  ·rintro c st2 ⟨l2,⟨r,o2,ia2,ib2,ac,bc,rfl,ht⟩ | ⟨o2,ia2,ib2,ac,bc,rfl,I2,hp2⟩⟩
   ·exact wpS_pure ⟨l2,_,_,_,_,_,rfl,ht⟩
   dsimp only
   refine wpS_bind (wpS_lift (wpAny_rule ⟨rfl,?_⟩))
   refine wpS_bind (wpS_mono (wpS_forRange (I:=fun x c st'=>Like st st'/\∃ out' ia' ib' g ac bc,c=(none,out',ia',ib',g,ac,bc)/\LoI f (a.toList++b.toList) a b out' ia' ib'/\ia2+ib2<=ia'+ib')
    (Q:=fun c st'=>Like st st'/\((∃ r out' ia' ib' g ac bc,c=(some r,out',ia',ib',g,ac,bc)/\zbm (leF f) (a.toList++b.toList) r.toList)\/∃ out' ia' ib' g ac bc,c=(none,out',ia',ib',g,ac,bc)/\LoI f (a.toList++b.toList) a b out' ia' ib'/\ia2+ib2<=ia'+ib')) ?_ ?_ ⟨l2,_,_,_,_,_,_,rfl,I2,Nat.le_refl _⟩) ?_)
   ·rintro x3 c st3 _ hx3 ⟨l3,o3,ia3,ib3,g3,ac3,bc3,rfl,I3,hp3⟩
    dsimp only
    have la:=I3.la
    have lb:=I3.lb
    have mg:=I3.mg
    obtain ⟨y,y1,y2,y3⟩:=zeZ lb
    have ub:=mg.ub
    rw [y3] at ub
    have ub:=List.pairwise_cons.mp ub
    by_cases g0:g3 > 1
    case' pos=>rw [if_pos g0]
    case' neg=>rw [if_neg g0]
    all_goals
     refine wpS_bind (wpS_modify ?_)
     have lk:∀ g,Like st (SortSt.mk' (kindOf st3) (arrOf st3) (pendingOf st3) g (failedOf st3)):=fun g=>⟨l3.kind,l3.arr,l3.pend,l3.fail⟩
     refine wpS_bind (z8 y1 ?_)
     refine wpS_bind (zfm (n:=a.size - ia3) (left:=false) (hint:=0) R (hb _ y2) ha (by lia) (by lia) (mg.ua.sublist (List.take_sublist _ _)) ((lk _).kind.trans hk) fun k k1 k2 k3=>?_)
     dsimp only
     have h4:∀ w∈a.toList.drop (ia3+k),f y<=f w:=fun w hw=>by
      have:=k3 w (by rw [List.take_of_length_le (by simp),List.drop_drop];exact hw)
      unfold xj at this
      rw [if_neg Bool.false_ne_true,Bool.not_eq_false',decide_eq_true_eq] at this
      lia
     have m4:Mg (leF f) (a.toList++b.toList) (o3++a.extract ia3 (ia3+k)).toList (a.toList.drop (ia3+k)) (b.toList.drop ib3):=by
      rw [Array.toList_append,zen]
      refine Mg.a (by rw [zfR];exact mg) fun x hx w hw=>?_
      have h5:=k2 x hx
      unfold xj at h5
      rw [if_neg Bool.false_ne_true,Bool.not_eq_true',decide_eq_false_iff_not] at h5
      rw [y3] at hw
      show f x<=f w
      rcases List.mem_cons.mp hw with rfl | hw
      ·lia
      ·have h9:f y<=f w:=ub.1 w hw;lia
     by_cases k0:k > 0
     case' pos=>
      rw [if_pos k0]
      by_cases e4:(ia3+k+1==a.size)=true
      ·rw [if_pos e4]
       exact wpS_pure ⟨lk _,.inl ⟨_,_,_,_,_,_,_,rfl,zeu m4 e4 hl⟩⟩
      rw [if_neg e4]
      by_cases e5:(ia3+k==a.size)=true
      ·rw [if_pos e5]
       exact wpS_pure ⟨lk _,.inl ⟨_,_,_,_,_,_,_,rfl,zcA m4 (.inr (eq_of_beq e5))⟩⟩
      rw [if_neg e5]
      have e4':ia3+k+1≠a.size:=fun q=>e4 (by rw [q];exact beq_self_eq_true _)
      have e5':ia3+k≠a.size:=fun q=>e5 (by rw [q];exact beq_self_eq_true _)
      have q1:ia3+k+1<a.size:=by lia
      have q2:ia3<=ia3+k:=by lia
      clear e4 e5 e4' e5' k1 k2 k3
      generalize o3++a.extract ia3 (ia3+k)=o4 at m4 ⊢
      generalize ia3+k=ia4 at m4 h4 q1 q2 ⊢
     case' neg=>
      rw [if_neg k0]
      obtain rfl:k=0:=by lia
      have q1:ia3+1<a.size:=la
      have q2:ia3<=ia3:=Nat.le_refl _
      clear m4
      have m4:=mg
      rw [Nat.add_zero] at h4
      clear k1 k2 k3
      generalize ho:o3=o4 at m4 ⊢
      generalize hi:ia3=ia4 at m4 h4 q1 ⊢
      have q2:ia3<=ia4:=by lia
     all_goals
      refine wpS_bind (z8 y1 ?_)
      have m5:Mg (leF f) (a.toList++b.toList) (o4.push y).toList (a.toList.drop ia4) (b.toList.drop (ib3+1)):=by
       rw [y3] at m4
       rw [Array.toList_push]
       exact Mg.b (c:=[y]) m4 fun x hx w hw=>by rw [List.mem_singleton.mp hx];exact h4 w hw
      by_cases e6:(ib3+1==b.size)=true
      ·rw [if_pos e6]
       exact wpS_pure ⟨lk _,.inl ⟨_,_,_,_,_,_,_,rfl,zcA m5 (.inl (eq_of_beq e6))⟩⟩
      rw [if_neg e6]
      have e6':ib3+1≠b.size:=fun q=>e6 (by rw [q];exact beq_self_eq_true _)
      obtain ⟨z,z1,z2,z3⟩:=zeZ (a:=a) (i:=ia4) (by lia)
      refine wpS_bind (z8 z1 ?_)
      have ua:=m5.ua
      rw [z3] at ua
      have ua:=List.pairwise_cons.mp ua
      refine wpS_bind (zfm (n:=b.size - (ib3+1)) (left:=true) (hint:=0) R (ha _ z2) hb (by lia) (by lia) (m5.ub.sublist (List.take_sublist _ _)) ((lk _).kind.trans hk) fun j j1 j2 j3=>?_)
      dsimp only
      have h6:∀ w∈b.toList.drop (ib3+1+j),f z<=f w:=fun w hw=>by
       have:=j3 w (by rw [List.take_of_length_le (by simp),List.drop_drop];exact hw)
       unfold xj at this
       rw [if_pos rfl,decide_eq_false_iff_not] at this
       lia
      have m6:Mg (leF f) (a.toList++b.toList) (o4.push y++b.extract (ib3+1) (ib3+1+j)).toList (a.toList.drop ia4) (b.toList.drop (ib3+1+j)):=by
       rw [Array.toList_append,zen]
       refine Mg.b (by rw [zfR];exact m5) fun x hx w hw=>?_
       have h5:=j2 x hx
       unfold xj at h5
       rw [if_pos rfl,decide_eq_true_eq] at h5
       rw [z3] at hw
       show f x<=f w
       rcases List.mem_cons.mp hw with rfl | hw
       ·lia
       ·have h9:f z<=f w:=ua.1 w hw;lia
      by_cases j0:j > 0
      case' pos=>
       rw [if_pos j0]
       by_cases e7:(ib3+1+j==b.size)=true
       ·rw [if_pos e7]
        exact wpS_pure ⟨lk _,.inl ⟨_,_,_,_,_,_,_,rfl,zcA m6 (.inl (eq_of_beq e7))⟩⟩
       rw [if_neg e7]
       have e7':ib3+1+j≠b.size:=fun q=>e7 (by rw [q];exact beq_self_eq_true _)
       have q3:ib3+1+j<b.size:=by lia
       have q4:ib3<=ib3+1+j:=by lia
       clear e7 e7' j1 j2 j3
       generalize o4.push y++b.extract (ib3+1) (ib3+1+j)=o5 at m6 ⊢
       generalize ib3+1+j=ib4 at m6 h6 q3 q4 ⊢
      case' neg=>
       rw [if_neg j0]
       obtain rfl:j=0:=by lia
       have q3:ib3+1<b.size:=by lia
       have q4:ib3<=ib3+1:=by lia
       clear m6
       have m6:=m5
       rw [Nat.add_zero] at h6
       clear j1 j2 j3
       generalize o4.push y=o5 at m6 ⊢
       generalize ib3+1=ib4 at m6 h6 q3 q4 ⊢
      all_goals
       refine wpS_bind (z8 z1 ?_)
       have m7:Mg (leF f) (a.toList++b.toList) (o5.push z).toList (a.toList.drop (ia4+1)) (b.toList.drop ib4):=by
        rw [z3] at m6
        rw [Array.toList_push]
        exact Mg.a (c:=[z]) m6 fun x hx w hw=>by rw [List.mem_singleton.mp hx];exact h6 w hw
       by_cases e8:(ia4+1+1==a.size)=true
       ·rw [if_pos e8]
        exact wpS_pure ⟨lk _,.inl ⟨_,_,_,_,_,_,_,rfl,zeu m7 e8 hl⟩⟩
       rw [if_neg e8]
       have e8':ia4+1+1≠a.size:=fun q=>e8 (by rw [q];exact beq_self_eq_true _)
       split
       ·exact wpS_pure ⟨lk _,.inr ⟨_,_,_,_,_,_,rfl,⟨m7,by lia,q3⟩,by lia⟩⟩
       ·exact wpS_pure ⟨lk _,_,_,_,_,_,_,rfl,⟨m7,by lia,q3⟩,by lia⟩
   ·rintro c st3 ⟨l3,o3,ia3,ib3,g3,ac3,bc3,rfl,I3,hp3⟩
    exact ⟨l3,.inr ⟨_,_,_,_,_,_,rfl,I3,hp3⟩⟩
   ·rintro c st3 ⟨l3,⟨r,o3,ia3,ib3,g3,ac3,bc3,rfl,ht⟩ | ⟨o3,ia3,ib3,g3,ac3,bc3,rfl,I3,hp3⟩⟩
    ·exact wpS_pure ⟨l3,_,_,_,_,_,rfl,ht⟩
    ·dsimp only
     exact wpS_bind (wpS_modify (wpS_pure ⟨⟨l3.kind,l3.arr,l3.pend,l3.fail⟩,_,_,_,_,rfl,I3,by lia⟩))
 ·rintro c st1 ⟨l1,out,ia,ib,g,rfl,I,hp⟩
  have:=I.la
  have:=I.lb
  lia
 ·rintro c st1 ⟨l1,r,out,ia,ib,g,rfl,ht⟩
  exact wpS_pure (h _ _ l1 ht)
abbrev geF (f:Keyed->Int)(x y:Keyed):Prop:=f y<=f x
theorem zci {T l:List Keyed}(h:zbm (geF f) T l):zbm (leF f) T l.reverse:=⟨(List.reverse_perm l).trans h.1,List.pairwise_reverse.mpr h.2⟩
theorem zfo {a:Array Keyed}{n:Nat}(h1:1<=n)(h:n<=a.size):∃ x,a[n - 1]?=some x/\x∈a/\(a.toList.take n).reverse=x::(a.toList.take (n - 1)).reverse:=by
 obtain ⟨i,rfl⟩:∃ i,n=i+1:=⟨n - 1,by lia⟩
 refine ⟨a[i],Array.getElem?_eq_getElem (by lia),Array.getElem_mem _,?_⟩
 rw [List.take_succ_eq_append_getElem (by rw [Array.length_toList];exact h),List.reverse_append]
 rfl
theorem zay (a:Array Keyed)(n:Nat):(a.extract 0 n).toList=a.toList.take n:=by
 simp
theorem zf6 (a:Array Keyed)(i n:Nat):(a.extract i n).reverse.toList=((a.toList.take n).drop i).reverse:=by
 simp [List.drop_take]
theorem zfS (l:List Keyed){i n:Nat}(h:i<=n):((l.take n).drop i).reverse++(l.take i).reverse=(l.take n).reverse:=by
 rw [<- List.reverse_append]
 congr 1
 have:l.take i=(l.take n).take i:=by rw [List.take_take,Nat.min_eq_left h]
 rw [this,List.take_append_drop]
structure HiI (f:Keyed->Int)(T:List Keyed)(a b:Array Keyed)(out:Array Keyed)(na nb:Nat):Prop where
 mg:Mg (geF f) T out.toList (a.toList.take na).reverse (b.toList.take nb).reverse
 la:1<=na
 ma:na<=a.size
 lb:2<=nb
 mb:nb<=b.size
theorem zbL {T:List Keyed}{a b out:Array Keyed}{na nb:Nat}(mg:Mg (geF f) T out.toList (a.toList.take na).reverse (b.toList.take nb).reverse)(e:(nb==1)=true)(hn:1<=b.size)(hf:∀ x∈a,∀ y,b[0]?=some y->f y<=f x):zbm (leF f) T (b.extract 0 nb++a.extract 0 na++out.reverse).toList:=by
 have e:=eq_of_beq e
 subst e
 obtain ⟨z,z1,z2,z3⟩:=zfo (a:=b) (n:=1) (Nat.le_refl _) hn
 rw [Array.toList_append,Array.toList_append,zay,zay,Array.toList_reverse]
 rw [z3] at mg
 have mg:Mg (geF f) T out.toList (a.toList.take na).reverse [z]:=mg
 have t:=zci (mg.lastB fun y hy=>hf y (by have:=List.mem_of_mem_take (List.mem_reverse.mp hy);simpa using this) z z1)
 have e3:b.toList.take 1=[z]:=by rw [<- List.reverse_reverse (b.toList.take 1),z3];rfl
 rw [e3]
 simpa using t
theorem zcz {T:List Keyed}{a b out:Array Keyed}{na nb:Nat}(mg:Mg (geF f) T out.toList (a.toList.take na).reverse (b.toList.take nb).reverse)(e:na=0\/nb=0):zbm (leF f) T (a.extract 0 na++b.extract 0 nb++out.reverse).toList:=by
 rw [Array.toList_append,Array.toList_append,zay,zay,Array.toList_reverse]
 rcases e with rfl | rfl
 ·have t:=zci (Mg.doneB (by simpa using mg))
  simpa using t
 ·have t:=zci (Mg.doneA (by simpa using mg))
  simpa using t
theorem zhp (R:zap M A s κ L0 f){a b:Array Keyed}(ha:∀ x∈a,x∈L0)(hb:∀ x∈b,x∈L0)(sa:a.toList.Pairwise (leF f))(sb:b.toList.Pairwise (leF f))(na:1<=a.size)(nb:1<=b.size)
  (hf:∀ x∈a,∀ y,b[0]?=some y->f y<=f x) (hl:∀ x∈b,∀ y,a[a.size - 1]?=some y->f x<=f y) {st:SortSt} (hk:kindOf st=κ) {Q:Array Keyed->SortSt->Prop}
  (h:∀ out st',Like st st'->zbm (leF f) (a.toList++b.toList) out.toList->Q out st'):wpS M A E s (zio a b) Q st:=by
 refine wpS_bind (wpS_lift (wpAny_rule ⟨rfl,?_⟩))
 obtain ⟨y,y1,y2,y3⟩:=zfo na (Nat.le_refl _)
 refine wpS_bind (z8 y1 ?_)
 have m0:Mg (geF f) (a.toList++b.toList) (#[y]:Array Keyed).toList (a.toList.take (a.size - 1)).reverse (b.toList.take b.size).reverse:=by
  have ea:a.toList.take a.size=a.toList:=List.take_of_length_le (by simp)
  have eb:b.toList.take b.size=b.toList:=List.take_of_length_le (by simp)
  have h0:Mg (geF f) (a.toList++b.toList) [] ([y]++(a.toList.take (a.size - 1)).reverse) (b.toList.take b.size).reverse:=by
   have e:a.toList.reverse=[y]++(a.toList.take (a.size - 1)).reverse:=by rw [ea] at y3;exact y3
   rw [<- e,eb]
   exact ⟨(List.reverse_perm _).append (List.reverse_perm _),.nil,fun _ hx=>by simp at hx,List.pairwise_reverse.mpr sa,List.pairwise_reverse.mpr sb⟩
  exact h0.a fun x hx z hz=>by rw [List.mem_singleton.mp hx];exact hl z (by have:=List.mem_of_mem_take (List.mem_reverse.mp hz);simpa using this) y y1
 dsimp only
 by_cases e1:(a.size - 1==0)=true
 ·rw [if_pos e1]
  exact wpS_pure (h _ _ ⟨rfl,rfl,rfl,rfl⟩ (zcz m0 (.inl (eq_of_beq e1))))
 rw [if_neg e1]
 by_cases e2:(b.size==1)=true
 ·rw [if_pos e2]
  exact wpS_pure (h _ _ ⟨rfl,rfl,rfl,rfl⟩ (zbL m0 e2 nb hf))
 rw [if_neg e2]
 have e1':a.size - 1≠0:=fun z=>e1 (by rw [z];rfl)
 have e2':b.size≠1:=fun z=>e2 (by rw [z];rfl)
 refine wpS_bind (wpS_get ?_)
 refine wpS_bind (wpS_mono (wpS_forRange (I:=fun x c st'=>Like st st'/\∃ ia ib out g,c=(none,ia,ib,out,g)/\HiI f (a.toList++b.toList) a b out ia ib/\x+(ia+ib)+1<=a.size+b.size) (Q:=fun c st'=>Like st st'/\∃ r ia ib out g,c=(some r,ia,ib,out,g)/\zbm (leF f) (a.toList++b.toList) r.toList) ?_ ?_ ⟨⟨rfl,rfl,rfl,rfl⟩,_,_,_,_,rfl,⟨m0,by lia,by lia,by lia,by lia⟩,by lia⟩) ?_)
 ·rintro x c st1 _ hx ⟨l1,ia,ib,out,g,rfl,I,hp⟩
  dsimp only
  refine wpS_bind (wpS_mono (wpS_forRange (I:=fun x c st'=>Like st st'/\∃ ia' ib' out' ac bc,c=(none,ia',ib',out',ac,bc)/\HiI f (a.toList++b.toList) a b out' ia' ib'/\x+(ia'+ib')<=ia+ib)
   (Q:=fun c st'=>Like st st'/\((∃ r ia' ib' out' ac bc,c=(some r,ia',ib',out',ac,bc)/\zbm (leF f) (a.toList++b.toList) r.toList)\/∃ ia' ib' out' ac bc,c=(none,ia',ib',out',ac,bc)/\HiI f (a.toList++b.toList) a b out' ia' ib'/\ia'+ib'+1<=ia+ib)) ?_ ?_ ⟨l1,_,_,_,_,_,rfl,I,by lia⟩) ?_)
  ·rintro x2 c st2 _ hx2 ⟨l2,ia2,ib2,o2,ac,bc,rfl,I2,hp2⟩
   dsimp only
   have la:=I2.la
   have lb:=I2.lb
   have ma:=I2.ma
   have mb:=I2.mb
   obtain ⟨y,y1,y2,y3⟩:=zfo (a:=b) (n:=ib2) (by lia) mb
   obtain ⟨z,z1,z2,z3⟩:=zfo la ma
   refine wpS_bind (z8 y1 (wpS_bind (z8 z1 (wpS_bind (znH R (hb _ y2) (ha _ z2) (l2.kind.trans hk) ?_)))))
   have mg:=I2.mg
   by_cases hyz:f y<f z
   ·rw [decide_eq_true hyz]
    dsimp only
    rw [if_pos rfl]
    refine wpS_bind (z8 z1 ?_)
    have ub:=mg.ub
    rw [y3] at ub
    have ub:=List.pairwise_cons.mp ub
    have m2:Mg (geF f) (a.toList++b.toList) (o2.push z).toList (a.toList.take (ia2 - 1)).reverse (b.toList.take ib2).reverse:=by
     rw [z3] at mg
     rw [Array.toList_push]
     refine Mg.a (c:=[z]) mg fun x hx w hw=>?_
     rw [List.mem_singleton.mp hx]
     rw [y3] at hw
     show f w<=f z
     rcases List.mem_cons.mp hw with rfl | hw
     ·lia
     ·have h9:f w<=f y:=ub.1 w hw;lia
    by_cases e3:(ia2 - 1==0)=true
    ·rw [if_pos e3]
     exact wpS_pure ⟨l2,.inl ⟨_,_,_,_,_,_,rfl,zcz m2 (.inl (eq_of_beq e3))⟩⟩
    ·rw [if_neg e3]
     have e3':ia2 - 1≠0:=fun q=>e3 (by rw [q];rfl)
     split
     ·exact wpS_pure ⟨l2,.inr ⟨_,_,_,_,_,rfl,⟨m2,by lia,by lia,lb,mb⟩,by lia⟩⟩
     ·exact wpS_pure ⟨l2,_,_,_,_,_,rfl,⟨m2,by lia,by lia,lb,mb⟩,by lia⟩
   ·rw [decide_eq_false hyz]
    dsimp only
    rw [if_neg Bool.false_ne_true]
    refine wpS_bind (z8 y1 ?_)
    have ua:=mg.ua
    rw [z3] at ua
    have ua:=List.pairwise_cons.mp ua
    have m2:Mg (geF f) (a.toList++b.toList) (o2.push y).toList (a.toList.take ia2).reverse (b.toList.take (ib2 - 1)).reverse:=by
     rw [y3] at mg
     rw [Array.toList_push]
     refine Mg.b (c:=[y]) mg fun x hx w hw=>?_
     rw [List.mem_singleton.mp hx]
     rw [z3] at hw
     show f w<=f y
     rcases List.mem_cons.mp hw with rfl | hw
     ·lia
     ·have h9:f w<=f z:=ua.1 w hw;lia
    by_cases e3:(ib2 - 1==1)=true
    ·rw [if_pos e3]
     exact wpS_pure ⟨l2,.inl ⟨_,_,_,_,_,_,rfl,zbL m2 e3 nb hf⟩⟩
    ·rw [if_neg e3]
     have e3':ib2 - 1≠1:=fun q=>e3 (by rw [q];rfl)
     split
     ·exact wpS_pure ⟨l2,.inr ⟨_,_,_,_,_,rfl,⟨m2,la,ma,by lia,by lia⟩,by lia⟩⟩
     ·exact wpS_pure ⟨l2,_,_,_,_,_,rfl,⟨m2,la,ma,by lia,by lia⟩,by lia⟩
  ·rintro c st2 ⟨l2,ia2,ib2,o2,ac,bc,rfl,I2,hp2⟩
   have la:=I2.la
   have lb:=I2.lb
   lia
  ·rintro c st2 ⟨l2,⟨r,ia2,ib2,o2,ac,bc,rfl,ht⟩ | ⟨ia2,ib2,o2,ac,bc,rfl,I2,hp2⟩⟩
   ·exact wpS_pure ⟨l2,_,_,_,_,_,rfl,ht⟩
   dsimp only
   refine wpS_bind (wpS_lift (wpAny_rule ⟨rfl,?_⟩))
   refine wpS_bind (wpS_mono (wpS_forRange (I:=fun x c st'=>Like st st'/\∃ ia' ib' out' g ac bc,c=(none,ia',ib',out',g,ac,bc)/\HiI f (a.toList++b.toList) a b out' ia' ib'/\ia'+ib'<=ia2+ib2)
    (Q:=fun c st'=>Like st st'/\((∃ r ia' ib' out' g ac bc,c=(some r,ia',ib',out',g,ac,bc)/\zbm (leF f) (a.toList++b.toList) r.toList)\/∃ ia' ib' out' g ac bc,c=(none,ia',ib',out',g,ac,bc)/\HiI f (a.toList++b.toList) a b out' ia' ib'/\ia'+ib'<=ia2+ib2)) ?_ ?_ ⟨l2,_,_,_,_,_,_,rfl,I2,Nat.le_refl _⟩) ?_)
   ·rintro x3 c st3 _ hx3 ⟨l3,ia3,ib3,o3,g3,ac3,bc3,rfl,I3,hp3⟩
    dsimp only
    have la:=I3.la
    have lb:=I3.lb
    have ma:=I3.ma
    have mb:=I3.mb
    have mg:=I3.mg
    obtain ⟨y,y1,y2,y3⟩:=zfo (a:=b) (n:=ib3) (by lia) mb
    have ub:=mg.ub
    rw [y3] at ub
    have ub:=List.pairwise_cons.mp ub
    by_cases g0:g3 > 1
    case' pos=>rw [if_pos g0]
    case' neg=>rw [if_neg g0]
    all_goals
     refine wpS_bind (wpS_modify ?_)
     have lk:∀ g,Like st (SortSt.mk' (kindOf st3) (arrOf st3) (pendingOf st3) g (failedOf st3)):=fun g=>⟨l3.kind,l3.arr,l3.pend,l3.fail⟩
     refine wpS_bind (z8 y1 ?_)
     refine wpS_bind (zfm (left:=false) (base:=0) (n:=ia3) (hint:=ia3 - 1) R (hb _ y2) ha (by lia) (by lia) (sa.sublist ((List.take_sublist _ _).trans (List.drop_sublist _ _))) ((lk _).kind.trans hk) fun k k1 k2 k3=>?_)
     dsimp only
     rw [List.drop_zero] at k2 k3
     have h4:∀ w∈(a.toList.take k).reverse,f w<=f y:=fun w hw=>by
      have h5:=k2 w (List.mem_reverse.mp hw)
      unfold xj at h5
      rw [if_neg Bool.false_ne_true,Bool.not_eq_true',decide_eq_false_iff_not] at h5
      lia
     have m4:Mg (geF f) (a.toList++b.toList) (o3++(a.extract k ia3).reverse).toList (a.toList.take k).reverse (b.toList.take ib3).reverse:=by
      rw [Array.toList_append,zf6]
      refine Mg.a (by rw [zfS _ k1];exact mg) fun x hx w hw=>?_
      have h5:=k3 x (List.mem_reverse.mp hx)
      unfold xj at h5
      rw [if_neg Bool.false_ne_true,Bool.not_eq_false',decide_eq_true_eq] at h5
      rw [y3] at hw
      show f w<=f x
      rcases List.mem_cons.mp hw with rfl | hw
      ·lia
      ·have h9:f w<=f y:=ub.1 w hw;lia
     have q2:k<=a.size:=by lia
     have q5:k+ib3<=ia2+ib2:=by lia
     by_cases k0:ia3 - k > 0
     case' pos=>
      rw [if_pos k0]
      by_cases e4:(k==0)=true
      ·rw [if_pos e4]
       exact wpS_pure ⟨lk _,.inl ⟨_,_,_,_,_,_,_,rfl,zcz m4 (.inl (eq_of_beq e4))⟩⟩
      rw [if_neg e4]
      have e4':k≠0:=fun q=>e4 (by rw [q];rfl)
      have q1:1<=k:=by lia
      clear e4 e4' k1 k2 k3
      generalize o3++(a.extract k ia3).reverse=o4 at m4 ⊢
     case' neg=>
      rw [if_neg k0]
      have hk':k=ia3:=by lia
      subst hk'
      have q1:1<=k:=la
      clear m4
      have m4:=mg
      clear k1 k2 k3
      generalize ho:o3=o4 at m4 ⊢
     all_goals
      refine wpS_bind (z8 y1 ?_)
      have m5:Mg (geF f) (a.toList++b.toList) (o4.push y).toList (a.toList.take k).reverse (b.toList.take (ib3 - 1)).reverse:=by
       rw [y3] at m4
       rw [Array.toList_push]
       exact Mg.b (c:=[y]) m4 fun x hx w hw=>by rw [List.mem_singleton.mp hx];exact h4 w hw
      by_cases e6:(ib3 - 1==1)=true
      ·rw [if_pos e6]
       exact wpS_pure ⟨lk _,.inl ⟨_,_,_,_,_,_,_,rfl,zbL m5 e6 nb hf⟩⟩
      rw [if_neg e6]
      have e6':ib3 - 1≠1:=fun q=>e6 (by rw [q];rfl)
      obtain ⟨z,z1,z2,z3⟩:=zfo q1 q2
      refine wpS_bind (z8 z1 ?_)
      have ua:=m5.ua
      rw [z3] at ua
      have ua:=List.pairwise_cons.mp ua
      refine wpS_bind (zfm (left:=true) (base:=0) (n:=ib3 - 1) (hint:=ib3 - 1 - 1) R (ha _ z2) hb (by lia) (by lia) (sb.sublist ((List.take_sublist _ _).trans (List.drop_sublist _ _))) ((lk _).kind.trans hk) fun j j1 j2 j3=>?_)
      dsimp only
      rw [List.drop_zero] at j2 j3
      have h6:∀ w∈(b.toList.take j).reverse,f w<=f z:=fun w hw=>by
       have h5:=j2 w (List.mem_reverse.mp hw)
       unfold xj at h5
       rw [if_pos rfl,decide_eq_true_eq] at h5
       lia
      have m6:Mg (geF f) (a.toList++b.toList) (o4.push y++(b.extract j (ib3 - 1)).reverse).toList (a.toList.take k).reverse (b.toList.take j).reverse:=by
       rw [Array.toList_append,zf6]
       refine Mg.b (by rw [zfS _ j1];exact m5) fun x hx w hw=>?_
       have h5:=j3 x (List.mem_reverse.mp hx)
       unfold xj at h5
       rw [if_pos rfl,decide_eq_false_iff_not] at h5
       rw [z3] at hw
       show f w<=f x
       rcases List.mem_cons.mp hw with rfl | hw
       ·lia
       ·have h9:f w<=f z:=ua.1 w hw;lia
      by_cases j0:ib3 - 1 - j > 0
      case' pos=>
       rw [if_pos j0]
       by_cases e7:(j==1)=true
       ·rw [if_pos e7]
        exact wpS_pure ⟨lk _,.inl ⟨_,_,_,_,_,_,_,rfl,zbL m6 e7 nb hf⟩⟩
       rw [if_neg e7]
       by_cases e8:(j==0)=true
       ·rw [if_pos e8]
        exact wpS_pure ⟨lk _,.inl ⟨_,_,_,_,_,_,_,rfl,zcz m6 (.inr (eq_of_beq e8))⟩⟩
       rw [if_neg e8]
       have e7':j≠1:=fun q=>e7 (by rw [q];rfl)
       have e8':j≠0:=fun q=>e8 (by rw [q];rfl)
       have q3:2<=j:=by lia
       clear e7 e8 e7' e8' j2 j3
       generalize o4.push y++(b.extract j (ib3 - 1)).reverse=o5 at m6 ⊢
      case' neg=>
       rw [if_neg j0]
       have hj:j=ib3 - 1:=by lia
       have q3:2<=j:=by lia
       clear m6
       have m6:=m5
       rw [<- hj] at m6 ⊢
       clear j2 j3
       generalize o4.push y=o5 at m6 ⊢
      all_goals
       refine wpS_bind (z8 z1 ?_)
       have m7:Mg (geF f) (a.toList++b.toList) (o5.push z).toList (a.toList.take (k - 1)).reverse (b.toList.take j).reverse:=by
        rw [z3] at m6
        rw [Array.toList_push]
        exact Mg.a (c:=[z]) m6 fun x hx w hw=>by rw [List.mem_singleton.mp hx];exact h6 w hw
       by_cases e9:(k - 1==0)=true
       ·rw [if_pos e9]
        exact wpS_pure ⟨lk _,.inl ⟨_,_,_,_,_,_,_,rfl,zcz m7 (.inl (eq_of_beq e9))⟩⟩
       rw [if_neg e9]
       have e9':k - 1≠0:=fun q=>e9 (by rw [q];rfl)
       split
       ·exact wpS_pure ⟨lk _,.inr ⟨_,_,_,_,_,_,rfl,⟨m7,by lia,by lia,q3,by lia⟩,by lia⟩⟩
       ·exact wpS_pure ⟨lk _,_,_,_,_,_,_,rfl,⟨m7,by lia,by lia,q3,by lia⟩,by lia⟩
   ·rintro c st3 ⟨l3,ia3,ib3,o3,g3,ac3,bc3,rfl,I3,hp3⟩
    exact ⟨l3,.inr ⟨_,_,_,_,_,_,rfl,I3,hp3⟩⟩
   ·rintro c st3 ⟨l3,⟨r,ia3,ib3,o3,g3,ac3,bc3,rfl,ht⟩ | ⟨ia3,ib3,o3,g3,ac3,bc3,rfl,I3,hp3⟩⟩
    ·exact wpS_pure ⟨l3,_,_,_,_,_,rfl,ht⟩
    ·dsimp only
     exact wpS_bind (wpS_modify (wpS_pure ⟨⟨l3.kind,l3.arr,l3.pend,l3.fail⟩,_,_,_,_,rfl,I3,by lia⟩))
 ·rintro c st1 ⟨l1,ia,ib,out,g,rfl,I,hp⟩
  have:=I.la
  have:=I.lb
  lia
 ·rintro c st1 ⟨l1,r,ia,ib,out,g,rfl,ht⟩
  exact wpS_pure (h _ _ l1 ht)
end
def kA (f:Keyed->Int)(a:Array Keyed)(i:Nat):Int:=match a[i]? with | some x=>f x | none=>0
def Seg (f:Keyed->Int)(a:Array Keyed)(lo hi:Nat):Prop:=∀ i j,lo<=i->i<=j->j<hi->kA f a i<=kA f a j
def Gse (f:Keyed->Int)(a:Array Keyed)(lo hi:Nat):Prop:=∀ i j,lo<=i->i<=j->j<hi->kA f a j<=kA f a i
structure Lk (lo:Nat)(st st':SortSt):Prop where
 kind:kindOf st'=kindOf st
 pend:pendingOf st'=pendingOf st
 fail:failedOf st'=failedOf st
 perm:(arrOf st').Perm (arrOf st)
 low:∀ k,k<lo->(arrOf st')[k]?=(arrOf st)[k]?
section
variable {M:Model}{A:Around}{E:Value->Shared->Prop}{s:Shared}{κ:SortKind}{L0:List Keyed}{f:Keyed->Int}
theorem uJ {a b:Array Keyed}{i j:Nat}(h:a[i]?=b[j]?):kA f a i=kA f b j:=by unfold kA;rw [h]
theorem Lk.refl (lo:Nat)(st:SortSt):Lk lo st st:=⟨rfl,rfl,rfl,.refl _,fun _ _=>rfl⟩
theorem Lk.trans {lo:Nat}{st st' st'':SortSt}(h:Lk lo st st')(k:Lk lo st' st''):Lk lo st st'':=⟨k.kind.trans h.kind,k.pend.trans h.pend,k.fail.trans h.fail,k.perm.trans h.perm,fun i hi=>(k.low i hi).trans (h.low i hi)⟩
theorem Lk.size {lo:Nat}{st st':SortSt}(h:Lk lo st st'):(arrOf st').size=(arrOf st).size:=h.perm.size_eq
theorem Lk.mem {lo:Nat}{st st':SortSt}(h:Lk lo st st')(k:∀ x∈arrOf st,x∈L0):∀ x∈arrOf st',x∈L0:=fun x hx=>k x (h.perm.mem_iff.mp hx)
theorem zda (R:zap M A s κ L0 f){st:SortSt}{i j:Nat}(hk:kindOf st=κ)(ha:∀ x∈arrOf st,x∈L0)(hi:i<(arrOf st).size)(hj:j<(arrOf st).size){Q:Option Bool->SortSt->Prop}(h:Q (some (decide (kA f (arrOf st) i<kA f (arrOf st) j))) st):wpS M A E s (ltAt' i j) Q st:=by
 rw [ltAt'_eq]
 refine wpS_bind (wpS_get ?_)
 have ei:(arrOf st)[i]?=some (arrOf st)[i]:=Array.getElem?_eq_getElem hi
 have ej:(arrOf st)[j]?=some (arrOf st)[j]:=Array.getElem?_eq_getElem hj
 refine wpS_bind (z8 ei (wpS_bind (z8 ej (znH R (ha _ (Array.getElem_mem _)) (ha _ (Array.getElem_mem _)) hk ?_))))
 unfold kA at h
 rw [ei,ej] at h
 exact h
theorem ziY {st:SortSt}{i j:Nat}{Q:Unit->SortSt->Prop}(h:Q () (setArr st (mirror (arrOf st) i j ((j - i) / 2)))):wpS M A E s (reverseSlice' i j) Q st:=by
 rw [reverseSlice'_eq]
 exact wpS_modify h
theorem Lk.rev {lo:Nat}(st:SortSt){i j:Nat}(h1:lo<=i)(h2:j<=(arrOf st).size):Lk lo st (setArr st (mirror (arrOf st) i j ((j - i) / 2))):=⟨rfl,rfl,rfl,mirror_perm _ _ _ _,fun k hk=>by
 show (mirror (arrOf st) i j ((j - i) / 2))[k]?=_
 rw [getElem?_mirror_all h2,if_neg (by lia)]⟩
theorem zaV {a:Array Keyed}{i j:Nat}(h2:j<=a.size)(k:Nat):kA f (mirror a i j ((j - i) / 2)) k=if i<=k/\k<j then kA f a (i+j - 1 - k) else kA f a k:=by
 have e:=getElem?_mirror_all (i:=i) h2 k
 by_cases h:i<=k/\k<j
 ·rw [if_pos h] at e ⊢;exact uJ e
 ·rw [if_neg h] at e ⊢;exact uJ e
theorem xV {a:Array Keyed}{i j:Nat}(h2:j<=a.size)(h:∀ k,i<=k->k<j->kA f a k=kA f a (j - 1))(k:Nat):kA f (mirror a i j ((j - i) / 2)) k=kA f a k:=by
 rw [zaV h2]
 split
 ·rw [h _ (by lia) (by lia),h k (by lia) (by lia)]
 ·rfl
theorem Gse.turn {a:Array Keyed}{i j:Nat}(h2:j<=a.size)(h:Gse f a i j):Seg f (mirror a i j ((j - i) / 2)) i j:=fun p q h3 h4 h5=>by
 rw [zaV h2,zaV h2,if_pos ⟨h3,by lia⟩,if_pos ⟨by lia,h5⟩]
 exact h _ _ (by lia) (by lia) (by lia)
theorem zfl (R:zap M A s κ L0 f){st:SortSt}{lo nrem:Nat}(hk:kindOf st=κ)(ha:∀ x∈arrOf st,x∈L0)(h1:1<=nrem)(hz:lo+nrem<=(arrOf st).size){Q:Option Nat->SortSt->Prop}
  (h:∀ m st',Lk lo st st'->1<=m->m<=nrem->Seg f (arrOf st') lo (lo+m)->Q (some m) st'):wpS M A E s (countRun' lo nrem) Q st:=by
 rw [countRun'_eq]
 have asc:∀ (n:Nat) (st1:SortSt),Lk lo st st1->1<=n->n<=nrem->Seg f (arrOf st1) lo (lo+n)->∀ {G:Option (Option Nat)×Nat->SortSt->Prop} {body:Nat->Option (Option Nat)×Nat->StateT SortSt Sem (ForInStep (Option (Option Nat)×Nat))},
   (∀ m,n<=m->m<=nrem->Seg f (arrOf st1) lo (lo+m)->(m<nrem->kA f (arrOf st1) (lo+m)<kA f (arrOf st1) (lo+m - 1))->G (none,m) st1)->
   (∀ x m (G':ForInStep (Option (Option Nat)×Nat)->SortSt->Prop),n<=m->m<nrem->(kA f (arrOf st1) (lo+m)<kA f (arrOf st1) (lo+m - 1)->G' (.done (none,m)) st1)->(¬ kA f (arrOf st1) (lo+m)<kA f (arrOf st1) (lo+m - 1)->G' (.yield (none,m+1)) st1)->wpS M A E s (body x (none,m)) G' st1)->
   wpS M A E s (forIn [n:nrem] (none,n) body) G st1:=by
  intro n st1 l1 hn1 hn2 hs G body hG hb
  have hz1:=l1.size
  refine wpS_forRange (I:=fun x c st2=>st2=st1/\c=(none,x)/\n<=x/\Seg f (arrOf st1) lo (lo+x)) ?_ ?_ ⟨rfl,rfl,Nat.le_refl _,hs⟩
  ·rintro x c st2 hx1 hx2 ⟨rfl,rfl,_,hs2⟩
   refine hb x x _ hx1 hx2 (fun e=>hG x hx1 (by lia) hs2 fun _=>e) (fun e=>?_)
   ·refine ⟨rfl,rfl,by lia,fun i j p q r=>?_⟩
    by_cases e1:j<lo+x
    ·exact hs2 i j p q e1
    ·obtain rfl:j=lo+x:=by lia
     by_cases e2:i=lo+x
     ·subst e2;exact Int.le_refl _
     ·have:=hs2 i (lo+x - 1) p (by lia) (by lia)
      lia
  ·rintro c st2 ⟨rfl,rfl,_,hs2⟩
   have e:max n nrem=nrem:=by lia
   rw [e] at hs2 ⊢
   exact hG nrem hn2 (Nat.le_refl _) hs2 fun z=>by lia
 have step:∀ (st1:SortSt),Lk lo st st1->∀ m,1<=m->m<nrem->∀ (G':ForInStep (Option (Option Nat)×Nat)->SortSt->Prop),(kA f (arrOf st1) (lo+m)<kA f (arrOf st1) (lo+m - 1)->G' (.done (none,m)) st1)->(¬ kA f (arrOf st1) (lo+m)<kA f (arrOf st1) (lo+m - 1)->G' (.yield (none,m+1)) st1)->
   ∀ {k:Option Bool->StateT SortSt Sem (ForInStep (Option (Option Nat)×Nat))},k (some true)=pure (.done (none,m))->k (some false)=pure (.yield (none,m+1))->wpS M A E s (ltAt' (lo+m) (lo+m - 1) >>= k) G' st1:=by
  intro st1 l1 m h2 h3 G' g1 g2 k k1 k2
  have hz1:=l1.size
  refine wpS_bind (zda R (l1.kind.trans hk) (l1.mem ha) (by lia) (by lia) ?_)
  by_cases e:kA f (arrOf st1) (lo+m)<kA f (arrOf st1) (lo+m - 1)
  ·rw [decide_eq_true e,k1];exact wpS_pure (g1 e)
  ·rw [decide_eq_false e,k2];exact wpS_pure (g2 e)
 refine wpS_bind (asc 1 st (Lk.refl _ _) (Nat.le_refl _) h1 (fun i j p q r=>by rw [show i=j by lia];exact Int.le_refl _) (fun m hm1 hm2 hs hd=>?_) (fun x m G' q1 q2 g1 g2=>step st (Lk.refl _ _) m (by lia) q2 G' g1 g2 rfl rfl))
 have fall:∀ st1,Lk lo st st1->m<nrem->Gse f (arrOf st1) lo (lo+(m+1))->∀ {G:Option (Option Nat)×Nat×Nat->SortSt->Prop} {body:Nat->Option (Option Nat)×Nat×Nat->StateT SortSt Sem (ForInStep (Option (Option Nat)×Nat×Nat))},
   (∀ n q st2,Lk lo st st2->m+1<=n->n<=nrem->q+1<=n->Gse f (arrOf st2) lo (lo+n)->(∀ k,lo+n - (q+1)<=k->k<lo+n->kA f (arrOf st2) k=kA f (arrOf st2) (lo+n - 1))->G (none,n,q) st2)->
   (∀ x n q st2 (G':ForInStep (Option (Option Nat)×Nat×Nat)->SortSt->Prop),Lk lo st st2->m+1<=n->n<nrem->q+1<=n->
    (kA f (arrOf st2) (lo+n)<kA f (arrOf st2) (lo+n - 1)->q > 0->G' (.yield (none,n+1,0)) (setArr st2 (mirror (arrOf st2) (lo+n - (q+1)) (lo+n) ((lo+n - (lo+n - (q+1))) / 2))))->(kA f (arrOf st2) (lo+n)<kA f (arrOf st2) (lo+n - 1)->¬ q > 0->G' (.yield (none,n+1,0)) st2)->
    (kA f (arrOf st2) (lo+n - 1)<kA f (arrOf st2) (lo+n)->G' (.done (none,n,q)) st2)->(kA f (arrOf st2) (lo+n)=kA f (arrOf st2) (lo+n - 1)->G' (.yield (none,n+1,q+1)) st2)->wpS M A E s (body x (none,n,q)) G' st2)->
   wpS M A E s (forIn [m+1:nrem] (none,m+1,0) body) G st1:=by
  intro st1 l1 hmn hg G body hG hb
  refine wpS_forRange (I:=fun x c st2=>∃ q,c=(none,x,q)/\Lk lo st st2/\m+1<=x/\q+1<=x/\Gse f (arrOf st2) lo (lo+x)/\∀ k,lo+x - (q+1)<=k->k<lo+x->kA f (arrOf st2) k=kA f (arrOf st2) (lo+x - 1)) ?_ ?_ ⟨0,rfl,l1,Nat.le_refl _,by lia,hg,fun k p q=>by congr 1;lia⟩
  ·rintro x c st2 hx1 hx2 ⟨q,rfl,l2,p1,p2,p3,p4⟩
   have hz2:=l2.size
   have more:∀ st3:SortSt,(∀ k,kA f (arrOf st3) k=kA f (arrOf st2) k)->kA f (arrOf st2) (lo+x)<=kA f (arrOf st2) (lo+x - 1)->Gse f (arrOf st3) lo (lo+(x+1)):=fun st3 e3 hle i j a1 a2 a3=>by
    rw [e3,e3]
    by_cases e1:j<lo+x
    ·exact p3 i j a1 a2 e1
    ·obtain rfl:j=lo+x:=by lia
     by_cases e2:i=lo+x
     ·subst e2;exact Int.le_refl _
     ·have:=p3 i (lo+x - 1) a1 (by lia) (by lia)
      lia
   refine hb x x q st2 _ l2 p1 hx2 p2 (fun e hq=>?_) (fun e hq=>?_) (fun e=>?_) (fun e=>?_)
   ·have e3:∀ k,kA f (mirror (arrOf st2) (lo+x - (q+1)) (lo+x) ((lo+x - (lo+x - (q+1))) / 2)) k=kA f (arrOf st2) k:=xV (by lia) p4
    exact ⟨0,rfl,l2.trans (Lk.rev st2 (by lia) (by lia)),by lia,by lia,more _ e3 (by lia),fun k a1 a2=>by congr 1;lia⟩
   ·exact ⟨0,rfl,l2,by lia,by lia,more _ (fun _=>rfl) (by lia),fun k a1 a2=>by congr 1;lia⟩
   ·exact hG x q st2 l2 p1 (by lia) p2 p3 p4
   ·refine ⟨q+1,rfl,l2,by lia,by lia,more _ (fun _=>rfl) (by lia),fun k a1 a2=>?_⟩
    rw [show lo+(x+1) - 1=lo+x by lia]
    by_cases e1:k=lo+x
    ·rw [e1]
    ·rw [p4 k (by lia) (by lia),e]
  ·rintro c st2 ⟨q,rfl,l2,p1,p2,p3,p4⟩
   have e:max (m+1) nrem=nrem:=by lia
   rw [e] at p1 p2 p3 p4 ⊢
   exact hG nrem q st2 l2 p1 (Nat.le_refl _) p2 p3 p4
 dsimp only
 by_cases e1:(m==nrem)=true
 ·rw [if_pos e1]
  exact wpS_pure (h m st (Lk.refl _ _) hm1 hm2 hs)
 rw [if_neg e1]
 have e1':m<nrem:=by
  have:m≠nrem:=fun z=>e1 (by rw [z];exact beq_self_eq_true _)
  lia
 have hd:=hd e1'
 by_cases e2:m > 1
 case' pos=>
  rw [if_pos e2]
  refine wpS_bind (zda R hk ha (by lia) (by lia) ?_)
  by_cases e3:kA f (arrOf st) lo<kA f (arrOf st) (lo+m - 1)
  ·rw [decide_eq_true e3]
   exact wpS_pure (h m st (Lk.refl _ _) hm1 hm2 hs)
  rw [decide_eq_false e3]
  dsimp only
  rw [if_neg Bool.false_ne_true]
  refine wpS_bind (ziY ?_)
  have l1:=Lk.rev (lo:=lo) st (i:=lo) (j:=lo+m) (Nat.le_refl _) (by lia)
  have eq0:∀ k,lo<=k->k<lo+m->kA f (arrOf st) k=kA f (arrOf st) (lo+m - 1):=fun k a1 a2=>by
   have h3:=hs lo k (Nat.le_refl _) a1 a2
   have h4:=hs k (lo+m - 1) a1 (by lia) (by lia)
   lia
  have eq1:=xV (i:=lo) (by lia) eq0
  have g1:Gse f (mirror (arrOf st) lo (lo+m) ((lo+m - lo) / 2)) lo (lo+(m+1)):=fun i j a1 a2 a3=>by
   rw [eq1,eq1]
   by_cases ej:j<lo+m
   ·rw [eq0 j (by lia) ej,eq0 i a1 (by lia)]
    exact Int.le_refl _
   ·obtain rfl:j=lo+m:=by lia
    by_cases ei:i=lo+m
    ·rw [ei];exact Int.le_refl _
    ·rw [eq0 i a1 (by lia)];lia
  have g1:Gse f (arrOf (setArr st (mirror (arrOf st) lo (lo+m) ((lo+m - lo) / 2)))) lo (lo+(m+1)):=g1
  generalize setArr st (mirror (arrOf st) lo (lo+m) ((lo+m - lo) / 2))=st1 at l1 g1 ⊢
 case' neg=>
  rw [if_neg e2]
  obtain ⟨st1,l1,g1,hst⟩:∃ st1,Lk lo st st1/\Gse f (arrOf st1) lo (lo+(m+1))/\st1=st:=⟨st,Lk.refl _ _,fun i j a1 a2 a3=>by
   by_cases e:i=j
   ·rw [e];exact Int.le_refl _
   ·rw [show i=lo+m - 1 by lia,show j=lo+m by lia];lia,rfl⟩
  rw [<- hst]
 all_goals
  refine wpS_bind (wpS_lift (wpAny_rule ⟨rfl,?_⟩))
  refine wpS_bind (fall st1 l1 e1' g1 (fun n q st2 l2 n1 n2 q1 g2 g3=>?_) (fun x n q st2 G' l2 n1 n2 q1 b1 b2 b3 b4=>?_))
  ·dsimp only
   have hz2:=l2.size
   by_cases e4:q > 0
   case' pos=>
    rw [if_pos e4]
    refine wpS_bind (ziY ?_)
    have l3:=l2.trans (Lk.rev (lo:=lo) st2 (i:=lo+n - (q+1)) (j:=lo+n) (by lia) (by lia))
    have eq3:=xV (i:=lo+n - (q+1)) (by lia) g3
    have g4:Gse f (arrOf (setArr st2 (mirror (arrOf st2) (lo+n - (q+1)) (lo+n) ((lo+n - (lo+n - (q+1))) / 2)))) lo (lo+n):=fun i j a1 a2 a3=>by
     have:=g2 i j a1 a2 a3
     rw [<- eq3 i,<- eq3 j] at this
     exact this
    generalize setArr st2 (mirror (arrOf st2) (lo+n - (q+1)) (lo+n) ((lo+n - (lo+n - (q+1))) / 2))=st3 at l3 g4 ⊢
   case' neg=>
    rw [if_neg e4]
    obtain ⟨st3,l3,g4,hst3⟩:∃ st3,Lk lo st st3/\Gse f (arrOf st3) lo (lo+n)/\st3=st2:=⟨st2,l2,g2,rfl⟩
    rw [<- hst3]
   all_goals
    refine wpS_bind (ziY ?_)
    have hz3:=l3.size
    have l4:=l3.trans (Lk.rev (lo:=lo) st3 (i:=lo) (j:=lo+n) (Nat.le_refl lo) (by lia))
    have g5:=Gse.turn (by lia) g4
    refine wpS_bind (asc n _ l4 (by lia) n2 g5 (fun m' a1 a2 a3 a4=>?_) (fun x m' G' q1 q2 c1 c2=>step _ l4 m' (by lia) q2 G' c1 c2 rfl rfl))
    exact wpS_pure (h m' _ l4 (by lia) a2 a3)
  ·dsimp only
   have hz2:=l2.size
   refine wpS_bind (zda R (l2.kind.trans hk) (l2.mem ha) (by lia) (by lia) ?_)
   by_cases e5:kA f (arrOf st2) (lo+n)<kA f (arrOf st2) (lo+n - 1)
   ·rw [decide_eq_true e5]
    dsimp only
    rw [if_pos rfl]
    by_cases e6:q > 0
    ·rw [if_pos e6]
     exact wpS_bind (ziY (wpS_pure (b1 e5 e6)))
    ·rw [if_neg e6]
     exact wpS_pure (b2 e5 e6)
   ·rw [decide_eq_false e5]
    dsimp only
    rw [if_neg Bool.false_ne_true]
    refine wpS_bind (zda R (l2.kind.trans hk) (l2.mem ha) (by lia) (by lia) ?_)
    by_cases e6:kA f (arrOf st2) (lo+n - 1)<kA f (arrOf st2) (lo+n)
    ·rw [decide_eq_true e6]
     exact wpS_pure (b3 e6)
    ·rw [decide_eq_false e6]
     exact wpS_pure (b4 (by lia))
theorem znI {st:SortSt}{i j:Nat}{Q:Unit->SortSt->Prop}(h:Q () (setArr st (bubble (arrOf st) i (i - j)))):wpS M A E s (moveDown' i j) Q st:=by
 rw [moveDown'_eq]
 exact wpS_modify h
theorem Lk.move {lo:Nat}(st:SortSt){i j:Nat}(h1:lo<=j)(h2:i<(arrOf st).size)(h3:j<=i):Lk lo st (setArr st (bubble (arrOf st) i (i - j))):=⟨rfl,rfl,rfl,bubble_perm _ _ _,fun k hk=>by
 show (bubble (arrOf st) i (i - j))[k]?=_
 rw [getElem?_bubble h2 _ (by lia),if_neg (by lia),if_neg (by lia)]⟩
theorem zcE {a:Array Keyed}{i j:Nat}(h2:i<a.size)(h3:j<=i)(k:Nat):kA f (bubble a i (i - j)) k=if k=j then kA f a i else if j<k/\k<=i then kA f a (k - 1) else kA f a k:=by
 have e:=getElem?_bubble h2 (i - j) (by lia) k
 rw [show i - (i - j)=j by lia] at e
 by_cases e1:k=j
 ·rw [if_pos e1] at e ⊢;exact uJ e
 ·rw [if_neg e1] at e ⊢
  by_cases e2:j<k/\k<=i
  ·rw [if_pos e2] at e ⊢;exact uJ e
  ·rw [if_neg e2] at e ⊢;exact uJ e
theorem zc9 (R:zap M A s κ L0 f){st:SortSt}{lo n ok:Nat}(hk:kindOf st=κ)(ha:∀ x∈arrOf st,x∈L0)(h1:ok<=n)(hn:1<=n)(hz:lo+n<=(arrOf st).size)(hs:Seg f (arrOf st) lo (lo+ok)){Q:Bool->SortSt->Prop}
  (h:∀ st',Lk lo st st'->Seg f (arrOf st') lo (lo+n)->Q true st'):wpS M A E s (binarySort' lo n ok) Q st:=by
 rw [binarySort'_eq]
 refine wpS_bind (wpS_mono (wpS_forRange (I:=fun x c st'=>c=(none,())/\Lk lo st st'/\Seg f (arrOf st') lo (lo+x)) (Q:=fun c st'=>c=(none,())/\Lk lo st st'/\Seg f (arrOf st') lo (lo+n)) ?_ ?_ ⟨rfl,Lk.refl _ _,?_⟩) ?_)
 ·rintro k c st1 hk1 hk2 ⟨rfl,l1,s1⟩
  have hz1:=l1.size
  dsimp only
  refine wpS_bind (wpS_mono (wpS_forRange (I:=fun x c st'=>st'=st1/\∃ l r,c=(none,l,r)/\l<=r/\r<=k/\(∀ i,i<l->kA f (arrOf st1) (lo+i)<=kA f (arrOf st1) (lo+k))/\(∀ i,r<=i->i<k->kA f (arrOf st1) (lo+k)<kA f (arrOf st1) (lo+i))/\r - l+x<=k)
   (Q:=fun c st'=>st'=st1/\∃ l,c=(none,l,l)/\l<=k/\(∀ i,i<l->kA f (arrOf st1) (lo+i)<=kA f (arrOf st1) (lo+k))/\(∀ i,l<=i->i<k->kA f (arrOf st1) (lo+k)<kA f (arrOf st1) (lo+i))) ?_ ?_ ⟨rfl,0,k,rfl,by lia,by lia,fun i hi=>by lia,fun i a1 a2=>by lia,by lia⟩) ?_)
  ·rintro x c st2 _ hx ⟨rfl,l,r,rfl,p1,p2,p3,p4,p5⟩
   dsimp only
   by_cases e:l ≥ r
   ·rw [if_pos e]
    obtain rfl:l=r:=by lia
    exact wpS_pure ⟨rfl,l,rfl,p2,p3,p4⟩
   ·rw [if_neg e]
    refine wpS_bind (zda R (l1.kind.trans hk) (l1.mem ha) (by lia) (by lia) ?_)
    by_cases e2:kA f (arrOf st2) (lo+k)<kA f (arrOf st2) (lo+(l+r) / 2)
    ·rw [decide_eq_true e2]
     refine wpS_pure ⟨rfl,l,(l+r) / 2,rfl,by lia,by lia,p3,fun i a1 a2=>?_,by lia⟩
     have:=s1 (lo+(l+r) / 2) (lo+i) (by lia) (by lia) (by lia)
     lia
    ·rw [decide_eq_false e2]
     refine wpS_pure ⟨rfl,(l+r) / 2+1,r,rfl,by lia,p2,fun i a1=>?_,p4,by lia⟩
     have:=s1 (lo+i) (lo+(l+r) / 2) (by lia) (by lia) (by lia)
     lia
  ·rintro c st2 ⟨rfl,l,r,rfl,p1,p2,p3,p4,p5⟩
   obtain rfl:l=r:=by lia
   exact ⟨rfl,l,rfl,p2,p3,p4⟩
  ·rintro c st2 ⟨rfl,l,rfl,p2,p3,p4⟩
   dsimp only
   refine wpS_bind (znI (wpS_pure ⟨rfl,l1.trans (Lk.move st2 (by lia) (by lia) (by lia)),fun i j a1 a2 a3=>?_⟩))
   show kA f (bubble (arrOf st2) (lo+k) (lo+k - (lo+l))) i<=kA f (bubble (arrOf st2) (lo+k) (lo+k - (lo+l))) j
   rw [zcE (by lia) (by lia),zcE (by lia) (by lia)]
   have up:=fun x y b1 b2 b3=>s1 x y b1 b2 b3
   by_cases ei:i=lo+l
   ·rw [if_pos ei]
    by_cases ej:j=lo+l
    ·rw [if_pos ej];exact Int.le_refl _
    ·rw [if_neg ej,if_pos ⟨by lia,by lia⟩]
     have:=p4 (j - 1 - lo) (by lia) (by lia)
     rw [show lo+(j - 1 - lo)=j - 1 by lia] at this
     lia
   ·rw [if_neg ei]
    by_cases ei2:lo+l<i/\i<=lo+k
    ·rw [if_pos ei2,if_neg (by lia),if_pos ⟨by lia,by lia⟩]
     exact s1 _ _ (by lia) (by lia) (by lia)
    ·rw [if_neg ei2]
     by_cases ej:j=lo+l
     ·rw [if_pos ej]
      have:=p3 (i - lo) (by lia)
      rw [show lo+(i - lo)=i by lia] at this
      exact this
     ·rw [if_neg ej]
      by_cases ej2:lo+l<j/\j<=lo+k
      ·rw [if_pos ej2]
       exact s1 _ _ (by lia) (by lia) (by lia)
      ·rw [if_neg ej2]
       exact s1 _ _ (by lia) (by lia) (by lia)
 ·rintro c st1 ⟨rfl,l1,s1⟩
  have e:max (max ok 1) n=n:=by lia
  rw [e] at s1
  exact ⟨rfl,l1,s1⟩
 ·by_cases e:1<=ok
  ·rw [show max ok 1=ok by lia];exact hs
  ·intro i j a1 a2 a3
   rw [show i=j by lia]
   exact Int.le_refl _
 ·rintro c st1 ⟨rfl,l1,s1⟩
  exact wpS_pure (h st1 l1 s1)
end
theorem zhC (base:Nat):∀ (l:List Keyed) (n:Nat) (a:Array Keyed),base+n+l.length<=a.size->((l.zipIdx n).foldl (fun a (p:Keyed×Nat)=>a.setIfInBounds (base+p.2) p.1) a).toList=a.toList.take (base+n)++(l++a.toList.drop (base+n+l.length))
 | [],n,a,_=>by simp
 | p::l,n,a,h=>by
  rw [List.length_cons] at h
  rw [List.zipIdx_cons,List.foldl_cons,zhC base l (n+1) _ (by rw [Array.size_setIfInBounds];lia),Array.toList_setIfInBounds,List.set_eq_take_append_cons_drop,if_pos (by rw [Array.length_toList];lia)]
  have e:a.toList.take (base+n)++p::a.toList.drop (base+n+1)=(a.toList.take (base+n)++[p])++a.toList.drop (base+n+1):=by simp
  have hl:(a.toList.take (base+n)++[p]).length=base+n+1:=by simp;lia
  show List.take (base+(n+1)) (a.toList.take (base+n)++p::a.toList.drop (base+n+1))++(l++List.drop (base+(n+1)+l.length) (a.toList.take (base+n)++p::a.toList.drop (base+n+1)))=_
  rw [e,List.take_left' (by rw [hl];lia),<- List.drop_drop,List.drop_left' (by rw [hl];lia),List.drop_drop,List.length_cons]
  rw [List.append_assoc,show base+n+1+l.length=base+n+(l.length+1) by lia]
  rfl
theorem zh3 {P A S:List Keyed}{n:Nat}(h:P.length=n):(P++(A++S)).drop n=A++S:=List.drop_left' h
theorem uD {P A S:List Keyed}{n m:Nat}(h:P.length=n)(k:A.length=m):((P++(A++S)).drop n).take m=A:=by rw [zh3 h,List.take_left' k]
section
variable {M:Model}{A:Around}{E:Value->Shared->Prop}{s:Shared}{κ:SortKind}{L0:List Keyed}{f:Keyed->Int}
theorem zf5 {a:Array Keyed}{P X S:List Keyed}{i j:Nat}(e:a.toList=P++(X++S))(h:P.length=i)(k:X.length+i=j):(a.extract i j).toList=X:=by
 have:(a.extract i j).toList=(a.toList.drop i).take (j - i):=by simp
 rw [this,e,uD h (by lia)]
theorem zjb {a:Array Keyed}{P S:List Keyed}{x:Keyed}{i:Nat}(e:a.toList=P++x::S)(h:P.length=i):a[i]?=some x:=by
 rw [<- Array.getElem?_toList,e,<- h,List.getElem?_append_right (Nat.le_refl _)]
 simp
theorem zi4 {st st':SortSt}{Q:PUnit->SortSt->Prop}(h:Q ⟨⟩ st'):wpS M A E s (set st':StateT SortSt Sem PUnit) Q st:=by
 unfold wpS;rw [StateT.run_set];exact wpAny_pure ⟨rfl,h⟩
theorem zho (R:zap M A s κ L0 f){st:SortSt}{i:Nat}{pu pv:List (Nat×Nat×Nat)}{P U V S:List Keyed}{p1 p2:Nat}(hk:kindOf st=κ)(hfl:failedOf st=none)(ha:∀ x∈arrOf st,x∈L0)
  (harr:(arrOf st).toList=P++(U++(V++S))) (hpe:pendingOf st=(pu++(P.length,U.length,p1)::(P.length+U.length,V.length,p2)::pv).toArray) (hi:i=pu.length) (nu:U≠[]) (nv:V≠[]) (su:U.Pairwise (leF f)) (sv:V.Pairwise (leF f)) {Q:Bool->SortSt->Prop}
  (h:∀ (st':SortSt) (C:List Keyed),kindOf st'=κ->failedOf st'=none->(arrOf st').toList=P++(C++S)->C.Perm (U++V)->C.Pairwise (leF f)->pendingOf st'=(pu++(P.length,U.length+V.length,p1)::pv).toArray->Q true st'):wpS M A E s (mergeAt' i) Q st:=by
 subst hi
 refine wpS_bind (wpS_get ?_)
 have g1:(pendingOf st)[pu.length]?=some (P.length,U.length,p1):=by rw [hpe];simp
 have g2:(pendingOf st)[pu.length+1]?=some (P.length+U.length,V.length,p2):=by rw [hpe];simp
 have g3:((pendingOf st).setIfInBounds pu.length (P.length,U.length+V.length,p1)).eraseIdxIfInBounds (pu.length+1)=(pu++(P.length,U.length+V.length,p1)::pv).toArray:=by
  rw [hpe]
  simp [List.eraseIdx_append_of_length_le]
 rw [g1,g2]
 dsimp only
 refine wpS_bind (zi4 ?_)
 rw [g3]
 obtain ⟨y,V',rfl⟩:∃ y V',V=y::V':=by
  cases V with
  | nil=>exact absurd rfl nv
  | cons y V'=>exact ⟨y,V',rfl⟩
 obtain ⟨U',z,rfl⟩:∃ U' z,U=U'++[z]:=⟨U.dropLast,U.getLast nu,(List.dropLast_concat_getLast nu).symm⟩
 have hy:(arrOf st)[P.length+(U'++[z]).length]?=some y:=zjb (P:=P++(U'++[z])) (S:=V'++S) (by rw [harr];simp) (by simp)
 have hz:(arrOf st)[P.length+(U'++[z]).length - 1]?=some z:=zjb (P:=P++U') (S:=y::V'++S) (by rw [harr];simp) (by simp)
 have hsz:(arrOf st).size=P.length+((U'++[z]).length+((y::V').length+S.length)):=by rw [<- Array.length_toList,harr];simp only [List.length_append]
 have inU:∀ x∈U'++[z],x∈L0:=fun x hx=>ha x (by rw [<- Array.mem_toList_iff,harr];simp only [List.mem_append] at hx ⊢;rcases hx with hx | hx <;> simp [hx])
 have inV:∀ x∈y::V',x∈L0:=fun x hx=>ha x (by rw [<- Array.mem_toList_iff,harr];exact List.mem_append_right _ (List.mem_append_right _ (List.mem_append_left _ hx)))
 have cu:((arrOf st).toList.drop P.length).take (U'++[z]).length=U'++[z]:=by rw [harr];exact uD rfl rfl
 have cv:((arrOf st).toList.drop (P.length+(U'++[z]).length)).take (y::V').length=y::V':=by rw [harr,<- List.append_assoc];exact uD (by simp) rfl
 have hV:∀ w∈y::V',f y<=f w:=fun w hw=>by
  rcases List.mem_cons.mp hw with rfl | hw
  ·exact Int.le_refl _
  ·exact (List.pairwise_cons.mp sv).1 w hw
 have hU:∀ w∈U'++[z],f w<=f z:=fun w hw=>by
  rcases List.mem_append.mp hw with hw | hw
  ·exact (List.pairwise_append.mp su).2.2 w hw z (by simp)
  ·rw [List.mem_singleton.mp hw];exact Int.le_refl _
 generalize hUe:U'++[z]=U at *
 generalize hVe:y::V'=V at *
 have yV:y∈V:=by rw [<- hVe];exact List.mem_cons_self
 have zU:z∈U:=by rw [<- hUe];simp
 have nu1:1<=U.length:=by rw [<- hUe];simp
 have nv1:1<=V.length:=by rw [<- hVe];simp
 have hk1:kindOf (SortSt.mk' (kindOf st) (arrOf st) (pu++(P.length,U.length+V.length,p1)::pv).toArray (gallopOf st) (failedOf st))=κ:=hk
 refine wpS_bind (z8 hy ?_)
 refine wpS_bind (zfm (left:=false) (base:=P.length) (n:=U.length) (hint:=0) R (inV _ yV) ha (by lia) (by lia) (by rw [cu];exact su) hk1 fun k k1 k2 k3=>?_)
 dsimp only
 have k2':∀ x∈U.take k,f x<=f y:=fun x hx=>by
  have h5:=k2 x (by rw [<- cu,List.take_take,Nat.min_eq_left k1] at hx;exact hx)
  unfold xj at h5
  rw [if_neg Bool.false_ne_true,Bool.not_eq_true',decide_eq_false_iff_not] at h5
  lia
 have k3':∀ x∈U.drop k,f y<f x:=fun x hx=>by
  have h5:=k3 x (by rw [cu];exact hx)
  unfold xj at h5
  rw [if_neg Bool.false_ne_true,Bool.not_eq_false',decide_eq_true_eq] at h5
  exact h5
 clear k2 k3
 by_cases e1:(U.length - k==0)=true
 ·rw [if_pos e1]
  have e1:=eq_of_beq e1
  refine wpS_pure (h _ (U++V) hk hfl (by rw [List.append_assoc];exact harr) (List.Perm.refl _) (List.pairwise_append.mpr ⟨su,sv,fun a hx b hb=>?_⟩) rfl)
  have h6:=k2' a (by rw [List.take_of_length_le (by lia)];exact hx)
  have h7:=hV b hb
  show f a<=f b
  lia
 rw [if_neg e1]
 have e1':U.length - k≠0:=fun q=>e1 (by rw [q];rfl)
 rw [show P.length+k+(U.length - k) - 1=P.length+U.length - 1 by lia]
 refine wpS_bind (z8 hz ?_)
 refine wpS_bind (zfm (left:=true) (base:=P.length+U.length) (n:=V.length) (hint:=V.length - 1) R (inU _ zU) ha (by lia) (by lia) (by rw [cv];exact sv) hk1 fun j j1 j2 j3=>?_)
 dsimp only
 have j2':∀ x∈V.take j,f x<f z:=fun x hx=>by
  have h5:=j2 x (by rw [<- cv,List.take_take,Nat.min_eq_left j1] at hx;exact hx)
  unfold xj at h5
  rw [if_pos rfl,decide_eq_true_eq] at h5
  exact h5
 have j3':∀ x∈V.drop j,f z<=f x:=fun x hx=>by
  have h5:=j3 x (by rw [cv];exact hx)
  unfold xj at h5
  rw [if_pos rfl,decide_eq_false_iff_not] at h5
  lia
 clear j2 j3
 by_cases e2:(j==0)=true
 ·rw [if_pos e2]
  have e2:=eq_of_beq e2
  subst e2
  refine wpS_pure (h _ (U++V) hk hfl (by rw [List.append_assoc];exact harr) (List.Perm.refl _) (List.pairwise_append.mpr ⟨su,sv,fun a hx b hb=>?_⟩) rfl)
  have h6:=j3' b hb
  have h7:=hU a hx
  show f a<=f b
  lia
 rw [if_neg e2]
 have e2':j≠0:=fun q=>e2 (by rw [q];rfl)
 have ex:((arrOf st).extract (P.length+k) (P.length+U.length)).toList=U.drop k:=zf5 (P:=P++U.take k) (S:=V++S) (by rw [harr,List.append_assoc,<- List.append_assoc (U.take k),List.take_append_drop]) (by simp;lia) (by simp;lia)
 have ey:((arrOf st).extract (P.length+U.length) (P.length+U.length+j)).toList=V.take j:=zf5 (P:=P++U) (S:=V.drop j++S) (by rw [harr,<- List.append_assoc (V.take j),List.take_append_drop,List.append_assoc]) (by simp) (by simp;lia)
 generalize hX:(arrOf st).extract (P.length+k) (P.length+U.length)=X at ex ⊢
 generalize hY:(arrOf st).extract (P.length+U.length) (P.length+U.length+j)=Y at ey ⊢
 have szX:X.size=U.length - k:=by rw [<- Array.length_toList,ex];simp
 have szY:Y.size=j:=by rw [<- Array.length_toList,ey];simp;lia
 have mX:∀ x∈X,x∈U.drop k:=fun x hx=>by rw [<- ex];exact Array.mem_toList_iff.mpr hx
 have mY:∀ x∈Y,x∈V.take j:=fun x hx=>by rw [<- ey];exact Array.mem_toList_iff.mpr hx
 have hf1:∀ x∈X,∀ w,Y[0]?=some w->f w<=f x:=fun x hx w hw=>by
  have h8:w=y:=by
   rw [<- Array.getElem?_toList,ey,List.getElem?_take_of_lt (by lia),<- hVe] at hw
   exact (Option.some.inj hw).symm
  have:=k3' x (mX x hx)
  rw [h8];lia
 have hl1:∀ x∈Y,∀ w,X[X.size - 1]?=some w->f x<=f w:=fun x hx w hw=>by
  have h8:w=z:=by
   have ul:U.length=U'.length+1:=by rw [<- hUe];simp
   rw [<- Array.getElem?_toList,ex,List.getElem?_drop,szX,show k+(U.length - k - 1)=U'.length by lia,<- hUe] at hw
   simpa using hw.symm
  have:=j2' x (mY x hx)
  rw [h8];lia
 have fin:∀ (out:Array Keyed),zbm (leF f) (X.toList++Y.toList) out.toList->(U.take k++(out.toList++V.drop j)).Perm (U++V)/\(U.take k++(out.toList++V.drop j)).Pairwise (leF f)/\(out.toList.zipIdx.foldl (fun a (p:Keyed×Nat)=>a.setIfInBounds (P.length+k+p.2) p.1) (arrOf st)).toList=P++((U.take k++(out.toList++V.drop j))++S):=fun out tl=>by
  rw [ex,ey] at tl
  have tlen:out.toList.length=U.length - k+j:=by rw [tl.1.length_eq];simp;lia
  refine ⟨?_,?_,?_⟩
  ·have h9:(U.take k++(out.toList++V.drop j)).Perm (U.take k++((U.drop k++V.take j)++V.drop j)):=(tl.1.append_right _).append_left _
   have h10:U.take k++((U.drop k++V.take j)++V.drop j)=U++V:=by rw [List.append_assoc (U.drop k),List.take_append_drop,<- List.append_assoc,List.take_append_drop]
   rw [h10] at h9
   exact h9
  ·have pu:=List.pairwise_append.mp (by rw [List.take_append_drop];exact su:(U.take k++U.drop k).Pairwise (leF f))
   have pv:=List.pairwise_append.mp (by rw [List.take_append_drop];exact sv:(V.take j++V.drop j).Pairwise (leF f))
   refine List.pairwise_append.mpr ⟨pu.1,List.pairwise_append.mpr ⟨tl.2,pv.2.1,fun a h1 b h2=>?_⟩,fun a h1 b h2=>?_⟩
   ·rcases List.mem_append.mp (tl.1.mem_iff.mp h1) with h1 | h1
    ·have q1:=hU a (List.mem_of_mem_drop h1)
     have q2:=j3' b h2
     show f a<=f b
     lia
    ·exact pv.2.2 a h1 b h2
   ·have q1:=k2' a h1
    show f a<=f b
    rcases List.mem_append.mp h2 with h2 | h2
    ·rcases List.mem_append.mp (tl.1.mem_iff.mp h2) with h2 | h2
     ·exact pu.2.2 a h1 b h2
     ·have q2:=hV b (List.mem_of_mem_take h2)
      lia
    ·have q2:=hV b (List.mem_of_mem_drop h2)
     lia
  ·have h9:=zhC (P.length+k) out.toList 0 (arrOf st) (by lia)
   rw [Nat.add_zero] at h9
   rw [h9,harr]
   have q1:P++(U++(V++S))=(P++U.take k)++(U.drop k++(V++S)):=by rw [List.append_assoc,<- List.append_assoc (U.take k),List.take_append_drop]
   have q2:P++(U++(V++S))=(P++(U++V.take j))++(V.drop j++S):=by rw [List.append_assoc,List.append_assoc,<- List.append_assoc (V.take j),List.take_append_drop]
   have q3:List.take (P.length+k) (P++(U++(V++S)))=P++U.take k:=by rw [q1];exact List.take_left' (by simp;lia)
   have q4:List.drop (P.length+k+out.toList.length) (P++(U++(V++S)))=V.drop j++S:=by rw [q2,tlen];exact List.drop_left' (by simp;lia)
   rw [q3,q4]
   simp
 have inX:∀ x∈X,x∈L0:=fun x hx=>inU x (List.mem_of_mem_drop (mX x hx))
 have inY:∀ x∈Y,x∈L0:=fun x hx=>inV x (List.mem_of_mem_take (mY x hx))
 have sX:X.toList.Pairwise (leF f):=by rw [ex];exact su.sublist (List.drop_sublist _ _)
 have sY:Y.toList.Pairwise (leF f):=by rw [ey];exact sv.sublist (List.take_sublist _ _)
 by_cases e3:U.length - k<=j
 case' pos=>
  rw [if_pos e3]
  refine wpS_bind (zhq R inX inY sX sY (by lia) (by lia) hf1 hl1 hk1 fun out st' lk tl=>?_)
 case' neg=>
  rw [if_neg e3]
  refine wpS_bind (zhp R inX inY sX sY (by lia) (by lia) hf1 hl1 hk1 fun out st' lk tl=>?_)
 all_goals
  obtain ⟨r1,r2,r3⟩:=fin out tl
  have lk2:arrOf st'=arrOf st:=lk.arr
  have lk3:failedOf st'=none:=lk.fail.trans hfl
  refine wpS_bind (wpS_modify (wpS_bind (wpS_get ?_)))
  have h9:=h (SortSt.mk' (kindOf st') (out.toList.zipIdx.foldl (fun a (p:Keyed×Nat)=>a.setIfInBounds (P.length+k+p.2) p.1) (arrOf st')) (pendingOf st') (gallopOf st') (failedOf st')) _ (lk.kind.trans hk) lk3 (by rw [<- r3,<- lk2]) r1 r2 lk.pend
  refine wpS_pure ?_
  show Q (failedOf st').isNone _
  rw [lk3]
  exact h9
end
def zaD:Nat->List (List Keyed×Nat)->List (Nat×Nat×Nat)
 | _,[]=>[]
 | s,(l,p)::r=>(s,l.length,p)::zaD (s+l.length) r
def zG (rs:List (List Keyed×Nat)):List Keyed:=rs.flatMap (·.1)
theorem zy (r:List Keyed×Nat)(v:List (List Keyed×Nat)):zG (r::v)=r.1++zG v:=by simp [zG]
theorem yg (u v:List (List Keyed×Nat)):zG (u++v)=zG u++zG v:=by simp [zG]
theorem xD:∀ (u v:List (List Keyed×Nat)) (s:Nat),zaD s (u++v)=zaD s u++zaD (s+(zG u).length) v
 | [],v,s=>by simp [zaD,zG]
 | (l,p)::u,v,s=>by
  rw [List.cons_append,zaD,zaD,xD u v,zy,List.length_append,Nat.add_assoc]
  rfl
theorem zaE:∀ (u:List (List Keyed×Nat)) (s:Nat),(zaD s u).length=u.length
 | [],_=>rfl
 | (l,p)::u,s=>by rw [zaD,List.length_cons,zaE u,List.length_cons]
structure SI (κ:SortKind)(f:Keyed->Int)(T:List Keyed)(rs:List (List Keyed×Nat))(z6:List Keyed)(st:SortSt):Prop where
 kind:kindOf st=κ
 fail:failedOf st=none
 arr:(arrOf st).toList=zG rs++z6
 perm:(zG rs++z6).Perm T
 pend:pendingOf st=(zaD 0 rs).toArray
 ne:∀ r∈rs,r.1≠[]
 up:∀ r∈rs,r.1.Pairwise (leF f)
section
variable {M:Model}{A:Around}{E:Value->Shared->Prop}{s:Shared}{κ:SortKind}{T:List Keyed}{f:Keyed->Int}
theorem SI.size {rs:List (List Keyed×Nat)}{z6:List Keyed}{st:SortSt}(h:SI κ f T rs z6 st):(arrOf st).size=T.length:=by
 rw [<- Array.length_toList,h.arr,h.perm.length_eq]
theorem SI.len {rs:List (List Keyed×Nat)}{z6:List Keyed}{st:SortSt}(h:SI κ f T rs z6 st):(zG rs).length+z6.length=T.length:=by
 rw [<- h.perm.length_eq,List.length_append]
theorem SI.mem {rs:List (List Keyed×Nat)}{z6:List Keyed}{st:SortSt}(h:SI κ f T rs z6 st):∀ x∈arrOf st,x∈T:=fun x hx=>h.perm.mem_iff.mp (by rw [<- h.arr];exact Array.mem_toList_iff.mpr hx)
theorem SI.psz {rs:List (List Keyed×Nat)}{z6:List Keyed}{st:SortSt}(h:SI κ f T rs z6 st):(pendingOf st).size=rs.length:=by
 rw [h.pend,List.size_toArray,zaE]
theorem t_mg (R:zap M A s κ T f){rs:List (List Keyed×Nat)}{z6:List Keyed}{st:SortSt}(h:SI κ f T rs z6 st){i:Nat}(hi:i+1<rs.length){Q:Bool->SortSt->Prop}(k:∀ rs' st',SI κ f T rs' z6 st'->rs'.length+1=rs.length->Q true st'):wpS M A E s (mergeAt' i) Q st:=by
 obtain ⟨u,U,p1,V,p2,v,rfl,hu⟩:∃ u U p1 V p2 v,rs=u++(U,p1)::(V,p2)::v/\i=u.length:=by
  refine ⟨rs.take i,rs[i].1,rs[i].2,rs[i+1].1,rs[i+1].2,rs.drop (i+2),?_,by simp;lia⟩
  have e1:rs.drop i=rs[i]::rs.drop (i+1):=List.drop_eq_getElem_cons (by lia)
  have e2:rs.drop (i+1)=rs[i+1]::rs.drop (i+2):=List.drop_eq_getElem_cons hi
  show rs=rs.take i++rs[i]::rs[i+1]::rs.drop (i+2)
  rw [<- e2,<- e1,List.take_append_drop]
 have harr:=h.arr
 have hpe:=h.pend
 rw [yg,zy,zy,List.append_assoc,List.append_assoc,List.append_assoc] at harr
 rw [xD,zaD,zaD,Nat.zero_add] at hpe
 refine zho R h.kind h.fail h.mem harr hpe (by rw [zaE];exact hu) (h.ne (U,p1) (by simp)) (h.ne (V,p2) (by simp)) (h.up (U,p1) (by simp)) (h.up (V,p2) (by simp)) fun st' C c1 c2 c3 c4 c5 c6=>k (u++(C,p1)::v) st' ⟨c1,c2,?_,?_,?_,?_,?_⟩ (by simp;lia)
 ·rw [yg,zy,List.append_assoc,List.append_assoc];exact c3
 ·refine List.Perm.trans ?_ h.perm
  rw [yg,yg,zy,zy,zy]
  refine List.Perm.append_right _ (List.Perm.append_left _ ?_)
  rw [<- List.append_assoc]
  exact c4.append_right _
 ·rw [c6,xD,zaD,Nat.zero_add,c4.length_eq,List.length_append,Nat.add_assoc]
 ·intro r hr
  rcases List.mem_append.mp hr with hr | hr
  ·exact h.ne r (by simp [hr])
  ·rcases List.mem_cons.mp hr with rfl | hr
   ·intro z
    have z:C=[]:=z
    have q:=c4.length_eq
    rw [z,List.length_append] at q
    have n1:U≠[]:=h.ne (U,p1) (by simp)
    have q:0=U.length+V.length:=q
    exact n1 (List.eq_nil_of_length_eq_zero (by lia))
   ·exact h.ne r (by simp [hr])
 ·intro r hr
  rcases List.mem_append.mp hr with hr | hr
  ·exact h.up r (by simp [hr])
  ·rcases List.mem_cons.mp hr with rfl | hr
   ·exact c5
   ·exact h.up r (by simp [hr])
theorem ziR {a:Array Keyed}{lo n:Nat}(h:Seg f a lo (lo+n))(hz:lo+n<=a.size):((a.toList.drop lo).take n).Pairwise (leF f):=by
 rw [List.pairwise_iff_getElem]
 intro i j hi hj hij
 have hj2:j<n:=by simp at hj;lia
 have:=h (lo+i) (lo+j) (by lia) (by lia) (by lia)
 unfold kA at this
 rw [Array.getElem?_eq_getElem (by lia),Array.getElem?_eq_getElem (by lia)] at this
 simpa [List.getElem_take,List.getElem_drop] using this
theorem SI.next {rs:List (List Keyed×Nat)}{z6:List Keyed}{st st':SortSt}(h:SI κ f T rs z6 st)(l:Lk (zG rs).length st st'){n:Nat}(hn:1<=n)(hz:(zG rs).length+n<=T.length)(sg:Seg f (arrOf st') (zG rs).length ((zG rs).length+n)) :
  ∃ L rest',SI κ f T rs (L++rest') st'/\L.length=n/\L.Pairwise (leF f)/\L≠[]:=by
 have hs:=h.size
 have hs2:=l.size
 have e1:(arrOf st').toList.take (zG rs).length=zG rs:=by
  have q:(arrOf st').toList.take (zG rs).length=(arrOf st).toList.take (zG rs).length:=by
   refine List.ext_getElem? fun i=>?_
   rw [List.getElem?_take,List.getElem?_take]
   split
   ·rename_i hi
    have:=l.low i hi
    rw [Array.getElem?_toList,Array.getElem?_toList]
    exact this
   ·rfl
  rw [q,h.arr,List.take_left' rfl]
 have e2:(arrOf st').toList=zG rs++(((arrOf st').toList.drop (zG rs).length).take n++(arrOf st').toList.drop ((zG rs).length+n)):=by
  have q:=List.take_append_drop (zG rs).length (arrOf st').toList
  rw [e1] at q
  rw [zfR]
  exact q.symm
 have hl:(((arrOf st').toList.drop (zG rs).length).take n).length=n:=by simp;lia
 refine ⟨_,_,⟨l.kind.trans h.kind,l.fail.trans h.fail,e2,?_,l.pend.trans h.pend,h.ne,h.up⟩,hl,ziR sg (by lia),fun z=>by rw [z] at hl;simp at hl;lia⟩
 rw [<- e2]
 have q:=l.perm.toList
 refine q.trans ?_
 rw [h.arr]
 exact h.perm
theorem SI.push {rs:List (List Keyed×Nat)}{L z6:List Keyed}{st:SortSt}(h:SI κ f T rs (L++z6) st)(hL:L≠[])(hs:L.Pairwise (leF f)){lo n:Nat}(h1:(zG rs).length=lo)(h2:L.length=n) :
  SI κ f T (rs++[(L,0)]) z6 (setPending st ((pendingOf st).push (lo,n,0))):=by
 have e:zG (rs++[(L,0)])++z6=zG rs++(L++z6):=by rw [yg,zy];simp [zG]
 refine ⟨h.kind,h.fail,by rw [e];exact h.arr,by rw [e];exact h.perm,?_,fun r hr=>?_,fun r hr=>?_⟩
 ·show (pendingOf st).push (lo,n,0)=_
  rw [h.pend,xD,zaD,zaD,Nat.zero_add,h1,h2]
  simp
 ·rcases List.mem_append.mp hr with hr | hr
  ·exact h.ne r hr
  ·rw [List.mem_singleton.mp hr];exact hL
 ·rcases List.mem_append.mp hr with hr | hr
  ·exact h.up r hr
  ·rw [List.mem_singleton.mp hr];exact hs
theorem SI.pow {rs:List (List Keyed×Nat)}{z6:List Keyed}{st:SortSt}(h:SI κ f T rs z6 st)(hn:1<=rs.length)(g:Nat×Nat×Nat->Nat×Nat×Nat)(pw:Nat)(hg:∀ a b c,g (a,b,c)=(a,b,pw)) :
  ∃ rs',SI κ f T rs' z6 (setPending st ((pendingOf st).modify ((pendingOf st).size - 1) g)):=by
 obtain ⟨u,U,p,rfl⟩:∃ u U p,rs=u++[(U,p)]:=by
  rcases List.eq_nil_or_concat rs with rfl | ⟨u,r,rfl⟩
  ·simp at hn
  ·exact ⟨u,r.1,r.2,by simp⟩
 have hfl:∀ q,zG (u++[(U,q)])=zG u++U:=fun q=>by rw [yg,zy];simp [zG]
 refine ⟨u++[(U,pw)],h.kind,h.fail,by rw [hfl,<- hfl p];exact h.arr,by rw [hfl,<- hfl p];exact h.perm,?_,fun r hr=>?_,fun r hr=>?_⟩
 ·show (pendingOf st).modify ((pendingOf st).size - 1) g=_
  rw [h.psz,h.pend,xD,xD,zaD,zaD,zaD,zaD,Nat.zero_add]
  apply Array.toList_inj.mp
  rw [Array.toList_modify]
  have e:(u++[(U,p)]).length - 1=(zaD 0 u).length:=by rw [zaE];simp
  rw [e]
  show List.modify (zaD 0 u++[((zG u).length,U.length,p)]) (zaD 0 u).length g=zaD 0 u++[((zG u).length,U.length,pw)]
  rw [List.modify_eq_take_cons_drop (by simp)]
  simp [hg]
 ·rcases List.mem_append.mp hr with hr | hr
  ·exact h.ne r (by simp [hr])
  ·rw [List.mem_singleton.mp hr];exact h.ne (U,p) (by simp)
 ·rcases List.mem_append.mp hr with hr | hr
  ·exact h.up r (by simp [hr])
  ·rw [List.mem_singleton.mp hr];exact h.up (U,p) (by simp)
theorem zfn {st:SortSt}(R:zap M A s κ (arrOf st).toList f)(hk:kindOf st=κ)(hfl:failedOf st=none)(hp:pendingOf st = #[])(h2:1<=(arrOf st).size){Q:Unit->SortSt->Prop}
  (h:∀ st',failedOf st'=none->(arrOf st').toList.Perm (arrOf st).toList->(arrOf st').toList.Pairwise (leF f)->Q () st'):wpS M A E s sortRuns' Q st:=by
 rw [sortRuns'_eq]
 refine wpS_bind (wpS_get ?_)
 dsimp only
 have S0:SI κ f (arrOf st).toList [] (arrOf st).toList st:=⟨hk,hfl,rfl,List.Perm.refl _,hp,fun _ hr=>by simp at hr,fun _ hr=>by simp at hr⟩
 have hT:(arrOf st).toList.length=(arrOf st).size:=Array.length_toList
 generalize (arrOf st).toList=T at R h S0 hT
 generalize (arrOf st).size=N at h2 hT ⊢
 generalize minRun' N N 0=mr
 clear hk hfl hp
 refine wpS_bind (wpS_mono (wpS_forRange (I:=fun x c st'=>∃ rs z6,c=(none,(zG rs).length)/\SI κ f T rs z6 st'/\x<=(zG rs).length) (Q:=fun c st'=>∃ rs lo,c=(none,lo)/\SI κ f T rs [] st') ?_ ?_ ⟨[],T,rfl,S0,Nat.zero_le _⟩) ?_)
 ·rintro x c st1 _ hx ⟨rs,z6,rfl,S1,hx2⟩
  have hz1:=S1.size
  have hl1:=S1.len
  dsimp only
  by_cases e1:(zG rs).length ≥ N
  ·rw [if_pos e1]
   have:z6=[]:=List.eq_nil_of_length_eq_zero (by lia)
   subst this
   exact wpS_pure ⟨rs,_,rfl,S1⟩
  rw [if_neg e1]
  refine wpS_bind (zfl R S1.kind S1.mem (by lia) (by lia) fun m st2 l2 m1 m2 sg=>?_)
  dsimp only
  have hz2:=l2.size
  by_cases e2:m<mr
  case' pos=>
   rw [if_pos e2]
   refine wpS_bind (wpS_lift (wpAny_rule ⟨rfl,?_⟩))
   refine wpS_bind (zc9 R (n:=min (N - (zG rs).length) mr) (l2.kind.trans S1.kind) (l2.mem S1.mem) (by lia) (by lia) (by lia) sg fun st3 l3 sg3=>?_)
   rw [if_neg (by simp)]
   obtain ⟨L,rest',S3,hL,sL,nL⟩:=S1.next (l2.trans l3) (n:=min (N - (zG rs).length) mr) (by lia) (by lia) sg3
   generalize hn:min (N - (zG rs).length) mr=n at hL ⊢
   have hn1:1<=n:=by lia
  case' neg=>
   rw [if_neg e2]
   obtain ⟨L,rest',S3,hL,sL,nL⟩:=S1.next l2 (n:=m) (by lia) (by lia) sg
   generalize hn:m=n at hL ⊢
   have hn1:1<=n:=by lia
   generalize st2=st3 at S3 ⊢
  all_goals
   refine wpS_bind (wpS_get ?_)
   rcases List.eq_nil_or_concat rs with hrs | ⟨u,r,hrs⟩
   ·have hb:(pendingOf st3).back?=none:=by rw [S3.pend,hrs];rfl
    rw [hb]
    dsimp only
    have S4:=S3.push nL sL rfl hL
    exact wpS_bind (wpS_modify (wpS_pure ⟨_,rest',by rw [yg,List.length_append,zy,List.length_append,hL];rfl,S4,by rw [yg,List.length_append,zy,List.length_append,hL];lia⟩))
   ·obtain ⟨⟨b1,b2,b3⟩,hb⟩:∃ b,(pendingOf st3).back?=some b:=by
     rw [S3.pend,hrs,List.concat_eq_append,xD]
     cases r
     exact ⟨_,by simp [zaD];rfl⟩
    rw [hb]
    dsimp only
    generalize power' N (2 * b1+b2) (2 * b1+b2+b2+n) N=pw
    refine wpS_bind (wpS_mono (wpS_forRange (I:=fun x c st'=>∃ rs',c=(none,())/\SI κ f T rs' (L++rest') st'/\1<=rs'.length) (Q:=fun c st'=>∃ rs',c=(none,())/\SI κ f T rs' (L++rest') st'/\1<=rs'.length) ?_ (fun c st' q=>q) ⟨rs,rfl,S3,by rw [hrs];simp⟩) ?_)
    ·rintro x2 c st4 _ _ ⟨rs',rfl,S4,n4⟩
     refine wpS_bind (wpS_get ?_)
     by_cases e3:(pendingOf st4).size > 1
     ·rw [if_pos e3]
      obtain ⟨⟨c1,c2,c3⟩,hc⟩:∃ b,(pendingOf st4)[(pendingOf st4).size - 2]?=some b:=⟨_,Array.getElem?_eq_getElem (by lia)⟩
      rw [hc]
      dsimp only
      by_cases e4:c3<=pw
      ·rw [if_pos e4]
       exact wpS_pure ⟨rs',rfl,S4,n4⟩
      ·rw [if_neg e4]
       rw [S4.psz] at e3
       refine wpS_bind (t_mg R S4 (by rw [S4.psz];lia) fun rs2 st5 S5 h5=>?_)
       exact wpS_pure ⟨rs2,rfl,S5,by lia⟩
     ·rw [if_neg e3]
      exact wpS_pure ⟨rs',rfl,S4,n4⟩
    ·rintro c st4 ⟨rs',rfl,S4,n4⟩
     dsimp only
     refine wpS_bind (wpS_modify ?_)
     obtain ⟨rs2,S5⟩:=S4.pow n4 (fun x=>match x with | (st,len,_)=>(st,len,pw)) pw (fun a b c=>rfl)
     have hl3:=S3.len
     have hl5:=S5.len
     have S6:=S5.push nL sL (lo:=(zG rs).length) (by lia) hL
     exact wpS_bind (wpS_modify (wpS_pure ⟨_,rest',by rw [yg,List.length_append,zy,List.length_append,hL,show (zG rs2).length=(zG rs).length by lia];rfl,S6,by rw [yg,List.length_append,zy,List.length_append,hL];lia⟩))
 ·rintro c st1 ⟨rs,z6,rfl,S1,hx2⟩
  have hl1:=S1.len
  have:z6=[]:=List.eq_nil_of_length_eq_zero (by lia)
  subst this
  exact ⟨rs,_,rfl,S1⟩
 ·rintro c st1 ⟨rs,lo,rfl,S1⟩
  dsimp only
  have hl1:=S1.len
  have hlen:rs.length<=(zG rs).length:=by
   have:∀ (rs:List (List Keyed×Nat)),(∀ r∈rs,r.1≠[])->rs.length<=(zG rs).length:=fun rs=>by
    induction rs with
    | nil=>intro _;exact Nat.zero_le _
    | cons r v ih=>
     intro hn
     have h1:=ih fun r hr=>hn r (List.mem_cons_of_mem _ hr)
     have h2:=List.length_pos_iff.mpr (hn r List.mem_cons_self)
     rw [zy,List.length_append,List.length_cons]
     lia
   exact this rs S1.ne
  have hne:1<=rs.length:=by
   cases rs with
   | nil=>simp [zG] at hl1;lia
   | cons r v=>simp
  rw [List.length_nil,Nat.add_zero] at hl1
  refine wpS_bind (wpS_mono (wpS_forRange (I:=fun x c st'=>∃ rs,c=(none,())/\SI κ f T rs [] st'/\1<=rs.length/\(rs.length<=1\/rs.length+x<=N)) (Q:=fun c st'=>∃ rs,c=(none,())/\SI κ f T rs [] st'/\rs.length=1) ?_ ?_ ⟨rs,rfl,S1,hne,.inr (by lia)⟩) ?_)
  ·rintro x c st2 _ hx ⟨rs,rfl,S2,n1,n2⟩
   refine wpS_bind (wpS_get ?_)
   by_cases e1:(pendingOf st2).size<=1
   ·rw [if_pos e1]
    exact wpS_pure ⟨rs,rfl,S2,by rw [S2.psz] at e1;lia⟩
   rw [if_neg e1]
   rw [S2.psz] at e1
   refine wpS_bind (t_mg R S2 ?_ fun rs' st3 S3 h3=>?_)
   ·rw [S2.psz]
    have le1:∀ (b:Bool),(if b=true then rs.length - 2 - 1 else rs.length - 2)+1<rs.length:=fun b=>by cases b <;> simp <;> lia
    exact le1 _
   ·exact wpS_pure ⟨rs',rfl,S3,by lia,by lia⟩
  ·rintro c st2 ⟨rs,rfl,S2,n1,n2⟩
   exact ⟨rs,rfl,S2,by lia⟩
  ·rintro c st2 ⟨rs,rfl,S2,n1⟩
   obtain ⟨r,rfl⟩:∃ r,rs=[r]:=List.length_eq_one_iff.mp n1
   have ha:=S2.arr
   have hq:=S2.perm
   rw [List.append_nil] at ha hq
   rw [<- ha] at hq
   rw [zy] at ha
   exact wpS_pure (h st2 S2.fail hq (by rw [ha];simpa [zG] using S2.up r (by simp)))
end
open PySem PySem.Calls PyProof.Rows PySem.W
theorem zb7 {α β:Type}(g:α->β):∀ {out m:List β},out.Perm m->∀ l:List α,m=l.map g->∃ l':List α,l'.Perm l/\out=l'.map g:=by
 intro out m h
 induction h with
 | nil=>intro l e;exact ⟨l,.refl _,e⟩
 | cons x h ih=>
  intro l e
  match l,e with
  | a::l,e=>
   obtain ⟨e1,e2⟩:=List.cons.inj e
   obtain ⟨l',p,q⟩:=ih l e2
   exact ⟨a::l',.cons a p,by rw [List.map_cons,<- q,e1]⟩
 | swap x y l0=>
  intro l e
  match l,e with
  | a::b::l,e=>
   obtain ⟨e1,e2⟩:=List.cons.inj e
   obtain ⟨e3,e4⟩:=List.cons.inj e2
   exact ⟨b::a::l,.swap _ _ _,by rw [List.map_cons,List.map_cons,e1,e3,e4]⟩
 | trans h1 h2 ih1 ih2=>
  intro l e
  obtain ⟨l2,p2,q2⟩:=ih2 l e
  obtain ⟨l1,p1,q1⟩:=ih1 l2 q2
  exact ⟨l1,p1.trans p2,q1⟩
def Ask (prog:Program)(w:World)(A:Around)(κ:SortKind)(vs:List Value)(G:Array Nat->Prop)(s:Shared):Prop:=
 ∃ f:Nat->Int,zja vs.length f/\(∀ i j,i<vs.length->j<vs.length->vs.getD i .none=vs.getD j .none->i=j)/\
  (∀ i j,i<vs.length->j<vs.length->∀ (Q:Bool->Shared->Prop) (E:Value->Shared->Prop),Q (decide (f i<f j)) s->wpAny (model prog w) A (keyLt' κ (vs.getD i .none) (vs.getD j .none)) Q E s)/\∀ p:Array Nat,Up vs.length f p vs.length->G p
section
variable {prog:Program}{w:World}{A:Around}{E:Value->Shared->Prop}{s:Shared}{h₀:Heap}{L a:Addr}{m:Str->Option Value}{news:List (Addr×Obj)}{vs:List Value}{κ:SortKind}
theorem zlj {G:Array Nat->Prop}(h2:2<=vs.length)(h:Ask prog w A κ vs G s) :
  wpAny (model prog w) A ((sortRuns').run (SortSt.mk' κ (vs.toArray.zip vs.toArray) #[] 7 none)) (fun r s'=>s'=s/\∃ p:Array Nat,p.size=vs.length/\(arrOf r.2).map (·.2)=List.toArray (p.toList.map fun i=>vs.getD i .none)/\failedOf r.2=none/\G p) E s:=by
 obtain ⟨f,hu,hinj,hc,hG⟩:=h
 have hit:(vs.toArray.zip vs.toArray).toList=(List.range vs.length).map fun i=>(vs.getD i .none,vs.getD i .none):=by
  refine List.ext_getElem? fun i=>?_
  by_cases hi:i<vs.length
  ·simp [hi]
  ·simp [hi,Nat.le_of_not_lt hi]
 let F:Keyed->Int:=fun x=>f (Classical.epsilon fun i=>i<vs.length/\vs.getD i .none=x.1)
 have hF:∀ i,i<vs.length->F (vs.getD i .none,vs.getD i .none)=f i:=fun i hi=>by
  have q:(Classical.epsilon fun j=>j<vs.length/\vs.getD j .none=vs.getD i .none)<vs.length/\vs.getD (Classical.epsilon fun j=>j<vs.length/\vs.getD j .none=vs.getD i .none) .none=vs.getD i .none:=Classical.epsilon_spec (p:=fun j=>j<vs.length/\vs.getD j .none=vs.getD i .none) ⟨i,hi,rfl⟩
  show f (Classical.epsilon fun j=>j<vs.length/\vs.getD j .none=vs.getD i .none)=f i
  rw [hinj _ _ q.1 hi q.2]
 refine zfn (E:=E) (st:=SortSt.mk' κ (vs.toArray.zip vs.toArray) #[] 7 none) (f:=F) (κ:=κ) (Q:=fun _ st'=>∃ p:Array Nat,p.size=vs.length/\(arrOf st').map (·.2)=List.toArray (p.toList.map fun i=>vs.getD i .none)/\failedOf st'=none/\G p) ?_ rfl rfl rfl ?_ ?_
 ·intro x y hx hy Q E hq
  have hx:x∈(vs.toArray.zip vs.toArray).toList:=hx
  have hy:y∈(vs.toArray.zip vs.toArray).toList:=hy
  rw [hit] at hx hy
  obtain ⟨i,hi,rfl⟩:=List.mem_map.mp hx
  obtain ⟨j,hj,rfl⟩:=List.mem_map.mp hy
  have hi:=List.mem_range.mp hi
  have hj:=List.mem_range.mp hj
  rw [hF i hi,hF j hj] at hq
  exact hc i j hi hj Q E hq
 ·show 1<=(vs.toArray.zip vs.toArray).size
  simp;lia
 ·intro st' h1 h3 h4
  have h3:(arrOf st').toList.Perm (vs.toArray.zip vs.toArray).toList:=h3
  obtain ⟨p,hp,he⟩:=zb7 _ h3 _ hit
  have hpi:∀ i∈p,i<vs.length:=fun i hi=>List.mem_range.mp (hp.mem_iff.mp hi)
  have hpl:p.length=vs.length:=by rw [hp.length_eq,List.length_range]
  refine ⟨p.toArray,by simpa using hpl,?_,h1,hG _ ⟨?_,Nat.le_refl _,fun k hk=>?_⟩⟩
  ·apply Array.toList_inj.mp
   rw [Array.toList_map,he,List.map_map]
   rfl
  ·show p.toArray.Perm (List.range vs.length).toArray
   exact List.Perm.toArray hp
  ·have hnd:p.Nodup:=hp.nodup_iff.mpr List.nodup_range
   rw [he] at h4
   have h5:=List.pairwise_iff_getElem.mp h4 k (k+1) (by simp;lia) (by simp;lia) (by lia)
   rw [List.getElem_map,List.getElem_map] at h5
   have g1:p.toArray.getD k 0=p[k]:=by simp [Array.getD,show k<p.length by lia]
   have g2:p.toArray.getD (k+1) 0=p[k+1]:=by simp [Array.getD,show k+1<p.length by lia]
   have h5:F (vs.getD p[k] .none,vs.getD p[k] .none)<=F (vs.getD p[k+1] .none,vs.getD p[k+1] .none):=h5
   rw [hF _ (hpi _ (List.getElem_mem _)),hF _ (hpi _ (List.getElem_mem _))] at h5
   unfold key
   rw [g1,g2]
   have h6:f p[k]≠f p[k+1]:=fun z=>by
    have:=hu _ _ (hpi _ (List.getElem_mem _)) (hpi _ (List.getElem_mem _)) z
    have:=(List.getElem_inj hnd).mp this
    lia
   lia
theorem zcg {n:Nat}{P:PySem.Fin->Shared->Prop}(F:Fr h₀ L s.heap m)(N:News h₀ L s.heap news)(ho:s.heap.get? a=some (seqObj "list" vs.toArray n))(haL:a≠L)(ha0:h₀.get? a=none)(hna:∀ p∈news,p.1≠a)
  (h2:2<=vs.length) (hz:vs.length<=sizeLine)
  (h:∀ e1 h',Fr h₀ L h' m->News h₀ L h' ((a,seqObj "list" #[] e1)::news)->
   wpAny (model prog w) A (keyKind' vs.toArray) (fun κ s'=>Ask prog w A κ vs (fun p=>KasFin h₀ L m a e1 (p.toList.map fun i=>vs.getD i Value.none) (fun s3=>P (.done (.ret .none)) s3) s') s') (fun _ _=>False) { s with heap:=h' }) :
  wpAny (model prog w) A (Builtin.«list.sort» ⟨[.ref a],[]⟩) P E s:=by
 have s1:=Heap.SameBut.update s.heap a (Obj.mapSeq fun _=>(#[]:Array Value))
 obtain ⟨e1,ho1⟩:∃ e1,(s.heap.update a (Obj.mapSeq fun _=>(#[]:Array Value))).get? a=some (seqObj "list" #[] e1):=⟨_,get?_update_seq ho fun _=>#[]⟩
 have keep2:∀ b x,(s.heap.update a (Obj.mapSeq fun _=>(#[]:Array Value))).get? b=some x->(((s.heap.update a (Obj.mapSeq fun _=>(#[]:Array Value))).push (seqObj "tuple" vs.toArray 0)).push (seqObj "list" #[] 0)).get? b=some x:=fun b x e=>Heap.get?_push_of_some _ (Heap.get?_push_of_some _ e)
 have ask:=h e1 _ (((kas_fr F s1 haL ha0).push (seqObj "tuple" vs.toArray 0)).push (seqObj "list" #[] 0)) (fun p hp=>by
  rcases List.mem_cons.mp hp with rfl | hp
  ·exact ⟨keep2 _ _ ho1,haL,ha0⟩
  ·exact (kas_news N s1 hna).grown keep2 p hp)
 rw [list_sort_plain]
 refine wpAny_bind (listItems_at ho rfl (wpAny_bind (listUpdate_at ho rfl ?_ (by rw [List.size_toArray];exact hz) (Nat.zero_le _))))
 refine wpAny_bind (seqEpoch_at ho1 rfl (wpAny_bind (wpAny_newTuple ?_ (by show vs.length<=_;exact hz))))
 refine wpAny_bind (wpAny_newList (wpAny_holding ?_) (Nat.zero_le _))
 show wpAny (model prog w) A _ P E { s with heap:=((s.heap.update a (Obj.mapSeq fun _=>(#[]:Array Value))).push (seqObj "tuple" vs.toArray 0)).push (seqObj "list" #[] 0) }
 dsimp only
 have hn2:¬ vs.toArray.size<2:=by rw [List.size_toArray];lia
 rw [if_neg hn2,if_neg hn2]
 refine wpAny_bind (wpAny_mono ask (fun κ s0 hk=>?_) fun _ _ x=>x.elim)
 refine wpAny_bind (wpAny_mono (zlj h2 hk) ?_ fun _ _ e=>e)
 rintro ⟨⟨⟩,st'⟩ s' ⟨rfl,p,hp,hout,hf,news',g,F',N',U,k⟩
 dsimp only
 obtain ⟨pre,post,e0,hg,x1,x2⟩:=U.split
 rw [e0] at N'
 have na:=N' (a,seqObj "list" #[] e1) (List.mem_append_right _ (.head _))
 have hsz:(List.toArray (p.toList.map fun i=>vs.getD i Value.none)).size=vs.length:=by rw [List.size_toArray,List.length_map,Array.length_toList,hp]
 rw [hout]
 have s2:=Heap.SameBut.update s'.heap a (Obj.mapSeq fun _=>List.toArray (p.toList.map fun i=>vs.getD i Value.none))
 obtain ⟨c2,hc2⟩:∃ c2,(s'.heap.update a (Obj.mapSeq fun _=>List.toArray (p.toList.map fun i=>vs.getD i Value.none))).get? a=some (seqObj "list" (List.toArray (p.toList.map fun i=>vs.getD i Value.none)) c2):=⟨_,get?_update_seq na.1 fun _=>List.toArray (p.toList.map fun i=>vs.getD i Value.none)⟩
 refine wpAny_bind (seqEpoch_at na.1 rfl ?_)
 refine wpAny_bind (listUpdate_at na.1 rfl ?_ (Nat.zero_le _) (Nat.le_trans (Nat.le_of_eq hsz) (Nat.le_succ_of_le hz)))
 rw [hf]
 simp only [bne_self_eq_false,Bool.false_eq_true,if_false]
 refine wpAny_pure (k _ c2 (kas_fr F' s2 na.2.1 na.2.2) ?_)
 rw [hg]
 exact news_set N' x1 x2 s2 hc2
theorem zfp {l:Addr}{Q:Value->Shared->Prop}(F:Fr h₀ L s.heap m)(N:News h₀ L s.heap news)(hl:s.heap.IsList l vs.toArray)(h2:2<=vs.length)(hz:vs.length<=sizeLine)
  (h:∀ D e1 h',Fr h₀ L h' m->News h₀ L h' ((D,seqObj "list" #[] e1)::news)->(∀ q∈news,q.1<D)->
   wpAny (model prog w) A.in1.in1 (keyKind' vs.toArray) (fun κ s'=>Ask prog w A.in1.in1 κ vs (fun p=>KasFin h₀ L m D e1 (p.toList.map fun i=>vs.getD i Value.none) (fun s3=>Q (.ref D) s3) s') s') (fun _ _=>False) { s with heap:=h' }) :
  wpAny (model prog w) A (call (.builtin "sorted") [.ref l]) Q E s:=by
 refine Calls.call_function_entry kind_sorted plain_sorted entry_sorted (args_sorted1 _) ?_
 unfold Builtin.«sorted»
 refine wpAny_bind (m:=checkCount "sorted" 1 1 _) (wpAny_pure ?_)
 refine wpAny_bind (collect_list hl ?_ (by first | exact hz | (rw [List.size_toArray];exact hz)))
 refine wpAny_bind (wpAny_newList ?_ (by first | exact hz | (rw [List.size_toArray];exact hz)))
 generalize hm1:(s.heap.push (seqObj "list" #[] 0)).update s.heap.objs.size (Obj.mapSeq (·++vs.toArray))=hm
 have hsz:hm.objs.size=s.heap.objs.size+1:=by rw [<- hm1,Heap.size_update,size_push']
 have hoL:(hm.push (seqObj "list" vs.toArray 0)).get? (s.heap.objs.size+1)=some (seqObj "list" vs.toArray 0):=by
  rw [<- hsz];exact Heap.get?_push_size _ rfl
 have keep:∀ b o,s.heap.get? b=some o->(hm.push (seqObj "list" vs.toArray 0)).get? b=some o:=fun b o q=>by
  have hlt:b<s.heap.objs.size:=Heap.lt_size q
  rw [Heap.get?_push_ne _ _ _ (by rw [hsz];exact Nat.ne_of_lt (Nat.lt_succ_of_lt hlt)),<- hm1,Heap.get?_update_ne _ _ _ _ (Nat.ne_of_lt hlt),Heap.get?_push_ne _ _ _ (Nat.ne_of_lt hlt)]
  exact q
 have hL:L<s.heap.objs.size:=F.ns.lt
 show wpAny _ _ _ _ _ { s with heap:=hm.push (seqObj "list" vs.toArray 0) }
 rw [hsz]
 refine wpAny_bind (wpAny_holding (wpAny_call_entry slot_list_sort ⟨_,hoL,rfl⟩ entry_list_sort ?body (args_list_sort _)))
 case body=>
  refine zcg (s:={ s with heap:=hm.push (seqObj "list" vs.toArray 0) })
   (F.kept keep) (N.grown keep) hoL (Nat.ne_of_gt (Nat.lt_succ_of_lt hL)) (Heap.get?_none_of_le (Nat.le_trans F.above (Nat.le_succ_of_le (Nat.le_of_lt hL))))
   (fun p hp=>Nat.ne_of_lt (Nat.lt_succ_of_lt (Heap.lt_size (N p hp).1))) h2 hz fun e1 h' F' N'=>?_
  refine wpAny_mono (h _ e1 h' F' N' fun q hq=>Nat.lt_succ_of_lt (Heap.lt_size (N q hq).1)) (fun κ s' hk=>?_) fun _ _ x=>x
  obtain ⟨f,k1,k2,k3,k4⟩:=hk
  exact ⟨f,k1,k2,k3,fun p hp=>(k4 p hp).mono fun s3 hq=>⟨_,rfl,wpAny_pure ⟨_,rfl,hq⟩⟩⟩
end
open PySem PySem.Spec PyProof.Rows
theorem zet {prog:Program}{w:World}{A:Around}{s:Shared}{b:Bool}{Q:Bool->Shared->Prop}:∀ {ns ms:List Int} {xs ys:List Value} (i:Nat),zY (ns.map V.int) xs->zY (ms.map V.int) ys->ns.length=ms.length->Q (HT.lexLt ns ms) s->W.KatLex prog w A b false Q (xs.zip ys) i s
 | [],[],_,_,i,hx,hy,_,q=>by cases hx;cases hy;exact W.kat_nil q
 | [],_::_,_,_,_,_,_,h,_=>by simp at h
 | _::_,[],_,_,_,_,_,h,_=>by simp at h
 | a::ns,c::ms,_,_,i,hx,hy,hl,q=>by
  cases hx with
  | cons r1 rr1=>
   cases hy with
   | cons r2 rr2=>
    obtain ⟨t,rfl⟩:=r1
    obtain ⟨u,rfl⟩:=r2
    rw [List.zip_cons_cons]
    have q':Q (if a=c then HT.lexLt ns ms else decide (a<c)) s:=q
    refine W.kat_cons (wpAny_eqBool_int ?_)
    by_cases e:a=c
    ·rw [show (a==c)=true from by rw [e];exact beq_self_eq_true c]
     rw [if_pos e] at q'
     exact W.kat_yes (zet (i+1) rr1 rr2 (by simpa using hl) q')
    ·rw [show (a==c)=false from beq_false_of_ne e]
     rw [if_neg e] at q'
     refine W.kat_no ?_
     cases (b&&i==0) with
     | true=>exact oneLt_int q'
     | false=>exact W.kat_one _ _ (P.lt_int q')
theorem z9:∀ s:List Int,HT.lexLt s s=false
 | []=>rfl
 | a::s=>by
  show (if a=a then HT.lexLt s s else _)=false
  rw [if_pos rfl]
  exact z9 s
theorem uN:∀ {a b c:List Int},a.length=b.length->b.length=c.length->HT.lexLt a b=true->HT.lexLt b c=true->HT.lexLt a c=true
 | [],[],[],_,_,h,_=>h
 | x::a,y::b,z::c,h1,h2,h3,h4=>by
  have h3':(if x=y then HT.lexLt a b else decide (x<y))=true:=h3
  have h4':(if y=z then HT.lexLt b c else decide (y<z))=true:=h4
  show (if x=z then HT.lexLt a c else decide (x<z))=true
  by_cases e1:x=y
  ·by_cases e2:y=z
   ·rw [if_pos e1] at h3'
    rw [if_pos e2] at h4'
    rw [if_pos (e1.trans e2)]
    exact uN (by simpa using h1) (by simpa using h2) h3' h4'
   ·rw [if_neg e2] at h4'
    rw [if_neg (by lia)]
    have:=of_decide_eq_true h4'
    exact decide_eq_true (by lia)
  ·rw [if_neg e1] at h3'
   have l1:=of_decide_eq_true h3'
   by_cases e2:y=z
   ·rw [if_neg (by lia)]
    exact decide_eq_true (by lia)
   ·rw [if_neg e2] at h4'
    have l2:=of_decide_eq_true h4'
    rw [if_neg (by lia)]
    exact decide_eq_true (by lia)
 | [],_::_,_,h,_,_,_=>by simp at h
 | _::_,[],_,h,_,_,_=>by simp at h
 | [],[],_::_,_,h,_,_=>by simp at h
 | _::_,_::_,[],_,h,_,_=>by simp at h
theorem zaZ:∀ {a b:List Int},a.length=b.length->a=b\/HT.lexLt a b=true\/HT.lexLt b a=true
 | [],[],_=>.inl rfl
 | [],_::_,h=>by simp at h
 | _::_,[],h=>by simp at h
 | x::a,y::b,h=>by
  show _\/(if x=y then HT.lexLt a b else decide (x<y))=true\/(if y=x then HT.lexLt b a else decide (y<x))=true
  by_cases e:x=y
  ·subst e
   rw [if_pos rfl,if_pos rfl]
   rcases zaZ (a:=a) (b:=b) (by simpa using h) with h1 | h1 | h1
   ·exact .inl (by rw [h1])
   ·exact .inr (.inl h1)
   ·exact .inr (.inr h1)
  ·rw [if_neg e,if_neg (Ne.symm e)]
   rcases Int.lt_or_gt_of_ne e with h1 | h1
   ·exact .inr (.inl (decide_eq_true h1))
   ·exact .inr (.inr (decide_eq_true h1))
theorem zek {α:Type}{p q:α->Bool}:∀ {l:List α},(∀ x∈l,p x=true->q x=true)->(∃ x∈l,p x=false/\q x=true)->l.countP p<l.countP q
 | [],_,h=>by obtain ⟨x,hx,_⟩:=h;simp at hx
 | y::l,h,k=>by
  have hle:l.countP p<=l.countP q:=List.countP_mono_left fun x hx hp=>h x (List.mem_cons_of_mem _ hx) hp
  rw [List.countP_cons,List.countP_cons]
  obtain ⟨x,hx,hp,hq⟩:=k
  rcases List.mem_cons.mp hx with rfl | hx
  ·rw [hp,hq]
   simp
   lia
  ·have ih:=zek (l:=l) (fun z hz=>h z (List.mem_cons_of_mem _ hz)) ⟨x,hx,hp,hq⟩
   have hy:=h y List.mem_cons_self
   cases e:p y with
   | false=>
    simp
    cases q y <;> simp <;> lia
   | true=>
    rw [hy e]
    simp
    lia
def zcI (sts:List (List Int))(i:Nat):Int:=(sts.countP fun c=>HT.lexLt c (sts.getD i [])  : Nat)
theorem uM {sts:List (List Int)}{m:Nat}(hm:∀ st∈sts,st.length=m){i j:Nat}(hi:i<sts.length)(hj:j<sts.length):decide (zcI sts i<zcI sts j)=HT.lexLt (sts.getD i []) (sts.getD j []):=by
 have gi:sts.getD i []∈sts:=by rw [List.getD_eq_getElem?_getD,List.getElem?_eq_getElem hi];exact List.getElem_mem hi
 have gj:sts.getD j []∈sts:=by rw [List.getD_eq_getElem?_getD,List.getElem?_eq_getElem hj];exact List.getElem_mem hj
 have mono:∀ {a b:List Int},a∈sts->b∈sts->HT.lexLt a b=true->(sts.countP fun c=>HT.lexLt c a)<(sts.countP fun c=>HT.lexLt c b):=fun {a b} ha hb hab=>
  zek (fun x hx hp=>uN ((hm x hx).trans (hm a ha).symm) ((hm a ha).trans (hm b hb).symm) hp hab) ⟨a,ha,z9 a,hab⟩
 unfold zcI
 generalize sts.getD i []=a at gi
 generalize sts.getD j []=b at gj
 rcases zaZ (a:=a) (b:=b) ((hm a gi).trans (hm b gj).symm) with h | h | h
 ·subst h
  rw [z9]
  exact decide_eq_false (Int.lt_irrefl _)
 ·rw [h]
  have:=mono gi gj h
  exact decide_eq_true (by lia)
 ·have h1:=mono gj gi h
  have h2:HT.lexLt a b=false:=by
   rw [Bool.eq_false_iff]
   intro z
   have:=mono gi gj z
   lia
  rw [h2]
  exact decide_eq_false (by lia)
def zg9 (h:Heap)(L:Addr):List (Addr×Obj):=(List.range h.objs.size).filterMap fun b=>if b=L then none else (h.get? b).map fun o=>(b,o)
theorem x9 {h:Heap}{L b:Addr}{o:Obj}:(b,o)∈zg9 h L↔b≠L/\h.get? b=some o:=by
 unfold zg9
 rw [List.mem_filterMap]
 constructor
 ·rintro ⟨c,hc,e⟩
  by_cases hL:c=L
  ·rw [if_pos hL] at e;cases e
  ·rw [if_neg hL] at e
   obtain ⟨o',ho,e2⟩:=Option.map_eq_some_iff.mp e
   cases e2
   exact ⟨hL,ho⟩
 ·rintro ⟨hL,ho⟩
  exact ⟨b,List.mem_range.mpr (Heap.lt_size ho),by rw [if_neg hL,ho];rfl⟩
theorem zmk {h:Heap}{L:Addr}{m m':Str->Option Value}(a:h.Ns L m)(b:h.Ns L m'):m=m':=by
 obtain ⟨o,es,ep,ho,hd,hk,hf⟩:=a
 obtain ⟨o',es',ep',ho',hd',hk',hf'⟩:=b
 rw [ho] at ho'
 cases ho'
 rw [hd] at hd'
 cases hd'
 funext x
 rw [<- hf,<- hf']
section
variable {X:Cx}
theorem zcQ {P:Program}{w:World}{H:Hp}{h:Heap}{a:Addr}{o:HO}(x:yp P w H h a o):∃ u,h.get? a=some u:=by
 cases o with
 | lst xs=>obtain ⟨_,_,_,_,e⟩:=x;exact ⟨_,e⟩
 | tup xs=>obtain ⟨_,_,_,p⟩:=x;obtain ⟨o,e,_⟩:=p;exact ⟨o,e⟩
 | dK kvs=>obtain ⟨_,_,_,_,o,_,_,e,_⟩:=x;exact ⟨_,e⟩
 | dT kvs=>obtain ⟨_,_,_,_,o,_,_,e,_⟩:=x;exact ⟨_,e⟩
 | set S n=>obtain ⟨o,_,_,_,e,_⟩:=x;exact ⟨_,e⟩
 | ins C dx fs=>obtain ⟨_,_,_,e,_⟩:=x;exact ⟨_,e⟩
 | own y=>exact x
 | xd fs=>obtain ⟨_,⟨_,_,_,e,_⟩,_⟩:=x;exact ⟨_,e⟩
 | met f y=>exact ⟨_,x⟩
 | rng lo hi=>obtain ⟨_,_,_,e⟩:=x;exact ⟨_,e⟩
 | frz o u=>obtain ⟨e,_⟩:=x;exact ⟨_,e⟩
 | tbl ps=>exact ⟨_,x⟩
 | ext φ=>obtain ⟨_,e,_⟩:=x;exact e
theorem zgk {pins:List (Addr×Obj)}{σ:St}{H:Hp}{s:Shared}(I:Inv X pins σ H s){m:Str->Option Value}(hm:s.heap.Ns X.env.locals m){h':Heap}{D:Addr}{ys:List V}{its:List Value}{c:Nat}
  (kp:∀ b o,b≠X.env.locals->s.heap.get? b=some o->h'.get? b=some o) (ns':h'.Ns X.env.locals m) (hDn:s.heap.get? D=none) (hD:H D=none)
  (ho:h'.get? D=some { cls:=.type "list",data:=.seq its.toArray c }) (hv:zY ys its) (hz:ys.length<=sizeLine) (tk:Nat):Inv X pins σ (upd H D (.lst ys)) { s with heap:=h',toks:=tk }:=by
 have nD:∀ b o,s.heap.get? b=some o->b≠D:=fun b o e z=>by rw [z,hDn] at e;cases e
 have nL:∀ b u,H b=some u->b≠X.env.locals:=fun b u e=>zb e I.free
 refine Inv.step (ch:=[]) (g':=s.gens) (d':=s.drawn) (t':=tk) I (fun b hb=>by simp at hb) (fun b o h1 _ _ h4 _=>kp b o h1 h4) (fun b o h1 _ _ h4 _=>⟨o.slots,kp b o h1 h4⟩) (fun b o _ h4 h5=>by rw [ze (nD b o h4)];exact h5) (fun b o _ h4=>?_) (fun b ys q=>by rw [ze (zb q hD)];exact q) (fun b o u q=>by rw [ze (zb q hD)];exact q) (fun b ps q=>⟨#[],by rw [ze (zb q hD),Array.append_empty];exact q⟩) (fun m' hm'=>by rw [<- zmk hm hm'];exact ns') (fun b u hb=>?_) I.bare
 ·by_cases hL:b=X.env.locals
  ·obtain ⟨o',_,_,h1,_⟩:=ns'
   exact ⟨o',by rw [hL];exact h1⟩
  ·exact ⟨o,kp b o hL h4⟩
 ·by_cases hbD:b=D
  ·subst hbD
   rw [zh] at hb
   cases hb
   exact ⟨hz,its,c,hv,ho⟩
  ·rw [ze hbD] at hb
   refine (I.hok b u hb).stay (fun c v hcv q=>kp c v ?_ q) (fun c q=>by rw [ze (zb q hD)];exact q) (fun c ys q=>by rw [ze (zb q hD)];exact q)
   rcases hcv with rfl | hcv
   ·exact nL _ _ hb
   ·exact nL _ _ hcv
theorem zbb {pins:List (Addr×Obj)}{σ:St}{H:Hp}{s:Shared}(I:Inv X pins σ H s):∀ {sts:List (List Int)} {vs:List V} {its:List Value},IsL H (sts.map stD) vs->zY vs its->∀ {i:Nat},i<sts.length->∃ (a:Addr) (items:List Value),vs.getD i .non = .ref a/\its.getD i .none = .ref a/\IsTup s.heap a items.toArray/\zY ((sts.getD i []).map V.int) items/\a≠X.env.locals
 | [],_,_,_,_,i,hi=>by simp at hi
 | st::sts,_,_,h,hv,i,hi=>by
  obtain ⟨x,r,rfl,⟨a,xs,rfl,ha,hxs⟩,hr⟩:=h
  obtain rfl:=hxs.of_ints
  cases hv with
  | cons r1 rr=>
   cases r1
   cases i with
   | zero=>
    obtain ⟨items,rv,pt,_⟩:=I.tuple (.of ha)
    exact ⟨a,items,rfl,rfl,pt,rv,zb ha I.free⟩
   | succ i=>
    obtain ⟨a',items,e1,e2,e3,e4,e5⟩:=zbb I (sts:=sts) hr rr (i:=i) (by simpa using hi)
    exact ⟨a',items,by simpa using e1,by simpa using e2,e3,by simpa using e4,e5⟩
theorem zhs {pins:List (Addr×Obj)}{σ:St}{H:Hp}{s:Shared}(I:Inv X pins σ H s){h':Heap}(kp:∀ b o,b≠X.env.locals->s.heap.get? b=some o->h'.get? b=some o):∀ {sts:List (List Int)} {vs:List V} {its:List Value},IsL H (sts.map stD) vs->zY vs its->(∀ st∈sts,1<=st.length)->∃ fs,W.KatTups h' its fs/\fs.length=sts.length/\∀ f∈fs,∃ a t,f = .int a t
 | [],_,_,h,hv,_=>by cases h;cases hv;exact ⟨[],trivial,rfl,fun _ h=>by simp at h⟩
 | st::sts,_,_,h,hv,h1=>by
  obtain ⟨x,r,rfl,⟨a,xs,rfl,ha,hxs⟩,hr⟩:=h
  obtain rfl:=hxs.of_ints
  cases hv with
  | cons r1 rr=>
   cases r1
   obtain ⟨items,rv,pt,_⟩:=I.tuple (.of ha)
   obtain ⟨o,ho,hc,n,hd⟩:=pt
   obtain ⟨fs,f1,f2,f3⟩:=zhs I kp (sts:=sts) hr rr fun z hz=>h1 z (List.mem_cons_of_mem _ hz)
   have hst:=h1 st List.mem_cons_self
   match st,rv,hst with
   | z::zs,rv,_=>
    cases rv with
    | cons q1 qq=>
     obtain ⟨t,rfl⟩:=q1
     refine ⟨_::fs,⟨⟨a,o,_,n,rfl,kp a o (zb ha I.free) ho,hc,hd,rfl⟩,f1⟩,by rw [List.length_cons,f2];rfl,fun f hf=>?_⟩
     rcases List.mem_cons.mp hf with rfl | hf
     ·exact ⟨_,_,rfl⟩
     ·exact f3 f hf
def znd:List V->Hp->VK->Prop:=fun xs H Q=>∃ (l:Addr) (vs:List V) (sts:List (List Int)) (m:Nat),xs=[.ref l]/\H l=some (.lst vs)/\IsL H (sts.map stD) vs/\2<=sts.length/\1<=m/\(∀ st∈sts,st.length=m)/\sts.Nodup/\
 ∀ (ys:List V) (sts':List (List Int)),IsL H (sts'.map stD) ys->sts'.Perm sts->(sts'.Pairwise fun a b=>HT.lexLt a b=true)->New H (.lst ys) Q
theorem zeq {H:Hp}{sts:List (List Int)}{vs:List V}(h:IsL H (sts.map stD) vs):∀ {p:List Nat},(∀ i∈p,i<sts.length)->IsL H ((p.map fun i=>sts.getD i []).map stD) (p.map fun i=>vs.getD i .non)
 | [],_=>rfl
 | i::p,hp=>by
  have hi:=hp i List.mem_cons_self
  obtain ⟨x,hx,hd⟩:=h.getD (i:=i) (d:=stD (sts.getD i [])) (by simp [hi])
  refine ⟨vs.getD i .non,_,rfl,?_,zeq h fun j hj=>hp j (List.mem_cons_of_mem _ hj)⟩
  rw [List.getD_eq_getElem?_getD,hx]
  exact hd
theorem zdd {vs:List V}{its:List Value}(h:zY vs its):∀ (p:List Nat),(∀ i∈p,i<vs.length)->zY (p.map fun i=>vs.getD i .non) (p.map fun i=>its.getD i .none)
 | [],_=>.nil
 | i::p,hp=>by
  have hi:=hp i List.mem_cons_self
  obtain ⟨u,hu,ru⟩:=h.get (i:=i) (x:=vs[i]) (List.getElem?_eq_getElem hi)
  refine .cons ?_ (zdd h p fun j hj=>hp j (List.mem_cons_of_mem _ hj))
  show zX (vs.getD i .non) (its.getD i .none)
  rw [List.getD_eq_getElem?_getD,List.getD_eq_getElem?_getD,List.getElem?_eq_getElem hi,hu]
  exact ru
theorem zfd {α:Type}(d:α)(l:List α):(List.range l.length).map (fun i=>l.getD i d)=l:=by
 refine List.ext_getElem (by simp) fun i h1 h2=>?_
 simp [h2]
theorem zbE:∀ {a b:List Int} {its:List Value},zY (a.map V.int) its->zY (b.map V.int) its->a=b
 | [],[],_,_,_=>rfl
 | [],_::_,_,h,k=>by cases h;cases k
 | _::_,[],_,h,k=>by cases k;cases h
 | x::a,y::b,_,h,k=>by
  cases h with
  | cons r1 rr=>
   cases k with
   | cons q1 qq=>
    obtain ⟨t,rfl⟩:=r1
    obtain ⟨t',e⟩:=q1
    cases e
    rw [zbE rr qq]
theorem zh1:CallQ X (.builtin "sorted") znd:=⟨by
 intro pins s σ H xs us Q I r h
 obtain ⟨l,vs,sts,m,rfl,hl,hsts,h2,hm1,hm,hnd,q⟩:=h
 obtain ⟨u,rfl,ru⟩:=zcm r
 cases ru
 obtain ⟨its,rv,pl,hz⟩:=I.list (.of hl)
 have hvl:=hsts.length
 rw [List.length_map] at hvl
 have hil:=rv.length
 obtain ⟨m0,hns,_⟩:=id I.loc
 refine zfp (h₀:=(⟨#[],{}⟩:Heap)) (L:=X.env.locals) (m:=m0) (news:=zg9 s.heap X.env.locals) ⟨hns,fun b o e=>?_,Nat.zero_le _⟩ (fun p hp=>?_) pl.isList (by lia) (by lia) fun D e1 h' F N hDlt=>?_
 ·have:=Heap.lt_size e
  simp at this
 ·obtain ⟨b,o⟩:=p
  have:=x9.mp hp
  refine ⟨this.2,this.1,?_⟩
  cases e:(⟨#[],{}⟩:Heap).get? b with
  | none=>rfl
  | some o'=>
   have:=Heap.lt_size e
   simp at this
 ·have kp:∀ b o,b≠X.env.locals->s.heap.get? b=some o->h'.get? b=some o:=fun b o hb e=>(N (b,o) (List.mem_cons_of_mem _ (x9.mpr ⟨hb,e⟩))).1
  obtain ⟨fs,k1,k2,k3⟩:=zhs I kp hsts rv fun st hst=>by rw [hm st hst];exact hm1
  refine W.kat_kind (T:=.type "int") (s:={ s with heap:=h' }) k1 (by lia) (fun f hf=>?_) (by decide) ?_
  ·obtain ⟨a,t,rfl⟩:=k3 f hf
   intro A' Q' E' s' _ hq
   exact wpAny_typeOf (typeIs_int s' a t) hq
  ·have hu:zja sts.length (zcI sts):=fun i j hi hj e=>by
    have e1:=uM hm hi hj
    have e2:=uM hm hj hi
    rw [e,decide_eq_false (Int.lt_irrefl _)] at e1
    rw [e,decide_eq_false (Int.lt_irrefl _)] at e2
    have gi:sts.getD i []=sts[i]:=by simp [hi]
    have gj:sts.getD j []=sts[j]:=by simp [hj]
    rcases zaZ (a:=sts.getD i []) (b:=sts.getD j []) (by rw [gi,gj,hm _ (List.getElem_mem hi),hm _ (List.getElem_mem hj)]) with h | h | h
    ·rw [gi,gj] at h
     exact (List.getElem_inj hnd).mp h
    ·rw [h] at e1;cases e1
    ·rw [h] at e2;cases e2
   have hnn:its.length=sts.length:=by lia
   refine ⟨zcI sts,by rw [hnn];exact hu,fun i j hi hj e=>?_,fun i j hi hj C E hC=>?_,fun p hup=>?_⟩
   ·rw [hnn] at hi hj
    obtain ⟨a1,it1,_,b1,c1,d1,_⟩:=zbb I hsts rv hi
    obtain ⟨a2,it2,_,b2,c2,d2,_⟩:=zbb I hsts rv hj
    rw [b1,b2] at e
    cases e
    obtain ⟨o1,ho1,_,n1,hd1⟩:=c1
    obtain ⟨o2,ho2,_,n2,hd2⟩:=c2
    rw [ho1] at ho2
    cases ho2
    rw [hd1] at hd2
    have ei:it1=it2:=by injection hd2 with q1;exact List.toArray_inj q1
    subst ei
    have es:=zbE d1 d2
    have gi:sts.getD i []=sts[i]:=by simp [hi]
    have gj:sts.getD j []=sts[j]:=by simp [hj]
    rw [gi,gj] at es
    exact (List.getElem_inj hnd).mp es
   ·rw [hnn] at hi hj
    obtain ⟨a1,it1,_,b1,c1,d1,f1⟩:=zbb I hsts rv hi
    obtain ⟨a2,it2,_,b2,c2,d2,f2⟩:=zbb I hsts rv hj
    obtain ⟨o1,ho1,_,n1,hd1⟩:=c1
    obtain ⟨o2,ho2,_,n2,hd2⟩:=c2
    rw [b1,b2]
    have gi:(sts.getD i []).length=m:=by
     have:sts.getD i []=sts[i]:=by simp [hi]
     rw [this];exact hm _ (List.getElem_mem hi)
    have gj:(sts.getD j []).length=m:=by
     have:sts.getD j []=sts[j]:=by simp [hj]
     rw [this];exact hm _ (List.getElem_mem hj)
    have l1:=d1.length
    have l2:=d2.length
    rw [List.length_map] at l1 l2
    refine W.kat_lt (s:={ s with heap:=h' }) (kp _ _ f1 ho1) hd1 (kp _ _ f2 ho2) hd2 ?_
    rw [show decide (it1.toArray.size<it2.toArray.size)=false from decide_eq_false (by simp;lia)]
    refine zet 0 d1 d2 (by rw [gi,gj]) ?_
    rw [uM hm hi hj] at hC
    exact hC
   ·rw [hnn] at hup
    have hpl:p.toList.Perm (List.range sts.length):=by
     have:=hup.perm.toList
     simpa using this
    have hpi:∀ i∈p.toList,i<sts.length:=fun i hi=>List.mem_range.mp ((hpl.mem_iff).mp hi)
    refine W.KasFin.intro F N (W.UpdF.head fun q' hq'=>?_) fun h'' c F'' N''=>?_
    ·exact Nat.ne_of_lt (hDlt q' hq')
    ·have kp2:∀ b o,b≠X.env.locals->s.heap.get? b=some o->h''.get? b=some o:=fun b o hb e=>(N'' (b,o) (List.mem_cons_of_mem _ (x9.mpr ⟨hb,e⟩))).1
     have hDL:D≠X.env.locals:=(N'' (D,_) List.mem_cons_self).2.1
     have hDn:s.heap.get? D=none:=by
      cases e:s.heap.get? D with
      | none=>rfl
      | some o=>exact absurd (hDlt (D,o) (x9.mpr ⟨hDL,e⟩)) (Nat.lt_irrefl _)
     have hHD:H D=none:=by
      cases e:H D with
      | none=>rfl
      | some o=>
       obtain ⟨o',ho'⟩:=zcQ (I.hok D o e)
       rw [hDn] at ho';cases ho'
     have hout:=(N'' (D,_) List.mem_cons_self).1
     have I':=zgk I hns (ys:=p.toList.map fun i=>vs.getD i .non) kp2 F''.ns hDn hHD hout (zdd rv p.toList fun i hi=>by have:=hpi i hi;lia) (by rw [List.length_map,hpl.length_eq,List.length_range];lia) s.toks
     refine ⟨.ref D,_,I',rfl,(q _ (p.toList.map fun i=>sts.getD i []) (zeq hsts hpi) ?_ ?_).at hHD⟩
     ·have:=hpl.map fun i=>sts.getD i []
      rwa [zfd] at this
     ·have hps:p.size=sts.length:=zgQ hup.perm
      rw [List.pairwise_iff_getElem]
      intro i j hi hj hij
      rw [List.length_map,Array.length_toList] at hi hj
      have hk:=hup.lt_of hij (by lia)
      rw [List.getElem_map,List.getElem_map,Array.getElem_toList,Array.getElem_toList]
      have e1:p.getD i 0=p[i]:=by simp [hi]
      have e2:p.getD j 0=p[j]:=by simp [hj]
      unfold key at hk
      rw [e1,e2] at hk
      rw [<- uM hm (hpi _ (by simp)) (hpi _ (by simp))]
      exact decide_eq_true hk⟩
end
open PySem PySem.Spec PySem.Calls PyProof.Rows PySem.W
theorem zbc {prog:Program}{w:World}{A:Around}{E:Value->Shared->Prop}{s:Shared}{a:Addr}{vs:List Value}{n:Nat}{P:PySem.Fin->Shared->Prop}(ho:s.heap.get? a=some (seqObj "list" vs.toArray n))(h2:vs.length<2)
  (h:∀ h' c,(∀ b o,b≠a->s.heap.get? b=some o->h'.get? b=some o)->h'.get? a=some (seqObj "list" vs.toArray c)->P (.done (.ret .none)) { s with heap:=h' }) :
  wpAny (model prog w) A (Builtin.«list.sort» ⟨[.ref a],[]⟩) P E s:=by
 obtain ⟨e1,ho1⟩:∃ e1,(s.heap.update a (Obj.mapSeq fun _=>(#[]:Array Value))).get? a=some (seqObj "list" #[] e1):=⟨_,get?_update_seq ho fun _=>#[]⟩
 rw [list_sort_plain]
 refine wpAny_bind (listItems_at ho rfl ?_)
 refine wpAny_bind (listUpdate_at ho rfl ?_ (by rw [List.size_toArray,sizeLine_eq];lia) (Nat.zero_le _))
 refine wpAny_bind (seqEpoch_at ho1 rfl ?_)
 refine wpAny_bind (wpAny_newTuple ?_ (by show vs.length<=_;rw [sizeLine_eq];lia))
 refine wpAny_bind (wpAny_newList ?_ (Nat.zero_le _))
 refine wpAny_holding ?_
 show wpAny (model prog w) A _ P E { s with heap:=((s.heap.update a (Obj.mapSeq fun _=>(#[]:Array Value))).push (seqObj "tuple" vs.toArray 0)).push (seqObj "list" #[] 0) }
 dsimp only
 have hn2:vs.toArray.size<2:=by rw [List.size_toArray];lia
 rw [if_pos hn2,if_pos hn2]
 refine wpAny_bind (wpAny_pure ?_)
 refine wpAny_bind (m:=(pure ():StateT SortSt _ _).run _) (wpAny_pure ?_)
 have hsnd:(arrOf (SortSt.mk' general' (vs.toArray.zip vs.toArray) #[] 7 none)).map (fun x=>x.snd)=vs.toArray:=by
  show (vs.toArray.zip vs.toArray).map (fun x=>x.snd)=vs.toArray
  apply Array.toList_inj.mp
  rw [Array.toList_map,Array.toList_zip]
  exact List.map_snd_zip (Nat.le_refl _)
 have ha:a<s.heap.objs.size:=Heap.lt_size ho
 have g3:(((s.heap.update a (Obj.mapSeq fun _=>(#[]:Array Value))).push (seqObj "tuple" vs.toArray 0)).push (seqObj "list" #[] 0)).get? a=some (seqObj "list" #[] e1):=Heap.get?_push_of_some _ (Heap.get?_push_of_some _ ho1)
 refine wpAny_bind (seqEpoch_at g3 rfl ?_)
 refine wpAny_bind (listUpdate_at g3 rfl ?_ (Nat.zero_le _) ?_)
 ·show wpAny _ _ _ _ _ _
  dsimp only
  rw [hsnd]
  simp only [bne_self_eq_false,Bool.false_eq_true,if_false]
  refine wpAny_pure (h _ _ (fun b o hb e=>?_) (get?_update_seq g3 fun _=>vs.toArray))
  rw [Heap.get?_update_ne _ _ _ _ hb]
  refine Heap.get?_push_of_some _ (Heap.get?_push_of_some _ ?_)
  rw [Heap.get?_update_ne _ _ _ _ hb]
  exact e
 ·dsimp only
  rw [hsnd,List.size_toArray,sizeLine_eq]
  lia
theorem zc5 {prog:Program}{w:World}{A:Around}{E:Value->Shared->Prop}{s:Shared}{l:Addr}{vs:List Value}{Q:Value->Shared->Prop}(hl:s.heap.IsList l vs.toArray)(h2:vs.length<2)
  (h:∀ D h' c,(∀ b o,s.heap.get? b=some o->h'.get? b=some o)->s.heap.get? D=none->h'.get? D=some (seqObj "list" vs.toArray c)->Q (.ref D) { s with heap:=h' }) :
  wpAny (model prog w) A (call (.builtin "sorted") [.ref l]) Q E s:=by
 refine Calls.call_function_entry kind_sorted plain_sorted entry_sorted (args_sorted1 _) ?_
 unfold Builtin.«sorted»
 refine wpAny_bind (m:=checkCount "sorted" 1 1 _) (wpAny_pure ?_)
 refine wpAny_bind (collect_list hl ?_ (by rw [sizeLine_eq];lia))
 refine wpAny_bind (wpAny_newList ?_ (by rw [sizeLine_eq];lia))
 have hsz:((s.heap.push (seqObj "list" #[] 0)).update s.heap.objs.size (Obj.mapSeq (·++vs.toArray))).objs.size=s.heap.objs.size+1:=by
  rw [Heap.size_update,size_push']
 have hoL:(((s.heap.push (seqObj "list" #[] 0)).update s.heap.objs.size (Obj.mapSeq (·++vs.toArray))).push (seqObj "list" vs.toArray 0)).get? (s.heap.objs.size+1)=some (seqObj "list" vs.toArray 0):=by
  rw [<- hsz];exact Heap.get?_push_size _ rfl
 have keep:∀ b o,s.heap.get? b=some o->(((s.heap.push (seqObj "list" #[] 0)).update s.heap.objs.size (Obj.mapSeq (·++vs.toArray))).push (seqObj "list" vs.toArray 0)).get? b=some o:=fun b o q=>by
  have hlt:b<s.heap.objs.size:=Heap.lt_size q
  rw [Heap.get?_push_ne _ _ _ (by rw [hsz];exact Nat.ne_of_lt (Nat.lt_succ_of_lt hlt)),Heap.get?_update_ne _ _ _ _ (Nat.ne_of_lt hlt),Heap.get?_push_ne _ _ _ (Nat.ne_of_lt hlt)]
  exact q
 show wpAny _ _ _ _ _ { s with heap:=((s.heap.push (seqObj "list" #[] 0)).update s.heap.objs.size (Obj.mapSeq (·++vs.toArray))).push (seqObj "list" vs.toArray 0) }
 rw [hsz]
 refine wpAny_bind (wpAny_holding (wpAny_call_entry slot_list_sort ⟨_,hoL,rfl⟩ entry_list_sort ?body (args_list_sort _)))
 case body=>
  refine zbc (s:={ s with heap:=((s.heap.push (seqObj "list" #[] 0)).update s.heap.objs.size (Obj.mapSeq (·++vs.toArray))).push (seqObj "list" vs.toArray 0) }) hoL h2 fun h' c kp hD=>?_
  refine ⟨_,rfl,wpAny_pure ⟨_,rfl,h _ _ _ (fun b o e=>kp b o (Nat.ne_of_lt (Nat.lt_succ_of_lt (Heap.lt_size e))) (keep b o e)) ?_ hD⟩⟩
  exact Heap.get?_none_of_le (Nat.le_succ _)
section
variable {X:Cx}
def zlb:List V->Hp->VK->Prop:=fun xs H Q=>∃ (l:Addr) (vs:List V) (sts:List (List Int)) (m:Nat),xs=[.ref l]/\H l=some (.lst vs)/\IsL H (sts.map stD) vs/\1<=m/\(∀ st∈sts,st.length=m)/\sts.Nodup/\
 ∀ (ys:List V) (sts':List (List Int)),IsL H (sts'.map stD) ys->sts'.Perm sts->(sts'.Pairwise fun a b=>HT.lexLt a b=true)->New H (.lst ys) Q
theorem zfO:CallQ X (.builtin "sorted") zlb:=⟨by
 intro pins s σ H xs us Q I r h
 obtain ⟨l,vs,sts,m,rfl,hl,hsts,hm1,hm,hnd,q⟩:=h
 by_cases h2:2<=sts.length
 ·exact zh1.run _ _ _ _ _ _ _ I r ⟨l,vs,sts,m,rfl,hl,hsts,h2,hm1,hm,hnd,q⟩
 ·obtain ⟨u,rfl,ru⟩:=zcm r
  cases ru
  obtain ⟨its,rv,pl,hz⟩:=I.list (.of hl)
  have hvl:=hsts.length
  rw [List.length_map] at hvl
  have hil:=rv.length
  obtain ⟨m0,hns,_⟩:=id I.loc
  refine zc5 pl.isList (by lia) fun D h' c kp hDn hD=>?_
  have hHD:H D=none:=by
   cases e:H D with
   | none=>rfl
   | some o=>
    obtain ⟨o',ho'⟩:=zcQ (I.hok D o e)
    rw [hDn] at ho';cases ho'
  have I':=zgk I hns (ys:=vs) (fun b o _ e=>kp b o e) (by obtain ⟨o,es,ep,g,k⟩:=hns;exact ⟨o,es,ep,kp _ _ g,k⟩) hDn hHD hD rv (Nat.le_of_lt (uV (by lia))) s.toks
  refine ⟨.ref D,_,I',rfl,(q _ sts hsts (List.Perm.refl _) ?_).at hHD⟩
  match sts,h2 with
  | [],_=>exact .nil
  | [_],_=>exact List.pairwise_singleton _ _
  | _::_::_,h2=>exact absurd (by simp) h2⟩
end
open PySem
def tm (mask:Nat):SetTable:=⟨mask,#[],#[],0,true,0,true⟩
def stp (mask:Nat)(h:Int):Nat->SetTable.Probe
 | 0=>(tm mask).probeStart h
 | n+1=>(tm mask).advance (stp mask h n)
def wk (mask:Nat)(h:Int)(n:Nat):Nat:=(stp mask h n).j
open PySem PySem.Spec PyProof.Rows
section
variable {t:SetTable}{hashAt:Nat->Int}{h:Int}
end
section
variable {prog:Program}{w:World}
abbrev tk (prog:Program)(w:World):HeapKind prog w (List Key):=tupleKind (zQ prog w)
variable {t:SetTable}{es:Array (Int×Value)}{xs:List (List Key×Addr)}
variable {A:Around}{E:Value->Shared->Prop}{s:Shared}
end
section
variable {prog:Program}{w:World}{t:SetTable}{es:Array (Int×Value)}{xs:List (List Key×Addr)}{A:Around}{E:Value->Shared->Prop}{s:Shared}
end
section
variable {prog:Program}{w:World}{t:SetTable}{es:Array (Int×Value)}{xs:List (List Key×Addr)}
end
structure Own (mask:Nat)(hs:List Int)(n:Nat)(owner:Array (Option Nat)):Prop where
 size:owner.size=mask+1
 lt:∀ (j i:Nat),owner[j]?=some (some i)->i<n
 inj:∀ (j j' i:Nat),owner[j]?=some (some i)->owner[j']?=some (some i)->j=j'
 reach:∀ (i:Nat) (h:Int),i<n->hs[i]?=some h->∃ N,N<10 * SetTable.turns mask/\owner[wk mask h N]?=some (some i)/\∀ m,m<N->∃ i',owner[wk mask h m]?=some (some i')
section
variable {prog:Program}{w:World}{t:SetTable}{es:Array (Int×Value)}{xs:List (List Key×Addr)}
end
section
variable {prog:Program}{w:World}{t:SetTable}{es:Array (Int×Value)}{xs:List (List Key×Addr)}{A:Around}{E:Value->Shared->Prop}{s:Shared}
end
open PySem PySem.Spec PyProof.Rows PySem.W
end L2
namespace L2
open PySem PySem.Spec PyProof.Rows PySem.W
section
variable {prog:Program}{w:World}{t:SetTable}{es:Array (Int×Value)}{xs:List (List Key×Addr)}{A:Around}{E:Value->Shared->Prop}{s:Shared}
end
open PySem PySem.Spec PyProof.Rows PySem.W PySem.Calls
section
variable {prog:Program}{w:World}{t:SetTable}{es:Array (Int×Value)}{xs:List (List Key×Addr)}{A:Around}{E:Value->Shared->Prop}{s:Shared}
end
section
variable {prog:Program}{w:World}{A:Around}{E:Value->Shared->Prop}{s:Shared}
end
section
variable {X:Cx}
end
open PySem PySem.Spec PyProof.Rows
section
variable {prog:Program}{w:World}{A:Around}{E:Value->Shared->Prop}{R:Result->Shared->Prop}{s:Shared}
end
section
variable {X:Cx}
end
section
variable {P:Program}{w:World}{K:PySem.W.Frag}{a acc:Addr}{xs:List V}{g:TG}{ti:TT}{te:TE}{σ:St}{H:Hp}{Q:VK}
end
open PySem
theorem zhd (H:Hp):yL H H:=fun _ _ z=>z
open PySem PySem.Spec PyProof.Rows
section
variable {X:Cx}
end
open PySem PySem.Spec PyProof.Rows PySem.W PySem.Calls
section
variable {prog:Program}{w:World}{A:Around}{E:Value->Shared->Prop}{s:Shared}{es:Array DictEntry}
end
section
variable {prog:Program}{w:World}{A:Around}{E:Value->Shared->Prop}{s:Shared}
end
section
variable {X:Cx}
end
def keyT (kvs:List (List Int×V)):List (List Key×V):=kvs.map fun q=>(q.1.map Sum.inl,q.2)
def dtO (kvs:List (List Int×V)):HO:=.dT (keyT kvs)
section
variable {X:Cx}
end
open PySem PySem.Spec PyProof.Rows
abbrev Up' (l:List (List Int)):Prop:=l.Pairwise fun a b=>HT.lexLt a b=true
def insU (x:List Int):List (List Int)->List (List Int)
 | []=>[x]
 | y::r=>if HT.lexLt x y then x::y::r else if x=y then y::r else y::insU x r
def zpq (l:List (List Int)):List (List Int):=l.foldr insU []
theorem zec {m:Nat}:∀ {l l':List (List Int)},(∀ y∈l,y.length=m)->Up' l->Up' l'->(∀ z,z∈l↔z∈l')->l=l'
 | [],[],_,_,_,_=>rfl
 | [],y::r,_,_,_,h=>absurd ((h y).mpr List.mem_cons_self) (by simp)
 | x::l,[],_,_,_,h=>absurd ((h x).mp List.mem_cons_self) (by simp)
 | x::l,y::r,hm,hu,hu',h=>by
  rw [Up',List.pairwise_cons] at hu hu'
  have hm':∀ z∈y::r,z.length=m:=fun z hz=>hm z ((h z).mpr hz)
  have e:x=y:=by
   rcases List.mem_cons.mp ((h x).mp List.mem_cons_self) with e | e
   ·exact e
   ·rcases List.mem_cons.mp ((h y).mpr List.mem_cons_self) with e' | e'
    ·exact e'.symm
    ·have h1:=hu'.1 x e
     have h2:=hu.1 y e'
     have h3:=uN ((hm x List.mem_cons_self).trans (hm' y List.mem_cons_self).symm) ((hm' y List.mem_cons_self).trans (hm x List.mem_cons_self).symm) h2 h1
     rw [z9] at h3
     cases h3
  subst e
  have notin:∀ {l:List (List Int)},(∀ z∈l,HT.lexLt x z=true)->x∉l:=fun hl z=>by
   have:=hl x z
   rw [z9] at this
   cases this
  congr 1
  refine zec (fun z hz=>hm z (List.mem_cons_of_mem _ hz)) hu.2 hu'.2 fun z=>?_
  constructor
  ·intro hz
   rcases List.mem_cons.mp ((h z).mp (List.mem_cons_of_mem _ hz)) with e | e
   ·subst e;exact absurd hz (notin hu.1)
   ·exact e
  ·intro hz
   rcases List.mem_cons.mp ((h z).mpr (List.mem_cons_of_mem _ hz)) with e | e
   ·subst e;exact absurd hz (notin hu'.1)
   ·exact e
theorem zi2 {l:List (List Int)}(h:Up' l):l.Nodup:=h.imp fun {a b} hab e=>by
 subst e
 rw [z9] at hab
 cases hab
def zlW (bk:List Wi)(st hs:List Int):List (List Int):=(bk.filter fun x=>zoy st x&&!hs.contains x.b).map fun x=>chg st x.b x.r
def betF (bk:List Wi)(st hs:List Int):List (List Int):=zpq (zlW bk st hs)
theorem zcO {α:Type}[BEq α][LawfulBEq α]:∀ {l l':List α},l.Nodup->(∀ x∈l,x∈l')->l.length<=l'.length
 | [],_,_,_=>Nat.zero_le _
 | a::l,l',hn,h=>by
  rw [List.nodup_cons] at hn
  have ha:=h a List.mem_cons_self
  have:=zcO (l:=l) (l':=l'.erase a) hn.2 fun x hx=>by
   have hne:x≠a:=fun z=>hn.1 (by rw [<- z];exact hx)
   exact (List.mem_erase_of_ne hne).mpr (h x (List.mem_cons_of_mem _ hx))
  rw [List.length_erase_of_mem ha] at this
  have:0<l'.length:=List.length_pos_of_mem ha
  rw [List.length_cons]
  lia
open PySem
end L2
namespace L2
open PySem PySem.Spec PyProof.Rows PySem.SeqAt
section
variable {X:Cx}
end
open PySem PySem.Spec PyProof.Rows
def ziZ (C:Nat->Nat->Bool)(w j:Nat):List (List Int):=((List.range j).filter (C w)).map fun b:Nat=>[(w:Int),(b:Int)]
def zpv (C:Nat->Nat->Bool)(n:Nat):Nat->List (List Int)
 | 0=>[]
 | i+1=>zpv C n i++ziZ C i n
open PySem PySem.Spec PyProof.Rows PySem.W PySem.Calls
section
variable {prog:Program}{w:World}{A:Around}{E:Value->Shared->Prop}{s:Shared}{R:Result->Shared->Prop}
end
section
variable {X:Cx}
end
open PySem PySem.Spec PyProof.Rows
section
variable {X:Cx}{e st:Expr}{te tk:TE}{pos p2:Pos}
theorem zhA {xs:List V}{us:List Value}(r:zY xs us):∀ l:List Nat,zY (l.filterMap fun i=>xs[i]?) (l.filterMap fun i=>us.toArray[i]?)
 | []=>.nil
 | i::l=>by
  have ih:=zhA r l
  have hl:=r.length
  cases h:xs[i]? with
  | some x=>
   obtain ⟨u,hu,rx⟩:=r.get h
   rw [List.filterMap_cons_some h,List.filterMap_cons_some (show us.toArray[i]?=some u by simpa using hu)]
   exact .cons rx ih
  | none=>
   have h':=r.none_of h
   rw [List.filterMap_cons_none h,List.filterMap_cons_none (show us.toArray[i]?=none by simpa using h')]
   exact ih
end
def unlike (one z hs:List Int):List Int:=hs.filter fun b=>decide (zE one b≠zE z b)
section
variable {X:Cx}{pos:Pos}
end
end L2
namespace L2
open PySem PySem.Spec PyProof.Rows
end L2
namespace L2
open PySem PySem.Spec PyProof.Rows
section
variable {M:Model}{A:Around}{E:Value->Shared->Prop}{s:Shared}
end
section
variable {X:Cx}{pins:List (Addr×Obj)}{σ:St}{H:Hp}{s:Shared}{scope:Scope}{N:List Str}{z:Str}{cix:List (Option Nat)}
end
end L2
namespace L2
open PySem PySem.Spec PyProof.Rows
end L2
namespace L2
open PySem PySem.Spec PyProof.Rows
theorem zcj:typeLookup (.type "tuple") "keys" = pure none:=by rw [typeLookup_type,builtinLookup_eq_fast];kernel_rfl
theorem zaG {prog:Program}{w:World}{A:Around}{E:Value->Shared->Prop}{s:Shared}{a:Addr}{o:Obj}{xs:Array Value}{k:Nat}{name:Str}{Q:Option Value->Shared->Prop}
  (hx:s.heap.get? a=some o) (hc:o.cls = .type "tuple") (hdat:o.data = .seq xs k) (hd:o.dict=none) (hmiss:typeLookup (.type "tuple") name=pure none) (hname:(["__module__","__name__","__qualname__","__doc__","__annotations__"]:List Str).contains name=false) (hA:A.handled=none)
  (h:∀ h' tk e,Heap.NewExcOf s.heap h' e "AttributeError" -> Q none { s with heap:=h',toks:=tk }) (hsz:name.length+100<=sizeLine:=by size_fits) :
  wpAny (model prog w) A (getAttr? (.ref a) name) Q E s:=by
 obtain ⟨c,dct,dat,sl⟩:=o
 simp only at hc hdat hd
 subst hc hdat hd
 obtain ⟨hp,g,d,tk,os⟩:=s
 have hT:∀ tk',(⟨hp,g,d,tk',os⟩:Shared).TypeIs (.ref a) "tuple" := fun _=>⟨_,hx,rfl⟩
 have f1:=sub_AttributeError
 have f3:=F.slot_tuple_getattribute.lookup
 have f4:=F.slot_tuple_getattribute.bind (.ref a)
 have f5:=am_tuple_getattr_none
 unfold getAttr? getAttrBy? getAttrBy
 repeat (any_goals (first | assumption | exact hT _ | ((with_reducible show wpAny _ _ (call (Value.builtin "tuple.__getattribute__") _ _) _ _ _);refine call_meets F.slot_tuple_getattribute (hT _) am_entry_tuple_getattribute (F.args_tuple_getattribute_2 _ _) (meets_getattribute_miss_tuple a xs k sl name _ hmiss hname hsz) ⟨hx,hA,fun h' tk e hx'=>?_⟩) | wp_step))
 obtain ⟨t',u',he⟩:=hx'.there
 show wpAny _ _ (getattributeRaised _ _ _ _ _ _ _) _ _ _
 unfold getattributeRaised
 repeat (any_goals (first | assumption | wp_step))
 exact h _ _ _ hx'.of
theorem yv:entryFor table "dict.update.loop" = some Builtin.«dict.update.loop»:=entryFor_of_tree (by kernel_rfl)
theorem zH:plainId "dict.update.loop" = true:=by decide +kernel
structure PairAt (h:Heap)(q:Addr×Int×Tok×Value):Prop where
 at':IsTup h q.1 #[.int q.2.1 q.2.2.1,q.2.2.2]
theorem PairAt.keep {h h':Heap}{q:Addr×Int×Tok×Value}(x:PairAt h q)(k:∀ o,h.get? q.1=some o->h'.get? q.1=some o):PairAt h' q:=by
 obtain ⟨o,ho,r⟩:=x.at'
 exact ⟨⟨o,k o ho,r⟩⟩
section
variable {prog:Program}{w:World}{A:Around}{E:Value->Shared->Prop}{s:Shared}{R:Result->Shared->Prop}{Kt:Type}[DecidableEq Kt]{knd:KeyKind prog w Kt}{κ:Int->Kt}
theorem zbe {a:Addr}{o:Obj}{xs:Array Value}{n:Nat}{Q:Option (Array Value)->Shared->Prop}(ho:s.heap.get? a=some o)(hd:o.data = .seq xs n)(h:Q (some xs) s):wpAny (model prog w) A (seqItems? (.ref a)) Q E s:=by
 obtain ⟨c,d,dt,sl⟩:=o
 simp only at hd
 subst hd
 unfold seqItems?
 repeat (any_goals (first | assumption | wp_step))
theorem zf1 {D I l:Addr}{items:Array Value}{ps:List (Addr×Int×Tok×Value)}{tk0:Tok}(hh:A.in1.handled=none)(hkk:∀ n t,knd.is (κ n) (.int n t)=true)(hit:items.toList=ps.map fun q=>Value.ref q.1)(hDI:D≠I)(hlD:l≠D)(hlI:l≠I)(hq:∀ q∈ps,q.1≠D/\q.1≠I)(hn:ps.length<=1000) :
  ∀ (k i:Nat) (s:Shared) (kvs:List (Kt×Value)) (j:Int) (tj:Tok),ps.length - i=k->i<=ps.length->s.heap.IsTupleIter I l i->s.heap.IsTuple l items->(∀ q∈ps,PairAt s.heap q)->s.heap.DictOf knd D kvs->kvs.length<=i->
   (∀ h' tk',h'.DictOf knd D (merged kvs ((ps.drop i).map fun q=>(κ q.2.1,q.2.2.2)))->(∀ b o,b≠D->b≠I->s.heap.get? b=some o->h'.get? b=some o)->R (.ok (.ret .none)) { s with heap:=h',toks:=tk' })->
   codeAny (model prog w) A (.builtin "dict.update.loop" ⟨[.ref D,.ref I,.int j tj,.none],[]⟩) R s:=by
 intro k
 induction k with
 | zero=>
  intro i s kvs j tj hk hi hI hl hel hD hlen hR
  have hin:i=ps.length:=by lia
  subst hin
  refine codeAny_builtin yv ?_
  rw [Around.under_plainId zH _]
  show wpAny _ A.in1 (pyNext (.ref I) >>= _) _ _ s
  refine wpAny_bind (wpAny_pyNext_tuple_end hh hI hl ?_ fun h' hx=>?_)
  ·have e:items.toList[ps.length]?=none:=by rw [hit,List.getElem?_map,List.getElem?_eq_none (Nat.le_refl _)];rfl
   simpa using e
  show wpAny _ A.in1 (Builtin.Dict.addKeywords D [] >>= _) _ _ _
  refine wpAny_bind (wpAny_pure (wpAny_pure (hR h' s.toks ?_ fun b o _ hb e=>hx b o hb e)))
  rw [List.drop_length]
  obtain ⟨o,es,ep,ho,r⟩:=hD
  exact ⟨o,es,ep,hx D o hDI ho,r⟩
 | succ k ih=>
  intro i s kvs j tj hk hi hI hl hel hD hlen hR
  have hlt:i<ps.length:=by lia
  refine codeAny_builtin yv ?_
  rw [Around.under_plainId zH _]
  show wpAny _ A.in1 (pyNext (.ref I) >>= _) _ _ s
  have hx:items[i]?=some (Value.ref ps[i].1):=by
   have e:items.toList[i]?=some (Value.ref ps[i].1):=by rw [hit,List.getElem?_map,List.getElem?_eq_getElem hlt];rfl
   simpa using e
  have hmi:ps[i]∈ps:=List.getElem_mem hlt
  refine wpAny_bind (wpAny_pyNext_tuple_item hI hl hx fun h1 hI1 hs1=>?_)
  have kp1:∀ b o,b≠I->s.heap.get? b=some o->h1.get? b=some o:=fun b o hb e=>by rw [hs1.2 b hb];exact e
  have hel1:∀ q∈ps,PairAt h1 q:=fun q z=>(hel q z).keep fun o e=>kp1 _ _ (hq q z).2 e
  have hD1:h1.DictOf knd D kvs:=by
   obtain ⟨o,es,ep,ho,r⟩:=hD
   exact ⟨o,es,ep,kp1 _ _ hDI ho,r⟩
  have hp:=(hel1 _ hmi).at'
  have hT:Shared.TypeIs { s with heap:=h1 } (.ref ps[i].1) "tuple" := hp.typeIs
  refine wpAny_bind (wpAny_holding ?_)
  refine wpAny_bind (wpAny_tryCatch ?_)
  unfold Builtin.Dict.pairItems
  refine wpAny_bind (wpAny_typeOf hT ?_)
  rw [if_pos (by decide)]
  obtain ⟨o,ho,hc,n,hd⟩:=id hp
  refine wpAny_bind (zbe ho hd ?_)
  refine wpAny_pure ?_
  show wpAny _ _ (holding [Value.int ps[i].2.1 ps[i].2.2.1,ps[i].2.2.2] (dictSet D (Value.int ps[i].2.1 ps[i].2.2.1) ps[i].2.2.2)) _ _ _
  refine wpAny_holding ?_
  refine wpAny_dictSet_pairs (s:={ s with heap:=h1 }) (hkk _ _) hD1 (fun h2 hD2 hs2=>?_) (by rw [sizeLine_eq];lia)
  have kp2:∀ b o,b≠D->h1.get? b=some o->h2.get? b=some o:=fun b o hb e=>by rw [hs2.2 b hb];exact e
  refine wpAny_pure ⟨plainId_quiet zH _,ih (i+1) _ _ (j+1) _ (by lia) hlt ?_ ?_ ?_ hD2 ?_ ?_⟩
  ·obtain ⟨o,ho,r⟩:=hI1
   exact ⟨o,kp2 _ _ hDI.symm ho,r⟩
  ·obtain ⟨o,ho,r⟩:=hl
   exact ⟨o,kp2 _ _ hlD (kp1 _ _ hlI ho),r⟩
  ·exact fun q z=>(hel1 q z).keep fun o e=>kp2 _ _ (hq q z).1 e
  ·have:=stored_length_le kvs (κ ps[i].2.1) ps[i].2.2.2
   lia
  ·intro h' tk' hD' kp
   refine hR h' tk' ?_ fun b o b1 b2 e=>kp b o b1 b2 (kp2 b o b1 (kp1 b o b2 e))
   have e:ps.drop i=ps[i]::ps.drop (i+1):=List.drop_eq_getElem_cons hlt
   rw [e,List.map_cons]
   exact hD'
theorem zaH {l:Addr}{items:Array Value}{ps:List (Addr×Int×Tok×Value)}{Q:Value->Shared->Prop}(hh:A.handled=none)(hkk:∀ n t,knd.is (κ n) (.int n t)=true)(hinj:∀ a b,κ a=κ b->a=b)
  (hl:∃ o,s.heap.get? l=some o/\o.cls = .type "tuple" /\ (∃ n,o.data = .seq items n)/\o.dict=none) (hit:items.toList=ps.map fun q=>Value.ref q.1) (hel:∀ q∈ps,PairAt s.heap q) (hn:ps.length<=1000) (hnd:(ps.map (·.2.1)).Nodup)
  (h:∀ (h':Heap) (tk:Nat),h'.DictOf knd s.heap.objs.size (ps.map fun q=>(κ q.2.1,q.2.2.2))->(∀ b o,s.heap.get? b=some o->h'.get? b=some o)->Q (.ref s.heap.objs.size) { s with heap:=h',toks:=tk }) :
  wpAny (model prog w) A (call (.type "dict") [.ref l]) Q E s:=by
 refine callType_codes (Q₁:=fun obj s₁=>obj = .ref s.heap.objs.size/\s₁={ s with heap:=s.heap.push { cls:=.type "dict",data:=.dict #[] } }) F.kt_called_dict (F.kt_typeCall_dict_1 _) F.entry_dict_init (kt_code_dict_new _ ⟨rfl,rfl⟩) ?_
 rintro obj s₁ ⟨rfl,rfl⟩
 have hnew:(s.heap.push { cls:=.type "dict",data:=.dict #[] }).DictOf knd s.heap.objs.size []:=Heap.DictOf.new s.heap
 obtain ⟨o,ho,hc,⟨n,hd⟩,hdn⟩:=hl
 have ho1:(s.heap.push { cls:=.type "dict",data:=.dict #[] }).get? l=some o:=Heap.get?_push_of_some _ ho
 have hT1:Shared.TypeIs { s with heap:=s.heap.push { cls:=.type "dict",data:=.dict #[] } } (.ref l) "tuple" := ⟨o,ho1,hc⟩
 refine ⟨hnew.typeIs,F.args_dict_init_2 _ _,?_⟩
 unfold Builtin.«dict.__init__»
 refine wpAny_bind ?_
 unfold Builtin.Dict.selfAndRest
 refine wpAny_bind (wpAny_notOrdered_dict hnew.typeIs ?_)
 show wpAny _ _ (pure (s.heap.objs.size,[Value.ref l])) _ _ _
 refine wpAny_pure ?_
 show wpAny _ _ (Builtin.Dict.updateFrom "dict.__init__" s.heap.objs.size (.ref l) [] .none) _ _ _
 unfold Builtin.Dict.updateFrom
 refine wpAny_bind (wpAny_typeOf hT1 ?_)
 rw [if_pos (by decide)]
 refine wpAny_bind (zaG ho1 hc hd hdn zcj (by decide) (by simp [hh]) (fun h2 tk e hx=>?_) (by decide))
 have kp2:=hx.keeps
 rw [if_pos (by rfl)]
 refine wpAny_bind (wpAny_rule ?_)
 have hlS:l<s.heap.objs.size:=Heap.lt_size ho
 have hqS:∀ q∈ps,q.1<s.heap.objs.size:=fun q hq=>by
  obtain ⟨o,ho,_⟩:=(hel q hq).at'
  exact Heap.lt_size ho
 have hg2:s.heap.objs.size<h2.objs.size:=by
  obtain ⟨_,_,_,hg,_⟩:=hnew
  exact Heap.lt_size (kp2 _ _ hg)
 have ho2:=kp2 _ _ ho1
 refine wpAny_bind (wpAny_pyIter_tuple (s:={ s with heap:=h2,toks:=tk }) ⟨o,ho2,hc,n,hd⟩ ?_)
 refine wpAny_pure ⟨plainId_quiet zH _,?_⟩
 refine zf1 (A:=A.in1) (knd:=knd) (κ:=κ) (items:=items) (ps:=ps) (l:=l) (tk0:=0) (by simp [hh]) hkk hit ?_ ?_ ?_ ?_ hn (ps.length - 0) 0 _ [] _ _ (by lia) (Nat.zero_le _) ⟨_,Heap.get?_push_size _ rfl,rfl,rfl⟩ ?_ ?_ ?_ (Nat.le_refl _) ?_
 ·exact Nat.ne_of_lt hg2
 ·exact Nat.ne_of_lt hlS
 ·exact Nat.ne_of_lt (Nat.lt_trans hlS hg2)
 ·intro q hq
  have:=hqS q hq
  exact ⟨Nat.ne_of_lt this,Nat.ne_of_lt (Nat.lt_trans this hg2)⟩
 ·exact ⟨o,Heap.get?_push_of_some _ ho2,hc,n,hd⟩
 ·exact fun q hq=>(hel q hq).keep fun o e=>Heap.get?_push_of_some _ (kp2 _ _ (Heap.get?_push_of_some _ e))
 ·obtain ⟨o',es,ep,ho',r⟩:=hnew
  exact ⟨o',es,ep,Heap.get?_push_of_some _ (kp2 _ _ ho'),r⟩
 ·intro h' tk' hD kp
  refine ⟨rfl,h h' tk' ?_ fun b o e=>?_⟩
  ·rw [List.drop_zero,merged_nil_of_nodup] at hD
   ·exact hD
   ·rw [List.map_map]
    have e:(ps.map ((fun x=>x.1) ∘ fun q=>(κ q.2.1,q.2.2.2)))=(ps.map (·.2.1)).map κ:=by rw [List.map_map];rfl
    rw [e]
    exact List.Pairwise.map κ (fun a b hab he=>hab (hinj a b he)) hnd
  ·have hb:=Heap.lt_size e
   exact kp b o (Nat.ne_of_lt hb) (Nat.ne_of_lt (Nat.lt_trans hb hg2)) (Heap.get?_push_of_some _ (kp2 _ _ (Heap.get?_push_of_some _ e)))
end
structure PrsAt (H:Hp)(a:Addr)(ps:List (Addr×Int×V)):Prop where
 at':H a=some (.tup (ps.map fun q=>V.ref q.1))
 one:∀ q∈ps,H q.1=some (.tup [.int q.2.1,q.2.2])
theorem zo5 {ps:List (Addr×Int×V)}{P:Program}{w:World}{H:Hp}{h:Heap}(ok:HOk P w H h):∀ {its:List Value},zY (ps.map fun q=>V.ref q.1) its->(∀ q∈ps,H q.1=some (.tup [.int q.2.1,q.2.2]))->
  ∃ qs:List (Addr×Int×Tok×Value),its=qs.map (fun q=>Value.ref q.1)/\(∀ q∈qs,PairAt h q)/\qs.map (·.2.1)=ps.map (·.2.1)/\KV (ps.map fun q=>((Sum.inl q.2.1:Key),q.2.2)) (qs.map fun q=>((Sum.inl q.2.1:Key),q.2.2.2)):=by
 induction ps with
 | nil=>intro its r _;cases r;exact ⟨[],rfl,fun _ h=>by simp at h,rfl,.nil⟩
 | cons q ps ih=>
  intro its r hq
  cases r with
  | cons r1 r2=>
   obtain ⟨qs,rfl,h1,h2,h3⟩:=ih r2 fun z hz=>hq z (List.mem_cons_of_mem _ hz)
   cases r1
   obtain ⟨_,us,rv,o,ho,hc,⟨n,hd⟩,_⟩:=(show yp P w H h q.1 (.tup _) from ok _ _ (hq q List.mem_cons_self))
   cases rv with
   | cons rk rv=>
    cases rv with
    | cons ru rn=>
     cases rn
     obtain ⟨t,rfl⟩:=rk
     refine ⟨(q.1,q.2.1,t,_)::qs,rfl,fun z hz=>?_,by rw [List.map_cons,List.map_cons,h2],.cons ⟨rfl,ru⟩ h3⟩
     rcases List.mem_cons.mp hz with rfl | hz
     ·exact ⟨⟨o,ho,hc,n,hd⟩⟩
     ·exact h1 z hz
def zg2:List V->Hp->VK->Prop:=fun xs H Q=>∃ (a:Addr) (ps:List (Addr×Int×V)),xs=[.ref a]/\PrsAt H a ps/\(ps.map (·.2.1)).Nodup/\ps.length<=1000/\New H (.dK (ps.map fun q=>((Sum.inl q.2.1:Key),q.2.2))) Q
theorem zel {X:Cx}(hc:X.calm=true):CallQ X (.type "dict") zg2:=⟨by
 intro pins s σ H xs us Q I rr hh
 obtain ⟨a,ps,rfl,hp,hnd,hn,q⟩:=hh
 cases rr with
 | cons r1 r2=>
  cases r2
  cases r1
  obtain ⟨hz,its,rv,o,ho,hcl,⟨n,hd⟩,hdn⟩:=(show yp X.prog X.w H s.heap a (.tup _) from I.hok a _ hp.at')
  obtain ⟨qs,rfl,h1,h2,h3⟩:=zo5 I.hok rv hp.one
  have hlen:qs.length=ps.length:=by have:=congrArg List.length h2;simpa using this
  refine zaH (knd:=zQ X.prog X.w) (κ:=Sum.inl) (items:=(qs.map fun q=>Value.ref q.1).toArray) (ps:=qs) (I.ok.hd hc) (fun n t=>za3 _ _ n t) (fun a b e=>Sum.inl.inj e) ⟨o,ho,hcl,⟨n,hd⟩,hdn⟩ (by simp) h1 (by lia) (by rw [h2];exact hnd) fun h' tk hD kp=>?_
  have hf:H s.heap.objs.size=none:=I.hok.fresh (Nat.le_refl _)
  refine ⟨.ref s.heap.objs.size,_,I.laid (t':=tk) (o:=.dK (ps.map fun q=>((Sum.inl q.2.1:Key),q.2.2))) kp (Nat.le_refl _) ⟨?_,?_,_,h3,hD⟩,rfl,q.at hf⟩
  ·rw [List.length_map,sizeLine_eq];lia
  ·exact beq_eq_false_iff_ne.mpr (Ne.symm (Nat.ne_of_lt I.big))⟩
end L2
namespace L2
open PySem PySem.Spec PyProof.Rows
section
variable {prog:Program}{w:World}{A:Around}{E:Value->Shared->Prop}{s:Shared}
end
section
variable {X:Cx}
end
end L2
namespace L3
open PySem L2
abbrev zj:=Addr×Addr×List Int
inductive W where
 | d (x:Dt) | pen (p:Addr) | dk (kvs:List (Key×Dt)) | dt (kvs:List (List Int×Dt))
abbrev Mo (α:Type):=Nat->(α->Nat->Prop)->Prop
abbrev Ev:=List (Option W)
def NP (o:HO):Prop:=∀ kvs,o = .dK kvs->uY kvs (Sum.inr "at" : Key)=none
theorem NP.lst {xs:List V}:NP (.lst xs):=fun _ e=>by cases e
open Classical in
noncomputable def yr (A:Addr->Prop)(H:Hp):Hp:=fun b=>if A b then none else H b
section
variable {A A0:Addr->Prop}{H H' G G' T T':Hp}{a b:Addr}{o:HO}
theorem yu:yr A H b=some o↔¬ A b/\H b=some o:=by
 unfold yr
 by_cases h:A b
 ·simp [h]
 ·simp [h]
theorem yx (h:¬ A b)(e:H b=some o):yr A H b=some o:=yu.mpr ⟨h,e⟩
theorem zq:yL (yr A H) H:=fun b o e=>(yu.mp e).2
theorem zZ (s:zu H H'):zu (yr A H) (yr A H'):=fun b o e n=>yx (yu.mp e).1 (s b o (yu.mp e).2 n)
theorem zaQ (s:yL H H'):yL (yr A H) (yr A H'):=fun b o e=>yx (yu.mp e).1 (s b o (yu.mp e).2)
theorem uF (h:∀ b,A0 b->A b):yL (yr A H) (yr A0 H):=fun b o e=>yx (fun z=>(yu.mp e).1 (h b z)) (yu.mp e).2
theorem zaz (h:A a):yr A (upd H a o)=yr A H:=by
 funext b
 unfold yr
 by_cases hb:A b
 ·simp [hb]
 ·have:b≠a:=fun e=>hb (e ▸ h)
  simp [hb,ze this]
end
def DAt (T G:Hp):Dt->V->Prop
 | .lst l,v=>∃ a xs,v = .ref a/\T a=some (.lst xs)/\IsL G l xs
 | .dct,v=>∃ a kvs,v = .ref a/\T a=some (.dK kvs)/\uY kvs (Sum.inr "at" : Key)=none
 | .non,v=>Is G .non v
 | .bl b,v=>Is G (.bl b) v
 | .int i,v=>Is G (.int i) v
 | .str x,v=>Is G (.str x) v
 | .tup l,v=>Is G (.tup l) v
theorem DAt.is {G:Hp}{x:Dt}{v:V}(h:DAt G G x v):Is G x v:=by cases x <;> exact h
theorem DAt.of {G:Hp}{x:Dt}{v:V}(h:Is G x v):DAt G G x v:=by cases x <;> exact h
theorem DAt.up {T T' G G':Hp}{x:Dt}{v:V}(t:zu T T')(g:zu G G')(h:DAt T G x v):DAt T' G' x v:=by
 cases x with
 | lst l=>obtain ⟨a,xs,e,h1,h2⟩:=h;exact ⟨a,xs,e,t.lst h1,h2.stay g⟩
 | dct=>obtain ⟨a,kvs,e,h1,h2⟩:=h;exact ⟨a,kvs,e,t _ _ h1 fun k q=>by cases q;exact h2,h2⟩
 | _=>exact Is.stay g h
theorem DAt.full {T G H:Hp}{x:Dt}{v:V}(t:yL T H)(g:yL G H)(h:DAt T G x v):Is H x v:=(DAt.up (zu.same t) (zu.same g) h).is
def zfu {κ:Type}(G:Hp):List (κ×Dt)->List (κ×V)->Prop
 | [],ks=>ks=[]
 | q::r,ks=>∃ v s,ks=(q.1,v)::s/\Is G q.2 v/\zfu G r s
theorem zfu.stay {κ:Type}{G G':Hp}(s:zu G G'):∀ {kvs:List (κ×Dt)} {ks:List (κ×V)},zfu G kvs ks->zfu G' kvs ks
 | [],_,h=>h
 | q::r,ks,⟨v,t,e,h1,h2⟩=>⟨v,t,e,h1.stay s,zfu.stay s h2⟩
def WAt (T G:Hp):W->V->Prop
 | .d x,v=>DAt T G x v
 | .pen p,v=>v = .ref p
 | .dk kvs,v=>∃ a ks,v = .ref a/\T a=some (.dK ks)/\zfu G kvs ks/\uY ks (Sum.inr "at" : Key)=none
 | .dt kvs,v=>∃ a ks,v = .ref a/\T a=some (dtO ks)/\zfu G kvs ks
theorem WAt.up {T T' G G':Hp}{w:W}{v:V}(t:zu T T')(g:zu G G')(h:WAt T G w v):WAt T' G' w v:=by
 cases w with
 | d x=>exact DAt.up t g h
 | pen p=>exact h
 | dk kvs=>
  obtain ⟨a,ks,e,h1,h2,h3⟩:=h
  exact ⟨a,ks,e,t _ _ h1 fun k q=>by cases q;exact h3,h2.stay g,h3⟩
 | dt kvs=>
  obtain ⟨a,ks,e,h1,h2⟩:=h
  exact ⟨a,ks,e,t _ _ h1 (fun k q=>by cases q),h2.stay g⟩
@[reducible] def W.mut:W->Bool
 | .d (.lst _)=>true
 | .d .dct=>true
 | .dk _=>true
 | .dt _=>true
 | _=>false
abbrev Val (A:Addr->Prop)(H:Hp)(w:W)(v:V):Prop:=WAt (yr A H) (yr A H) w v
abbrev Bor (A:Addr->Prop)(H:Hp)(w:W)(v:V):Prop:=WAt H (yr A H) w v
theorem Val.bor {A:Addr->Prop}{H:Hp}{w:W}{v:V}(h:Val A H w v):Bor A H w v:=WAt.up (zu.same zq) (zu.refl _) h
theorem Val.stay {A:Addr->Prop}{H H':Hp}{w:W}{v:V}(h:Val A H w v)(s:zu H H'):Val A H' w v:=WAt.up (zZ s) (zZ s) h
theorem Bor.stay {A:Addr->Prop}{H H':Hp}{w:W}{v:V}(h:Bor A H w v)(s:zu H H'):Bor A H' w v:=WAt.up s (zZ s) h
theorem Bor.is {A:Addr->Prop}{H:Hp}{x:Dt}{v:V}(h:Bor A H (.d x) v):Is H x v:=DAt.full (zhd _) zq h
theorem Val.is {A:Addr->Prop}{H:Hp}{x:Dt}{v:V}(h:Val A H (.d x) v):Is (yr A H) x v:=DAt.is h
theorem Val.of {A:Addr->Prop}{H:Hp}{x:Dt}{v:V}(h:Is (yr A H) x v):Val A H (.d x) v:=DAt.of h
mutual
theorem zjq {A:Addr->Prop}{H:Hp}(hA:∀ a xs,A a->H a≠some (.tup xs)):∀ {x:Dt} {v:V},x.noL=true->Is H x v->Is (yr A H) x v
 | .non,_,_,h=>h
 | .bl _,_,_,h=>h
 | .int _,_,_,h=>h
 | .str _,_,_,h=>h
 | .tup l,_,n,h=>by
  obtain ⟨p,xs,e,hp,hl⟩:=h
  exact ⟨p,xs,e,yx (fun z=>hA p xs z hp) hp,zaS hA (by simpa [Dt.noL] using n) hl⟩
 | .lst l,_,n,_=>by simp [Dt.noL] at n
 | .dct,_,n,_=>by simp [Dt.noL] at n
theorem zaS {A:Addr->Prop}{H:Hp}(hA:∀ a xs,A a->H a≠some (.tup xs)):∀ {ds:List Dt} {xs:List V},Dt.noLs ds=true->IsL H ds xs->IsL (yr A H) ds xs
 | [],_,_,h=>h
 | d::ds,xs,n,h=>by
  obtain ⟨x,r,e,h1,h2⟩:=h
  have n':(d.noL&&Dt.noLs ds)=true:=by simpa [Dt.noLs] using n
  rw [Bool.and_eq_true] at n'
  exact ⟨x,r,e,zjq hA n'.1 h1,zaS hA n'.2 h2⟩
end
def xR (Pn:Option zj)(A:Addr->Prop)(n:Nat)(H:Hp):Prop:=
 match Pn with
 | none=>True
 | some (p,c,ns)=>Pen H p c ns n/\¬ A c/\¬ A p
def Own (A:Addr->Prop)(H:Hp)(w:W)(v:V):Prop:=∃ a,v = .ref a/\A a/\Bor A H w v/\w.mut=true
def Al (A:Addr->Prop)(H:Hp):Prop:=∀ a,A a->∃ o,H a=some o/\NP o/\∀ xs,o≠.tup xs
structure EnvR (A:Addr->Prop)(M:List Nat)(σ:St)(H:Hp)(ρ:Ev):Prop where
 len:σ.length=ρ.length
 val:∀ i w,ρ[i]?=some (some w)->∃ v,σ[i]?=some (some v)/\(i∉M->Val A H w v)/\(i∈M->Own A H w v)
 dis:∀ i j w u a,i∈M->j∈M->i≠j->ρ[i]?=some (some w)->ρ[j]?=some (some u)->σ[i]?=some (some (.ref a))->σ[j]?≠some (some (.ref a))
 al:Al A H
theorem EnvR.stay {A:Addr->Prop}{M:List Nat}{σ:St}{H H':Hp}{ρ:Ev}(E:EnvR A M σ H ρ)(s:zu H H'):EnvR A M σ H' ρ where
 len:=E.len
 val:=fun i w e=>by
  obtain ⟨v,h1,h2,h3⟩:=E.val i w e
  refine ⟨v,h1,fun z=>(h2 z).stay s,fun z=>?_⟩
  obtain ⟨a,e,h4,h5,h6⟩:=h3 z
  exact ⟨a,e,h4,h5.stay s,h6⟩
 dis:=E.dis
 al:=fun a h=>by
  obtain ⟨o,h1,h2,h3⟩:=E.al a h
  exact ⟨o,s _ _ h1 h2,h2,h3⟩
theorem EnvR.new {A:Addr->Prop}{M:List Nat}{σ:St}{H:Hp}{ρ:Ev}(E:EnvR A M σ H ρ){p:Addr}(h:H p=none):¬ A p:=fun z=>by
 obtain ⟨o,h1,_⟩:=E.al p z
 rw [h] at h1
 cases h1
def Fr (H:Hp)(a:Addr):Prop:=∀ o,H a=some o->¬ NP o
theorem Fr.of {H:Hp}{a:Addr}(h:H a=none):Fr H a:=fun o e=>by rw [h] at e;cases e
theorem Fr.back {H H1:Hp}{a:Addr}(h:Fr H1 a)(s:zu H H1):Fr H a:=fun o e n=>h o (s _ _ e n) n
def FrV (A:Addr->Prop)(H H':Hp)(w:W)(v:V):Prop:=∃ a,v = .ref a/\Fr H a/\WAt H' (yr (fun b=>A b\/b=a) H') w v
theorem FrV.back {A:Addr->Prop}{H H1 H':Hp}{w:W}{v:V}(h:FrV A H1 H' w v)(s:zu H H1):FrV A H H' w v:=let ⟨a,e,f,g⟩:=h;⟨a,e,f.back s,g⟩
theorem FrV.less {A A0:Addr->Prop}{H H':Hp}{w:W}{v:V}(h:FrV A H H' w v)(s:∀ a,A0 a->A a):FrV A0 H H' w v:=let ⟨a,e,f,g⟩:=h;⟨a,e,f,WAt.up (zu.refl _) (zu.same (uF fun b z=>z.elim (fun z=>.inl (s b z)) .inr)) g⟩
theorem EnvR.newF {A:Addr->Prop}{M:List Nat}{σ:St}{H:Hp}{ρ:Ev}(E:EnvR A M σ H ρ){p:Addr}(h:Fr H p):¬ A p:=fun z=>by
 obtain ⟨o,h1,h2,_⟩:=E.al p z
 exact h o h1 h2
theorem xp {A:Addr->Prop}{H H':Hp}{p:Addr}(s:zu H H')(n:Fr H p):zu (yr A H) (yr (fun b=>A b\/b=p) H'):=fun b o e np=>by
 obtain ⟨h1,h2⟩:=yu.mp e
 exact yx (fun z=>z.elim h1 fun z=>by subst z;exact n o h2 np) (s b o h2 np)
structure Go (Pn:Option zj)(A:Addr->Prop)(H:Hp)(n:Nat)(H':Hp):Prop where
 st:zu H H'
 pn:xR Pn A n H'
theorem Go.trans {Pn:Option zj}{A:Addr->Prop}{H H1 H2:Hp}{n m:Nat}(a:Go Pn A H n H1)(b:Go Pn A H1 m H2):Go Pn A H m H2:=⟨a.st.trans b.st,b.pn⟩
structure RE (Pn:Option zj)(M:List Nat)(fr:Bool)(te:TE)(f:Ev->Mo W):Prop where
 run:∀ A σ H ρ n Q R,EnvR A M σ H ρ->xR Pn A n H->f ρ n R->(∀ w m v H',R w m->Val A H' w v->Go Pn A H m H'->(fr=true->FrV A H H' w v)->Q v H')->te σ H Q
structure RB (Pn:Option zj)(M:List Nat)(te:TE)(f:Ev->Mo W):Prop where
 run:∀ A σ H ρ n Q R,EnvR A M σ H ρ->xR Pn A n H->f ρ n R->(∀ w m v H',R w m->Bor A H' w v->Go Pn A H m H'->Q v H')->te σ H Q
structure RT (Pn:Option zj)(M:List Nat)(te:TT)(f:Ev->Mo Bool):Prop where
 run:∀ A σ H ρ n Q R,EnvR A M σ H ρ->xR Pn A n H->f ρ n R->(∀ b m H',R b m->Go Pn A H m H'->Q b H')->te σ H Q
def zlu (A:Addr->Prop)(H:Hp):List W->List V->Prop
 | [],vs=>vs=[]
 | w::ws,vs=>∃ v r,vs=v::r/\Bor A H w v/\zlu A H ws r
def zbG (A:Addr->Prop)(H:Hp):List W->List V->Prop
 | [],vs=>vs=[]
 | w::ws,vs=>∃ v r,vs=v::r/\Val A H w v/\zbG A H ws r
theorem zbG.bor {A:Addr->Prop}{H:Hp}:∀ {ws:List W} {vs:List V},zbG A H ws vs->zlu A H ws vs
 | [],_,h=>h
 | _::_,_,⟨v,r,e,h1,h2⟩=>⟨v,r,e,h1.bor,zbG.bor h2⟩
structure RA (Pn:Option zj)(M:List Nat)(ta:TA)(f:Ev->Mo (List W)):Prop where
 run:∀ A σ H ρ n Q R,EnvR A M σ H ρ->xR Pn A n H->f ρ n R->(∀ ws m vs H',R ws m->zbG A H' ws vs->Go Pn A H m H'->Q vs H')->ta σ H Q
structure RAB (Pn:Option zj)(M:List Nat)(ta:TA)(f:Ev->Mo (List W)):Prop where
 run:∀ A σ H ρ n Q R,EnvR A M σ H ρ->xR Pn A n H->f ρ n R->(∀ ws m vs H',R ws m->zlu A H' ws vs->Go Pn A H m H'->Q vs H')->ta σ H Q
structure Kt where
 nx:Ev->Nat->Prop
 rt:W->Nat->Prop
 bk:Ev->Nat->Prop:=fun _ _=>False
 ct:Ev->Nat->Prop:=fun _ _=>False
abbrev Ms:=Ev->Nat->Kt->Prop
def StX (ca:Addr->Prop)(H0 H:Hp):Prop:=∀ b o,H0 b=some o->NP o->¬ ca b->H b=some o
theorem StX.of {ca:Addr->Prop}{H0 H:Hp}(s:zu H0 H):StX ca H0 H:=fun b o e n _=>s b o e n
theorem StX.stay {H0 H:Hp}(s:StX (fun _=>False) H0 H):zu H0 H:=fun b o e n=>s b o e n fun z=>z
structure Frm (A0:Addr->Prop)(H0:Hp)(ca:Addr->Prop)(A:Addr->Prop)(H:Hp):Prop where
 sub:∀ a,A0 a->A a
 new:∀ a,A a->A0 a\/Fr H0 a\/ca a
 st:StX ca H0 H
 al:Al A0 H0
 cn:∀ a,ca a->¬ A0 a
 cs:∀ a,ca a->∃ o,H a=some o/\NP o
theorem Frm.back {A0:Addr->Prop}{H0:Hp}{ca A:Addr->Prop}{H:Hp}(f:Frm A0 H0 ca A H){a:Addr}(h:Fr H a)(n:¬ A a):Fr H0 a:=fun o e np=>h o (f.st a o e np fun z=>let ⟨o2,e2,n2⟩:=f.cs a z;h o2 e2 n2) np
structure Bs where
 ca:Addr->Prop:=fun _=>False
 A0:Addr->Prop
 H0:Hp
 G0:Hp
 σ0:St
structure At3 (Pn:Option zj)(B:Bs)(S M:List Nat)(A:Addr->Prop)(σ:St)(H:Hp)(ρ:Ev)(n:Nat):Prop where
 env:EnvR A M σ H ρ
 frm:Frm B.A0 B.H0 B.ca A H
 pn:xR Pn A n H
 prot:zu B.G0 (yr A H)
 fix:∀ i∈S,σ[i]?=B.σ0[i]?
 mine:∀ i w a,i∈M->ρ[i]?=some (some w)->σ[i]?=some (some (.ref a))->Fr B.H0 a\/B.ca a
structure KOk (Pn:Option zj)(B:Bs)(S M:List Nat)(fr:Bool)(k:Kt)(D:Ends):Prop where
 nx:∀ A σ H ρ n,At3 Pn B S M A σ H ρ n->k.nx ρ n->D.nx σ H
 bk:∀ A σ H ρ n,At3 Pn B S M A σ H ρ n->k.bk ρ n->D.bk σ H
 ct:∀ A σ H ρ n,At3 Pn B S M A σ H ρ n->k.ct ρ n->D.ct σ H
 fc:fr=true->∀ a,¬ B.ca a
 rt:∀ w n v H,Val B.A0 H w v->StX B.ca B.H0 H->xR Pn B.A0 n H->(fr=true->FrV B.A0 B.H0 H w v)->k.rt w n->D.rt v H
structure RS (Pn:Option zj)(S M:List Nat)(fr:Bool)(ts:TS)(fs:Ms):Prop where
 run:∀ B A σ H ρ n k D,At3 Pn B S M A σ H ρ n->KOk Pn B S M fr k D->fs ρ n k->ts D σ H
structure RG (S M:List Nat)(g:TG)(mg:W->Ev->(Ev->Prop)->Prop):Prop where
 run:∀ A σ H ρ v w Q R,EnvR A M σ H ρ->Val A H w v->mg w ρ R->(∀ σ' ρ',R ρ'->EnvR A M σ' H ρ'->(∀ i∈S,σ'[i]?=σ[i]?/\ρ'[i]?=ρ[i]?)->Q σ' H)->g v σ H Q
structure RGs (S M:List Nat)(g:TGs)(mg:List Dt->Ev->(Ev->Prop)->Prop):Prop where
 run:∀ A σ H ρ vs ds Q R,EnvR A M σ H ρ->IsL (yr A H) ds vs->mg ds ρ R->(∀ σ' ρ',R ρ'->EnvR A M σ' H ρ'->(∀ i∈S,σ'[i]?=σ[i]?/\ρ'[i]?=ρ[i]?)->Q σ' H)->g vs σ H Q
structure ItV (ow:Bool)(A:Addr->Prop)(H:Hp)(J:It)(l:List W):Prop where
 one:∀ i w A2 H2,l[i]?=some w->zu (yr A H) (yr A2 H2)->(ow=true->zu H H2)->(∀ p,H2 p=none->¬ A2 p)->J.go i H2/\∀ x H3,J.yld i H2 x H3->yL H2 H3/\Val A2 H3 w x
 stop:∀ A2 H2,zu (yr A H) (yr A2 H2)->(ow=true->zu H H2)->J.stop l.length H2
structure RI (Pn:Option zj)(M:List Nat)(ow:Bool)(wi:TI)(f:Ev->Mo (List W)):Prop where
 run:∀ A σ H ρ n Q R,EnvR A M σ H ρ->xR Pn A n H->f ρ n R->(∀ l m J H',R l m->ItV ow A H' J l->Go Pn A H m H'->Q J H')->wi σ H Q
theorem RE.rb {Pn:Option zj}{M:List Nat}{fr:Bool}{te:TE}{f:Ev->Mo W}(h:RE Pn M fr te f):RB Pn M te f:=
 ⟨fun A σ H ρ n Q R E P hf k=>h.run A σ H ρ n Q R E P hf fun w m v H' r a g _=>k w m v H' r a.bor g⟩
theorem RA.rab {Pn:Option zj}{M:List Nat}{te:TA}{f:Ev->Mo (List W)}(h:RA Pn M te f):RAB Pn M te f:=
 ⟨fun A σ H ρ n Q R E P hf k=>h.run A σ H ρ n Q R E P hf fun w m v H' r a g=>k w m v H' r a.bor g⟩
theorem xR.same {Pn:Option zj}{A:Addr->Prop}{n:Nat}{H H':Hp}(h:xR Pn A n H)(s:yL H H'):xR Pn A n H':=by
 unfold xR at h ⊢
 split at h
 ·trivial
 ·exact ⟨h.1.same s,h.2⟩
theorem Go.same {Pn:Option zj}{A:Addr->Prop}{n:Nat}{H H':Hp}(h:xR Pn A n H)(s:yL H H'):Go Pn A H n H':=⟨zu.same s,h.same s⟩
theorem Go.refl {Pn:Option zj}{A:Addr->Prop}{n:Nat}{H:Hp}(h:xR Pn A n H):Go Pn A H n H:=⟨zu.refl _,h⟩
structure JE (X:Cx)(Pn:Option zj)(M:List Nat)(fr:Bool)(e:Expr)(f:Ev->Mo W):Prop where
 ex:∃ te,QE X e te/\RE Pn M fr te f
structure JB (X:Cx)(Pn:Option zj)(M:List Nat)(e:Expr)(f:Ev->Mo W):Prop where
 ex:∃ te,QE X e te/\RB Pn M te f
structure JT (X:Cx)(Pn:Option zj)(M:List Nat)(e:Expr)(f:Ev->Mo Bool):Prop where
 ex:∃ te,QT X e te/\RT Pn M te f
structure JW (X:Cx)(Pn:Option zj)(M:List Nat)(e:Expr)(f:Ev->Mo Bool):Prop where
 ex:∃ te,QW X e te/\RT Pn M te f
structure JA (X:Cx)(Pn:Option zj)(M:List Nat)(es:List Expr)(f:Ev->Mo (List W)):Prop where
 ex:∃ te,QA X es te/\RA Pn M te f
structure JAB (X:Cx)(Pn:Option zj)(M:List Nat)(es:List Expr)(f:Ev->Mo (List W)):Prop where
 ex:∃ te,QA X es te/\RAB Pn M te f
structure JO (X:Cx)(Pn:Option zj)(M:List Nat)(e:Option Expr)(f:Ev->Mo (Option Int)):Prop where
 ex:∃ t,QO X e t/\∀ A σ H ρ n Q R,EnvR A M σ H ρ->xR Pn A n H->f ρ n R->(∀ o m H',R o m->Go Pn A H m H'->Q o H')->t σ H Q
section
variable {X:Cx}{Pn:Option zj}{M:List Nat}{fr:Bool}{e a b c:Expr}{es:List Expr}{f fa fb fc:Ev->Mo W}{pos p:Pos}
def zmj (i:Nat):Ev->Mo W:=fun ρ n Q=>∃ w,ρ[i]?=some (some w)/\Q w n
@[reducible] def mC (w:W):Ev->Mo W:=fun _ n Q=>Q w n
@[reducible] def zmf (F:W->W->Mo W) (fa fb:Ev->Mo W):Ev->Mo W:=fun ρ n Q=>fa ρ n fun x n1=>fb ρ n1 fun y n2=>F x y n2 Q
@[reducible] def mUn (F:W->Mo W) (fa:Ev->Mo W):Ev->Mo W:=fun ρ n Q=>fa ρ n fun x n1=>F x n1 Q
def zhF (fa:Ev->Mo W):Ev->Mo Bool:=fun ρ n Q=>fa ρ n fun x n1=>∃ c,x = .d (.bl c)/\Q c n1
def mOr (t u:Ev->Mo Bool):Ev->Mo Bool:=fun ρ n Q=>t ρ n fun c n1=>if c=true then Q true n1 else u ρ n1 Q
def zoQ (t:Ev->Mo Bool):Ev->Mo Bool:=fun ρ n Q=>t ρ n fun c n1=>Q (!c) n1
def zkd (fa fb:Ev->Mo W):Ev->Mo W:=fun ρ n Q=>fa ρ n fun x n1=>∃ c,x = .d (.bl c)/\if c=true then fb ρ n1 Q else Q (.d (.bl false)) n1
def mIf (t:Ev->Mo Bool)(fa fb:Ev->Mo W):Ev->Mo W:=fun ρ n Q=>t ρ n fun c n1=>if c=true then fa ρ n1 Q else fb ρ n1 Q
@[reducible] def mNil:Ev->Mo (List W):=fun _ n Q=>Q [] n
@[reducible] def zmg (fa:Ev->Mo W) (fr:Ev->Mo (List W)):Ev->Mo (List W):=fun ρ n Q=>fa ρ n fun x n1=>fr ρ n1 fun xs n2=>Q (x::xs) n2
@[reducible] def zoG (F:List W->Mo W) (fa:Ev->Mo (List W)):Ev->Mo W:=fun ρ n Q=>fa ρ n fun xs n1=>F xs n1 Q
theorem JE.bo (h:JE X Pn M fr e f):JB X Pn M e f:=let ⟨te,h1,h2⟩:=h.ex;⟨te,h1,h2.rb⟩
theorem JA.bo {f:Ev->Mo (List W)}(h:JA X Pn M es f):JAB X Pn M es f:=let ⟨te,h1,h2⟩:=h.ex;⟨te,h1,h2.rab⟩
theorem zni {i:Nat}(hi:i∉M):RE Pn M false (zlh i) (zmj i):=⟨fun A σ H ρ n Q R E P hf k=>by
 obtain ⟨w,e,r⟩:=hf
 obtain ⟨v,h1,h2,_⟩:=E.val i w e
 exact ⟨v,h1,k w n v H r (h2 hi) (Go.refl P) fun z=>by cases z⟩⟩
theorem zne {i:Nat}:RB Pn M (zlh i) (zmj i):=⟨fun A σ H ρ n Q R E P hf k=>by
 obtain ⟨w,e,r⟩:=hf
 obtain ⟨v,h1,h2,h3⟩:=E.val i w e
 refine ⟨v,h1,k w n v H r ?_ (Go.refl P)⟩
 by_cases hi:i∈M
 ·obtain ⟨a,_,_,h,_⟩:=h3 hi
  exact h
 ·exact (h2 hi).bor⟩
theorem zoD (i:Nat){x:Str}(hi:i∉M:=by decide)(hN:X.N[i]?=some x:=by rfl)(hv:Vis X.env.scope x:=by first | exact Or.inl rfl | exact Or.inr (Or.inl rfl) | exact Or.inr (Or.inr rfl))(hd:(x==("__debug__" : Str))=false:=by decide)
  (hcd:(x==("__classdict__" : Str))=false:=by decide):JE X Pn M false (.Name x pos) (zmj i):=⟨_,qv i hN hv hd hcd,zni hi⟩
theorem zoA (i:Nat){x:Str}(hN:X.N[i]?=some x:=by rfl)(hv:Vis X.env.scope x:=by first | exact Or.inl rfl | exact Or.inr (Or.inl rfl) | exact Or.inr (Or.inr rfl))(hd:(x==("__debug__" : Str))=false:=by decide)
  (hcd:(x==("__classdict__" : Str))=false:=by decide):JB X Pn M (.Name x pos) (zmj i):=⟨_,qv i hN hv hd hcd,zne⟩
theorem zpl {x:Dt}{v:V}(h:∀ G,Is G x v):RE Pn M false (tC v) (mC (.d x)):=⟨fun A σ H ρ n Q R E P hf k=>k _ n v H hf (Val.of (h _)) (Go.refl P) fun z=>by cases z⟩
theorem yh {i:Int}{j:Nat}:JE X Pn M false (.Constant (.int i) j pos) (mC (.d (.int i))):=⟨_,zl,zpl fun _=>rfl⟩
theorem uH {k:Bool}{j:Nat}:JE X Pn M false (.Constant (.bool k) j pos) (mC (.d (.bl k))):=⟨_,zk0,zpl fun _=>rfl⟩
theorem zaT {x:Str}{i:Int}(hg:Gl X x)(h:∃ w,zX (.int i) w/\X.mg x=some w)(hd:(x==("__debug__" : Str))=false:=by decide):JE X Pn M false (.Name x pos) (mC (.d (.int i))):=⟨_,ziK hg h hd,zpl fun _=>rfl⟩
theorem Al.new {A:Addr->Prop}{H:Hp}(h:Al A H){p:Addr}(e:H p=none):¬ A p:=fun z=>by
 obtain ⟨o,h1,_⟩:=h p z
 rw [e] at h1;cases h1
theorem Al.stay {A:Addr->Prop}{H H':Hp}(h:Al A H)(s:zu H H'):Al A H':=fun a z=>by
 obtain ⟨o,h1,h2,h3⟩:=h a z
 exact ⟨o,s _ _ h1 h2,h2,h3⟩
theorem Al.noT {A:Addr->Prop}{H:Hp}(h:Al A H):∀ a xs,A a->H a≠some (.tup xs):=fun a xs z e=>by
 obtain ⟨o,h1,_,h3⟩:=h a z
 rw [h1] at e;cases e;exact h3 xs rfl
theorem Al.noT' {A:Addr->Prop}{H H':Hp}(h:Al A H)(s:zu H H'){p:Addr}{xs:List V}(e:H' p=some (.tup xs)):¬ A p:=fun z=>(h.stay s).noT p xs z e
structure F2 (Pn:Option zj)(fr:Bool)(r:R2)(F:W->W->Mo W):Prop where
 run:∀ A H x y wx wy n Q R,Al A H->Bor A H wx x->Bor A H wy y->xR Pn A n H->F wx wy n R->(∀ w m v H',R w m->Val A H' w v->Go Pn A H m H'->(fr=true->FrV A H H' w v)->Q v H')->r x y H Q
structure F1 (Pn:Option zj)(fr:Bool)(r:V->Hp->VK->Prop)(F:W->Mo W):Prop where
 run:∀ A H x wx n Q R,Al A H->Bor A H wx x->xR Pn A n H->F wx n R->(∀ w m v H',R w m->Val A H' w v->Go Pn A H m H'->(fr=true->FrV A H H' w v)->Q v H')->r x H Q
structure FL (Pn:Option zj)(fr:Bool)(r:List V->Hp->VK->Prop)(F:List W->Mo W):Prop where
 run:∀ A H xs ws n Q R,Al A H->zlu A H ws xs->xR Pn A n H->F ws n R->(∀ w m v H',R w m->Val A H' w v->Go Pn A H m H'->(fr=true->FrV A H H' w v)->Q v H')->r xs H Q
theorem ziP {r:R2}{F:W->W->Mo W}{ta tb:TE}(hr:F2 Pn fr r F)(ha:RB Pn M ta fa)(hb:RB Pn M tb fb):RE Pn M fr (tOp r ta tb) (zmf F fa fb):=⟨fun A σ H ρ n Q R E P hf k=>by
 refine ha.run A σ H ρ n _ _ E P hf fun x n1 v1 H1 r1 b1 g1=>?_
 refine hb.run A σ H1 ρ n1 _ _ (E.stay g1.st) g1.pn r1 fun y n2 v2 H2 r2 b2 g2=>?_
 have g:=g1.trans g2
 exact hr.run A H2 v1 v2 x y n2 _ _ (E.stay g.st).al (b1.stay g2.st) b2 g2.pn r2 fun w m v H' h1 h2 h3 h4=>k w m v H' h1 h2 (g.trans h3) fun z=>(h4 z).back g.st⟩
theorem zpn {r:V->Hp->VK->Prop}{F:W->Mo W}{ta:TE}(hr:F1 Pn fr r F)(ha:RB Pn M ta fa):RE Pn M fr (tUn r ta) (mUn F fa):=⟨fun A σ H ρ n Q R E P hf k=>by
 refine ha.run A σ H ρ n _ _ E P hf fun x n1 v1 H1 r1 b1 g1=>?_
 exact hr.run A H1 v1 x n1 _ _ (E.stay g1.st).al b1 g1.pn r1 fun w m v H' h1 h2 h3 h4=>k w m v H' h1 h2 (g1.trans h3) fun z=>(h4 z).back g1.st⟩
theorem zng {r:List V->Hp->VK->Prop}{F:List W->Mo W}{ta:TA}{fa:Ev->Mo (List W)}(hr:FL Pn fr r F)(ha:RAB Pn M ta fa):RE Pn M fr (tCB r ta) (zoG F fa):=⟨fun A σ H ρ n Q R E P hf k=>by
 refine ha.run A σ H ρ n _ _ E P hf fun x n1 v1 H1 r1 b1 g1=>?_
 exact hr.run A H1 v1 x n1 _ _ (E.stay g1.st).al b1 g1.pn r1 fun w m v H' h1 h2 h3 h4=>k w m v H' h1 h2 (g1.trans h3) fun z=>(h4 z).back g1.st⟩
theorem zfv {op:Operator}{r:R2}{F:W->W->Mo W}(ho:OpQ X (binaryOp op) r)(hr:F2 Pn fr r F)(ha:JB X Pn M a fa)(hb:JB X Pn M b fb):JE X Pn M fr (.BinOp a op b pos) (zmf F fa fb):=by
 obtain ⟨ta,qa,ra⟩:=ha.ex
 obtain ⟨tb,qb,rb⟩:=hb.ex
 exact ⟨_,z5 ho qa qb,ziP hr ra rb⟩
theorem zl5 {op:UnaryOp}{r:V->Hp->VK->Prop}{F:W->Mo W}(ho:UnQ X (unaryOp op) r)(hr:F1 Pn fr r F)(ha:JB X Pn M a fa):JE X Pn M fr (.UnaryOp op a pos) (mUn F fa):=by
 obtain ⟨ta,qa,ra⟩:=ha.ex
 exact ⟨_,zpi ho qa,zpn hr ra⟩
theorem zif {op:CmpOp}{r:R2}{F:W->W->Mo W}(ho:OpQ X (compareOp op) r)(hr:F2 Pn fr r F)(ha:JB X Pn M a fa)(hb:JB X Pn M b fb)(hm:behindInMarks op b=false):JE X Pn M fr (.Compare a [op] [b] pos) (zmf F fa fb):=by
 obtain ⟨ta,qa,ra⟩:=ha.ex
 obtain ⟨tb,qb,rb⟩:=hb.ex
 exact ⟨_,zb8 ho qa qb hm,ziP hr ra rb⟩
theorem zhc {ta:TE}(h:RB Pn M ta fa):RT Pn M (zhn ta) (zhF fa):=⟨fun A σ H ρ n Q R E P hf k=>by
 refine h.run A σ H ρ n _ _ E P hf fun x n1 v1 H1 ⟨c,e,r⟩ b1 g1=>?_
 subst e
 have b1':v1 = .bl c:=b1
 exact ⟨c,b1',k c n1 H1 r g1⟩⟩
theorem yc {op:CmpOp}{r:R2}{F:W->W->Mo W}(ho:OpQ X (compareOp op) r)(hr:F2 Pn fr r F)(ha:JB X Pn M a fa)(hb:JB X Pn M b fb)(hm:behindInMarks op b=false):JT X Pn M (.Compare a [op] [b] pos) (zhF (zmf F fa fb)):=by
 obtain ⟨ta,qa,ra⟩:=ha.ex
 obtain ⟨tb,qb,rb⟩:=hb.ex
 exact ⟨_,uA ho qa qb hm,zhc (ziP hr ra rb).rb⟩
theorem uI (h:JB X Pn M e f)(he:∀ whole,isTrue e X.env whole=(do let v <- whole;standAt e.pos;holding [v] (truthy v)):=by intro _;rfl):JT X Pn M e (zhF f):=by
 obtain ⟨ta,qa,ra⟩:=h.ex
 exact ⟨_,zjB qa he,zhc ra⟩
theorem xU {t:Ev->Mo Bool}(h:JT X Pn M a t):JT X Pn M (.UnaryOp .Not a pos) (zoQ t):=by
 obtain ⟨ta,qa,ra⟩:=h.ex
 exact ⟨_,znb qa,⟨fun A σ H ρ n Q R E P hf k=>ra.run A σ H ρ n _ _ E P hf fun b m H' r g=>k _ m H' r g⟩⟩
theorem xK {op:BoolOp}{t:Ev->Mo Bool}(hop:op = .And\/op = .Or)(h:JT X Pn M a t):JW X Pn M (.BoolOp op [a] pos) t:=by
 obtain ⟨ta,qa,ra⟩:=h.ex
 rcases hop with rfl | rfl
 ·exact ⟨_,zd1 qa,ra⟩
 ·exact ⟨_,znc qa,ra⟩
theorem zpo {t u:TT}{ft fu:Ev->Mo Bool}(h:RT Pn M t ft)(h':RT Pn M u fu):RT Pn M (tOr t u) (mOr ft fu):=⟨fun A σ H ρ n Q R E P hf k=>by
 refine h.run A σ H ρ n _ _ E P hf fun c m H1 r g=>?_
 cases c with
 | false=>exact h'.run A σ H1 ρ m _ _ (E.stay g.st) g.pn (by simpa using r) fun b m' H' r' g'=>k b m' H' r' (g.trans g')
 | true=>exact k true m H1 (by simpa using r) g⟩
theorem zas {z6:List Expr}{t u:Ev->Mo Bool}(h:JT X Pn M a t)(h':JW X Pn M (.BoolOp .Or (b::z6) pos) u):JW X Pn M (.BoolOp .Or (a::b::z6) pos) (mOr t u):=by
 obtain ⟨ta,qa,ra⟩:=h.ex
 obtain ⟨tb,qb,rb⟩:=h'.ex
 exact ⟨_,zpj qa qb,zpo ra rb⟩
theorem JW.t {t:Ev->Mo Bool}(h:JW X Pn M e t):JT X Pn M e t:=let ⟨te,h1,h2⟩:=h.ex;⟨te,h1.pt,h2⟩
theorem zgr {op:BoolOp}(h:JE X Pn M false a fa):JE X Pn M false (.BoolOp op [a] pos) fa:=let ⟨te,h1,h2⟩:=h.ex;⟨te,zm7 h1,h2⟩
theorem zgp {z6:List Expr}(h:JB X Pn M a fa)(h':JE X Pn M false (.BoolOp .And (b::z6) pos) fb):JE X Pn M false (.BoolOp .And (a::b::z6) pos) (zkd fa fb):=by
 obtain ⟨ta,qa,ra⟩:=h.ex
 obtain ⟨tb,qb,rb⟩:=h'.ex
 refine ⟨_,zm4 qa qb,⟨fun A σ H ρ n Q R E P hf k=>?_⟩⟩
 refine ra.run A σ H ρ n _ _ E P hf fun x m v H1 ⟨c,ec,r⟩ b1 g=>?_
 subst ec
 have b1':v = .bl c:=b1
 refine ⟨c,b1',?_⟩
 cases c with
 | true=>
  rw [if_pos rfl] at r ⊢
  exact rb.run A σ H1 ρ m _ _ (E.stay g.st) g.pn r fun w m' v' H' r' a' g' _=>k w m' v' H' r' a' (g.trans g') fun z=>by cases z
 | false=>
  rw [if_neg (by decide)] at r ⊢
  exact k _ m _ H1 r (Val.of rfl) g fun z=>by cases z
def zkl (fa:Ev->Mo W):Ev->Mo W:=fun ρ n Q=>fa ρ n fun x n1=>∃ c,x = .d (.bl c)/\Q (.d (.bl (!c))) n1
theorem zoB (h:JB X Pn M a fa):JE X Pn M false (.UnaryOp .Not a pos) (zkl fa):=by
 obtain ⟨ta,qa,ra⟩:=h.ex
 refine ⟨_,zm6 qa,⟨fun A σ H ρ n Q R E P hf k=>?_⟩⟩
 refine ra.run A σ H ρ n _ _ E P hf fun x m v H1 ⟨c,ec,r⟩ b1 g=>?_
 subst ec
 have b1':v = .bl c:=b1
 exact ⟨c,b1',k _ m _ H1 r (Val.of rfl) g fun z=>by cases z⟩
theorem j_if {t:Ev->Mo Bool}(hc:JT X Pn M c t)(ha:JE X Pn M fr a fa)(hb:JE X Pn M fr b fb):JE X Pn M fr (.IfExp c a b pos) (mIf t fa fb):=by
 obtain ⟨tc,qc,rc⟩:=hc.ex
 obtain ⟨ta,qa,ra⟩:=ha.ex
 obtain ⟨tb,qb,rb⟩:=hb.ex
 refine ⟨_,ziL qc qa qb,⟨fun A σ H ρ n Q R E P hf k=>?_⟩⟩
 refine rc.run A σ H ρ n _ _ E P hf fun c m H1 r g=>?_
 cases c with
 | true=>
  rw [if_pos rfl] at r ⊢
  exact ra.run A σ H1 ρ m _ _ (E.stay g.st) g.pn r fun w m' v' H' r' a' g' f'=>k w m' v' H' r' a' (g.trans g') fun z=>(f' z).back g.st
 | false=>
  rw [if_neg (by decide)] at r ⊢
  exact rb.run A σ H1 ρ m _ _ (E.stay g.st) g.pn r fun w m' v' H' r' a' g' f'=>k w m' v' H' r' a' (g.trans g') fun z=>(f' z).back g.st
@[reducible] def zl1:W->Bool
 | .d .non=>true
 | _=>false
@[reducible] def mIsN (fa:Ev->Mo W):Ev->Mo W:=fun ρ n Q=>fa ρ n fun x n1=>Q (.d (.bl (zl1 x))) n1
@[reducible] def mNotN (fa:Ev->Mo W):Ev->Mo W:=fun ρ n Q=>fa ρ n fun x n1=>Q (.d (.bl (!zl1 x))) n1
theorem zpp {ta:TE}(h:RB Pn M ta fa):RT Pn M (tB ta) (zhF fa):=⟨fun A σ H ρ n Q R E P hf k=>by
 refine h.run A σ H ρ n _ _ E P hf fun x n1 v1 H1 ⟨c,e,r⟩ b1 g1=>?_
 subst e
 have b1':v1 = .bl c:=b1
 exact ⟨c,b1',k c n1 H1 r g1⟩⟩
theorem zn:JA X Pn M [] mNil:=⟨_,zA,⟨fun A σ H ρ n Q R E P hf k=>k [] n [] H hf rfl (Go.refl P)⟩⟩
theorem zc {fs:Ev->Mo (List W)}(ha:JE X Pn M fr e f)(hr:JA X Pn M es fs)(hs:starEach (e::es) X.env=(false,eval e X.env)::starEach es X.env:=by rfl):JA X Pn M (e::es) (zmg f fs):=by
 obtain ⟨ta,qa,ra⟩:=ha.ex
 obtain ⟨tb,qb,rb⟩:=hr.ex
 refine ⟨_,zd qa qb hs,⟨fun A σ H ρ n Q R E P hf k=>?_⟩⟩
 refine ra.run A σ H ρ n _ _ E P hf fun x n1 v1 H1 r1 b1 g1 _=>?_
 exact rb.run A σ H1 ρ n1 _ _ (E.stay g1.st) g1.pn r1 fun xs n2 vs H2 r2 b2 g2=>k _ n2 _ H2 r2 ⟨v1,vs,rfl,b1.stay g2.st,b2⟩ (g1.trans g2)
theorem zt:JAB X Pn M [] mNil:=zn.bo
theorem zk {fs:Ev->Mo (List W)}(ha:JB X Pn M e f)(hr:JAB X Pn M es fs)(hs:starEach (e::es) X.env=(false,eval e X.env)::starEach es X.env:=by rfl):JAB X Pn M (e::es) (zmg f fs):=by
 obtain ⟨ta,qa,ra⟩:=ha.ex
 obtain ⟨tb,qb,rb⟩:=hr.ex
 refine ⟨_,zd qa qb hs,⟨fun A σ H ρ n Q R E P hf k=>?_⟩⟩
 refine ra.run A σ H ρ n _ _ E P hf fun x n1 v1 H1 r1 b1 g1=>?_
 exact rb.run A σ H1 ρ n1 _ _ (E.stay g1.st) g1.pn r1 fun xs n2 vs H2 r2 b2 g2=>k _ n2 _ H2 r2 ⟨v1,vs,rfl,b1.stay g2.st,b2⟩ (g1.trans g2)
def lim:Nat:=500000
theorem zex {n:Nat}(h:n<=lim):n<=sizeLine:=Nat.le_trans h (by decide)
theorem zme {n:Nat}(h:n<=lim):n<sizeLine:=Nat.lt_of_le_of_lt h (by decide)
def dts:List W->Option (List Dt)
 | []=>some []
 | .d x::r=>(dts r).map (x::·)
 | _::_=>none
theorem zbG.dts {A:Addr->Prop}{H:Hp}:∀ {ws:List W} {vs:List V} {l:List Dt},zbG A H ws vs->dts ws=some l->IsL (yr A H) l vs
 | [],vs,l,h,e=>by cases e;exact h
 | .d x::ws,vs,l,⟨v,r,e1,h1,h2⟩,e=>by
  obtain ⟨l',e2,rfl⟩:=Option.map_eq_some_iff.mp e
  exact ⟨v,r,e1,h1.is,zbG.dts h2 e2⟩
 | .pen _::_,_,_,_,e=>by cases e
 | .dk _::_,_,_,_,e=>by cases e
 | .dt _::_,_,_,_,e=>by cases e
theorem zbG.len {A:Addr->Prop}{H:Hp}:∀ {ws:List W} {vs:List V},zbG A H ws vs->vs.length=ws.length
 | [],_,h=>by cases h;rfl
 | _::ws,vs,⟨v,r,e,_,h2⟩=>by rw [e,List.length_cons,List.length_cons,zbG.len h2]
theorem zcl {A:Addr->Prop}{H H':Hp}{p:Addr}{xs:List V}{l:List Dt}(hl:IsL (yr A H) l xs)(s:zu H H')(n:¬ A p)(g:H' p=some (.tup xs)):Val A H' (.d (.tup l)) (.ref p):=
 Val.of ⟨p,xs,rfl,yx n g,hl.stay (zZ s)⟩
theorem uB {A:Addr->Prop}{H H':Hp}{p:Addr}{xs:List V}{l:List Dt}(hl:IsL (yr A H) l xs)(s:zu H H')(n:¬ A p)(g:H' p=some (.lst xs)):Val A H' (.d (.lst l)) (.ref p):=
 Val.of ⟨p,xs,rfl,yx n g,hl.stay (zZ s)⟩
theorem uq {A:Addr->Prop}{H H':Hp}{p:Addr}{xs:List V}{l:List Dt}(hl:IsL (yr A H) l xs)(s:yL H H')(n:H p=none)(g:H' p=some (.lst xs)):FrV A H H' (.d (.lst l)) (.ref p):=
 ⟨p,rfl,.of n,p,xs,rfl,g,hl.stay (xp (zu.same s) (.of n))⟩
@[reducible] def zn0:Nat->List W->(List Dt->Prop)->Prop
 | _,[],P=>P []
 | k+1,.d x::r,P=>zn0 k r fun l=>P (x::l)
 | _,_,_=>False
theorem zb3:∀ {k:Nat} {l:List W} {P:List Dt->Prop},zn0 k l P->∃ ds,dts l=some ds/\P ds/\l.length<=k
 | 0,[],P,h=>⟨[],rfl,h,Nat.zero_le _⟩
 | k+1,[],P,h=>⟨[],rfl,h,Nat.zero_le _⟩
 | 0,.d x::r,P,h=>h.elim
 | k+1,.d x::r,P,h=>by
  obtain ⟨ds,e,h2,hz⟩:=zb3 (k:=k) (l:=r) (P:=fun l=>P (x::l)) h
  exact ⟨x::ds,by simp [dts,e],h2,Nat.succ_le_succ hz⟩
 | 0,.pen _::r,P,h=>h.elim
 | k+1,.pen _::r,P,h=>h.elim
 | 0,.dk _::r,P,h=>h.elim
 | k+1,.dk _::r,P,h=>h.elim
 | 0,.dt _::r,P,h=>h.elim
 | k+1,.dt _::r,P,h=>h.elim
@[reducible] def zoU (fa:Ev->Mo (List W)):Ev->Mo W:=fun ρ n Q=>fa ρ n fun ws m=>zn0 200 ws fun l=>Q (.d (.tup l)) m
theorem zj9 {x1}{fs:Ev->Mo (List W)}(h:JA X Pn M es fs):JE X Pn M false (.Tuple es x1 pos) (zoU fs):=by
 obtain ⟨ta,qa,ra⟩:=h.ex
 refine ⟨_,zdX qa,⟨fun A σ H ρ n Q R E P hf k=>?_⟩⟩
 refine ra.run A σ H ρ n _ _ E P hf fun ws m vs H1 hq b g=>?_
 obtain ⟨l,e,r,hz⟩:=zb3 hq
 refine ⟨zex (by rw [b.len];exact Nat.le_trans hz (by decide)),fun p H2 np gp S=>?_⟩
 exact k _ m _ H2 r (zcl (b.dts e) (zu.same S) ((E.stay g.st).new np) gp) (g.trans (Go.same g.pn S)) fun z=>by cases z
@[reducible] def zoP (fa:Ev->Mo (List W)):Ev->Mo W:=fun ρ n Q=>fa ρ n fun ws m=>zn0 200 ws fun l=>Q (.d (.lst l)) m
theorem zdG {fs:Ev->Mo (List W)}(h:JA X Pn M es fs):JE X Pn M true (.List es pos) (zoP fs):=by
 obtain ⟨ta,qa,ra⟩:=h.ex
 refine ⟨_,zgV qa,⟨fun A σ H ρ n Q R E P hf k=>?_⟩⟩
 refine ra.run A σ H ρ n _ _ E P hf fun ws m vs H1 hq b g=>?_
 obtain ⟨l,e,r,hz⟩:=zb3 hq
 refine ⟨zex (by rw [b.len];exact Nat.le_trans hz (by decide)),fun p H2 np gp S=>?_⟩
 exact k _ m _ H2 r (uB (b.dts e) (zu.same S) ((E.stay g.st).new np) gp) (g.trans (Go.same g.pn S)) fun _=>(uq (b.dts e) S np gp).back g.st
theorem yk {id:String}{r:List V->Hp->VK->Prop}{F:List W->Mo W}{x:Str}{fs:Ev->Mo (List W)}(hc:CallQ X (.builtin id) r)(hr:FL Pn fr r F)(hg:Gl X x)(hm:X.mg x=none)(hv:bootBuiltins x=some (.builtin id))(ha:JAB X Pn M (e::es) fs)(hn:x ≠ "__name__" := by decide)(hdb:(x==("__debug__" : Str))=false:=by decide)
  (he:starEach (e::es) X.env=(false,eval e X.env)::starEach es X.env:=by rfl) (hpl:(backTo pos (starEach es X.env)).any (·.1)=false:=by rfl):JE X Pn M fr (.Call (.Name x p) (e::es) [] pos) (zoG F fs):=by
 obtain ⟨ta,qa,ra⟩:=ha.ex
 exact ⟨_,yH hc hg hm hv qa hn hdb he hpl,zng hr ra⟩
theorem xC {T:String}{r:List V->Hp->VK->Prop}{F:List W->Mo W}{x:Str}{fs:Ev->Mo (List W)}(hc:CallQ X (.type T) r)(hr:FL Pn fr r F)(hg:Gl X x)(hm:X.mg x=none)(hv:bootBuiltins x=some (.type T))(ha:JAB X Pn M (e::es) fs)(hn:x ≠ "__name__" := by decide)(hdb:(x==("__debug__" : Str))=false:=by decide)
  (he:starEach (e::es) X.env=(false,eval e X.env)::starEach es X.env:=by rfl) (hpl:(backTo pos (starEach es X.env)).any (·.1)=false:=by rfl):JE X Pn M fr (.Call (.Name x p) (e::es) [] pos) (zoG F fs):=by
 obtain ⟨ta,qa,ra⟩:=ha.ex
 exact ⟨_,uT hc hg hm hv qa hn hdb he hpl,zng hr ra⟩
end
section
variable {Pn:Option zj}{K:PySem.W.Frag}{A:Addr->Prop}{H:Hp}
theorem yt {i:Int}{v:V}(h:Bor A H (.d (.int i)) v):v = .int i:=h
theorem zjd {i:Bool}{v:V}(h:Bor A H (.d (.bl i)) v):v = .bl i:=h
theorem um {l:List Dt}{v:V}(h:Bor A H (.d (.tup l)) v):∃ a xs,v = .ref a/\H a=some (.tup xs)/\IsL (yr A H) l xs:=by
 obtain ⟨a,xs,e,h1,h2⟩:=h
 exact ⟨a,xs,e,zq _ _ h1,h2⟩
theorem xk {l:List Dt}{v:V}(h:Bor A H (.d (.lst l)) v):∃ a xs,v = .ref a/\H a=some (.lst xs)/\IsL (yr A H) l xs:=h
theorem zfF {l:List Dt}{v:V}(h:Bor A H (.d (.lst l)) v\/Bor A H (.d (.tup l)) v):∃ a xs,v = .ref a/\(SqL K H a xs\/SqT K H a xs)/\IsL (yr A H) l xs:=by
 rcases h with h | h
 ·obtain ⟨a,xs,e,h1,h2⟩:=xk h
  exact ⟨a,xs,e,.inl (.of h1),h2⟩
 ·obtain ⟨a,xs,e,h1,h2⟩:=um h
  exact ⟨a,xs,e,.inr (.of h1),h2⟩
def fI (C:Int->Int->Prop)(g:Int->Int->Dt):W->W->Mo W:=fun x y n Q=>∃ i j,x = .d (.int i)/\y = .d (.int j)/\C i j/\Q (.d (g i j)) n
def fI0 (g:Int->Int->Dt):W->W->Mo W:=fun x y n Q=>∃ i j,x = .d (.int i)/\y = .d (.int j)/\Q (.d (g i j)) n
theorem f2_I {C:Int->Int->Prop}{g:Int->Int->V}{g':Int->Int->Dt}(hg:∀ i j G,Is G (g' i j) (g i j)):F2 Pn false (rI C g) (fI C g'):=⟨fun A H x y wx wy n Q R al bx byy P ⟨i,j,e1,e2,c,r⟩ k=>by
 subst e1 e2
 exact ⟨i,j,yt bx,yt byy,c,k _ n _ H r (Val.of (hg _ _ _)) (Go.refl P) fun z=>by cases z⟩⟩
theorem zh5 {g:Int->Int->V}{g':Int->Int->Dt}(hg:∀ i j G,Is G (g' i j) (g i j)):F2 Pn false (rI0 g) (fI0 g'):=⟨fun A H x y wx wy n Q R al bx byy P ⟨i,j,e1,e2,r⟩ k=>by
 subst e1 e2
 exact ⟨i,j,yt bx,yt byy,k _ n _ H r (Val.of (hg _ _ _)) (Go.refl P) fun z=>by cases z⟩⟩
abbrev fAdd:=fI0 fun i j=>.int (i+j)
abbrev fSub:=fI0 fun i j=>.int (i - j)
abbrev fMul:=fI zi5 fun i j=>.int (i * j)
abbrev fLt:=fI0 fun i j=>.bl (decide (i<j))
abbrev fLe:=fI0 fun i j=>.bl (decide (i<=j))
theorem zpy:F2 Pn false (rI0 fun i j=>.int (i+j)) fAdd:=zh5 fun _ _ _=>rfl
theorem zpG:F2 Pn false (rI0 fun i j=>.int (i - j)) fSub:=zh5 fun _ _ _=>rfl
theorem zpD:F2 Pn false (rI zi5 fun i j=>.int (i * j)) fMul:=f2_I fun _ _ _=>rfl
theorem v_lt:F2 Pn false (rI0 fun i j=>.bl (decide (i<j))) fLt:=zh5 fun _ _ _=>rfl
theorem v_le:F2 Pn false (rI0 fun i j=>.bl (decide (i<=j))) fLe:=zh5 fun _ _ _=>rfl
def zov:W->Mo W:=fun x n Q=>∃ i,x = .d (.int i)/\Q (.d (.int (-i))) n
theorem zpF:F1 Pn false (rU fun i=>.int (-i)) zov:=⟨fun A H x wx n Q R al bx P ⟨i,e,r⟩ k=>by
 subst e
 exact ⟨i,yt bx,k _ n _ H r (Val.of rfl) (Go.refl P) fun z=>by cases z⟩⟩
@[reducible] def sEq:Dt->Dt->Option Bool
 | .int i,.int j=>some (decide (i=j))
 | .bl i,.bl j=>some (decide (i=j))
 | .str i,.str j=>some (decide (i=j))
 | .non,.non=>some true
 | .non,.int _=>some false
 | .int _,.non=>some false
 | .non,.bl _=>some false
 | .bl _,.non=>some false
 | .non,.str _=>some false
 | .str _,.non=>some false
 | .int _,.str _=>some false
 | .str _,.int _=>some false
 | _,_=>none
def zgT:Dt->Option V
 | .int i=>some (.int i)
 | .bl i=>some (.bl i)
 | .str i=>some (.str i)
 | .non=>some .non
 | _=>none
theorem znq {a b:Dt}{r:Bool}(h:sEq a b=some r):∃ x y,zgT a=some x/\zgT b=some y/\zn6 x y=true/\decide (x=y)=r:=by
 cases a <;> cases b <;> simp [sEq] at h <;> subst h <;> simp [zgT,zn6]
theorem zcv {a:Dt}{x v:V}(h:Bor A H (.d a) v)(e:zgT a=some x):v=x:=by
 cases a <;> simp [zgT] at e <;> subst e <;> exact h
def fNe:W->W->Mo W:=fun x y n Q=>∃ a b r,x = .d a/\y = .d b/\sEq a b=some r/\Q (.d (.bl (!r))) n
theorem v_ne:F2 Pn false rNe fNe:=⟨fun A H x y wx wy n Q R al bx byy P ⟨a,b,r,e1,e2,e,h⟩ k=>by
 subst e1 e2
 obtain ⟨x',y',p1,p2,s,d⟩:=znq e
 obtain rfl:=zcv bx p1
 obtain rfl:=zcv byy p2
 exact ⟨s,k _ n _ H h (Val.of (by rw [d];rfl)) (Go.refl P) fun z=>by cases z⟩⟩
def zop:W->W->Mo W:=fun x y n Q=>∃ a b,x = .d a/\y = .d b/\a.eqOk/\b.eqOk/\∀ r:Bool,(r=true↔a=b)->Q (.d (.bl r)) n
def zou:W->W->Mo W:=fun x y n Q=>∃ a b,x = .d a/\y = .d b/\a.eqOk/\b.eqOk/\∀ r:Bool,(r=true↔a=b)->Q (.d (.bl (!r))) n
theorem zpz:F2 Pn false zn2 zop:=⟨fun A H x y wx wy n Q R al bx byy P ⟨a,b,e1,e2,o1,o2,h⟩ k=>by
 subst e1 e2
 exact ⟨a,b,bx.is,byy.is,o1,o2,fun r hr=>k _ n _ H (h r hr) (Val.of rfl) (Go.refl P) fun z=>by cases z⟩⟩
theorem zpE:F2 Pn false zn5 zou:=⟨fun A H x y wx wy n Q R al bx byy P ⟨a,b,e1,e2,o1,o2,h⟩ k=>by
 subst e1 e2
 exact ⟨a,b,bx.is,byy.is,o1,o2,fun r hr=>k _ n _ H (h r hr) (Val.of rfl) (Go.refl P) fun z=>by cases z⟩⟩
def zdA:W->W->Mo W:=fun x y n Q=>∃ a b,x = .d (.bl a)/\y = .d (.bl b)/\Q (.d (.bl (a != b))) n
theorem zft:F2 Pn false (fun x y H Q=>∃ a b,x = .bl a/\y = .bl b/\Q (.bl (a != b)) H) zdA:=⟨fun A H x y wx wy n Q R al bx byy P ⟨a,b,e1,e2,h⟩ k=>by
 subst e1 e2
 exact ⟨a,b,zjd bx,zjd byy,k _ n _ H h (Val.of rfl) (Go.refl P) fun z=>by cases z⟩⟩
def zdB:W->W->Mo W:=fun x y n Q=>∃ (b:Int) (ns:List Int),x = .d (.int b)/\(y = .d (.lst (ns.map .int))\/y = .d (.tup (ns.map .int)))/\Q (.d (.bl (!ns.contains b))) n
theorem zi3:F2 Pn false (rIn K true) zdB:=⟨fun A H x y wx wy n Q R al bx byy P ⟨b,ns,e1,e2,h⟩ k=>by
 subst e1
 have hb:Bor A H (.d (.lst (ns.map .int))) y\/Bor A H (.d (.tup (ns.map .int))) y:=by
  rcases e2 with rfl | rfl
  ·exact .inl byy
  ·exact .inr byy
 obtain ⟨a,xs,e,hs,hl⟩:=zfF (K:=K) hb
 obtain rfl:=hl.of_ints
 obtain rfl:=yt bx
 exact ⟨a,_,e,hs,rfl,zgb ns,k _ n _ H h (Val.of (by rw [zic];rfl)) (Go.refl P) fun z=>by cases z⟩⟩
theorem zjo {G:Hp}{l:List Dt}{xs:List V}{i:Int}{d:Dt}(h:IsL G l xs)(e:atI l i=some d):∃ v,atI xs i=some v/\Is G d v:=by
 unfold atI at e ⊢
 rw [h.length]
 obtain ⟨j,h1,h2⟩:=Option.bind_eq_some_iff.mp e
 obtain ⟨v,h3,h4⟩:=h.getD h2
 exact ⟨v,by rw [h1];exact h3,h4⟩
def zos:W->W->Mo W:=fun x y n Q=>∃ l i d,x = .d (.tup l)/\y = .d (.int i)/\atI l i=some d/\Q (.d d) n
def zor:W->W->Mo W:=fun x y n Q=>∃ l i d,x = .d (.lst l)/\y = .d (.int i)/\atI l i=some d/\Q (.d d) n
theorem zpB:F2 Pn false (zn4 K) zos:=⟨fun A H x y wx wy n Q R al bx byy P ⟨l,i,d,e1,e2,e,h⟩ k=>by
 subst e1 e2
 obtain ⟨a,xs,ea,ha,hl⟩:=um bx
 obtain ⟨v,h1,h2⟩:=zjo hl e
 exact ⟨a,xs,i,v,ea,yt byy,.of ha,h1,k _ n _ H h (Val.of h2) (Go.refl P) fun z=>by cases z⟩⟩
theorem zpA:F2 Pn false (zn3 K) zor:=⟨fun A H x y wx wy n Q R al bx byy P ⟨l,i,d,e1,e2,e,h⟩ k=>by
 subst e1 e2
 obtain ⟨a,xs,ea,ha,hl⟩:=xk bx
 obtain ⟨v,h1,h2⟩:=zjo hl e
 exact ⟨a,xs,i,v,ea,yt byy,.of ha,h1,k _ n _ H h (Val.of h2) (Go.refl P) fun z=>by cases z⟩⟩
def zdz:W->W->Mo W:=fun x y n Q=>∃ l m,x = .d (.tup l)/\y = .d (.tup m)/\l.length+m.length<=lim/\Q (.d (.tup (l++m))) n
theorem znR:F2 Pn false (zg1 K) zdz:=⟨fun A H x y wx wy n Q R al bx byy P ⟨l,m,e1,e2,z,h⟩ k=>by
 subst e1 e2
 obtain ⟨a,xs,ea,ha,hl⟩:=um bx
 obtain ⟨b,ys,eb,hb,hm⟩:=um byy
 refine ⟨a,b,xs,ys,ea,eb,ha,hb,zex (by rw [hl.length,hm.length];exact z),fun p H' g S=>?_⟩
 exact k _ n _ H' h (zcl (hl.append hm) (zu.same S) (al.noT' (zu.same S) g) g) (Go.same P S) fun z=>by cases z⟩
def zjQ:W->W->Mo W:=fun x y n Q=>∃ l m,x = .d (.lst l)/\y = .d (.lst m)/\l.length+m.length<=lim/\Q (.d (.lst (l++m))) n
theorem znQ:F2 Pn true zla zjQ:=⟨fun A H x y wx wy n Q R al bx byy P ⟨l,m,e1,e2,z,h⟩ k=>by
 subst e1 e2
 obtain ⟨a,xs,ea,ha,hl⟩:=xk bx
 obtain ⟨b,ys,eb,hb,hm⟩:=xk byy
 refine ⟨a,b,xs,ys,ea,eb,ha,hb,zex (by rw [hl.length,hm.length];exact z),fun p H' np g S=>?_⟩
 exact k _ n _ H' h (uB (hl.append hm) (zu.same S) (al.new np) g) (Go.same P S) fun z=>uq (hl.append hm) S np g⟩
@[reducible] def lenD:W->Option Nat
 | .d (.lst l)=>some l.length
 | .d (.tup l)=>some l.length
 | _=>none
def zot:List W->Mo W:=fun ws n Q=>∃ x k,ws=[x]/\lenD x=some k/\Q (.d (.int (k:Int))) n
theorem zbI {w:W}{vs:List V}(h:zlu A H [w] vs):∃ v,vs=[v]/\Bor A H w v:=by
 obtain ⟨v,r,e,h1,h2⟩:=h
 cases h2
 exact ⟨v,e,h1⟩
theorem zpC:FL Pn false (fun xs H Q=>∃ x n,xs=[x]/\znV K x H n/\Q (.int n) H) zot:=⟨fun A H xs ws n Q R al b P ⟨x,j,e1,e2,h⟩ k=>by
 subst e1
 obtain ⟨v,rfl,bb⟩:=zbI b
 refine ⟨v,j,rfl,?_,k _ n _ H h (Val.of rfl) (Go.refl P) fun z=>by cases z⟩
 cases x with
 | d x=>
  cases x with
  | lst l=>
   cases e2
   obtain ⟨a,ys,rfl,ha,hl⟩:=xk bb
   exact .inl ⟨ys,.of ha,hl.length.symm⟩
  | tup l=>
   cases e2
   obtain ⟨a,ys,rfl,ha,hl⟩:=um bb
   exact .inr ⟨ys,.of ha,hl.length.symm⟩
  | _=>cases e2
 | _=>cases e2⟩
def zlR:List W->Mo W:=fun ws n Q=>∃ l,(ws=[.d (.lst l)]\/ws=[.d (.tup l)])/\Q (.d (.lst l)) n
theorem znS:FL Pn true (zg3 K) zlR:=⟨fun A H xs ws n Q R al b P ⟨l,e1,h⟩ k=>by
 obtain ⟨v,rfl,bb⟩:∃ v,xs=[v]/\(Bor A H (.d (.lst l)) v\/Bor A H (.d (.tup l)) v):=by
  rcases e1 with rfl | rfl
  ·obtain ⟨v,e,h⟩:=zbI b;exact ⟨v,e,.inl h⟩
  ·obtain ⟨v,e,h⟩:=zbI b;exact ⟨v,e,.inr h⟩
 obtain ⟨a,ys,rfl,hs,hl⟩:=zfF (K:=K) bb
 exact ⟨a,ys,rfl,hs,fun p H' np g S=>k _ n _ H' h (uB hl (zu.same S) (al.new np) g) (Go.same P S) fun z=>uq hl S np g⟩⟩
def zjk:List W->Mo W:=fun ws n Q=>∃ l,(ws=[.d (.lst l)]\/ws=[.d (.tup l)])/\Q (.d (.tup l)) n
theorem zln:FL Pn false (zd2 K) zjk:=⟨fun A H xs ws n Q R al b P ⟨l,e1,h⟩ k=>by
 rcases e1 with rfl | rfl
 ·obtain ⟨v,rfl,bb⟩:=zbI b
  obtain ⟨a,ys,rfl,ha,hl⟩:=xk bb
  exact ⟨a,ys,rfl,.inl ⟨.of ha,fun p H' np g S=>k _ n _ H' h (zcl hl (zu.same S) (al.new np) g) (Go.same P S) fun z=>by cases z⟩⟩
 ·obtain ⟨v,rfl,bb⟩:=zbI b
  obtain ⟨a,ys,e,ha,hl⟩:=id bb
  subst e
  exact ⟨a,ys,rfl,.inr ⟨.of (zq _ _ ha),k _ n _ H h (Val.of ⟨a,ys,rfl,ha,hl⟩) (Go.refl P) fun z=>by cases z⟩⟩⟩
def uj {α:Type}(xs:List α)(lo hi:Option Int):List α:=(xs.drop (HT.sIx xs.length 0 lo)).take (HT.sIx xs.length xs.length hi - HT.sIx xs.length 0 lo)
theorem zdF {G:Hp}{l:List Dt}{xs:List V}{lo hi:Option Int}(h:IsL G l xs):IsL G (uj l lo hi) (zbf xs lo hi):=by
 unfold uj zbf
 rw [h.length]
 exact (h.drop _).take _
def xl {κ:Type}[DecidableEq κ](kvs:List (κ×Dt))(k:κ):Option Dt:=(kvs.find? fun q=>decide (q.1=k)).map (·.2)
theorem zfu.look {κ:Type}[DecidableEq κ]{G:Hp}{k:κ}:∀ {kvs:List (κ×Dt)} {ks:List (κ×V)},zfu G kvs ks->(xl kvs k=none->uY ks k=none)/\∀ d,xl kvs k=some d->∃ v,uY ks k=some v/\Is G d v
 | [],_,h=>by cases h;exact ⟨fun _=>rfl,fun d e=>by cases e⟩
 | q::r,ks,⟨v,s,e,h1,h2⟩=>by
  subst e
  have ih:=zfu.look (k:=k) h2
  by_cases hk:q.1=k
  ·refine ⟨fun z=>?_,fun d z=>?_⟩
   ·simp [xl,List.find?_cons,hk] at z
   ·simp [xl,List.find?_cons,hk] at z
    subst z
    exact ⟨v,xI hk,h1⟩
  ·have e1:xl (q::r) k=xl r k:=by simp [xl,List.find?_cons,hk]
   rw [e1,xi hk]
   exact ih
end
section
variable {X:Cx}{Pn:Option zj}{M S:List Nat}{fr:Bool}{e a b c:Expr}{es:List Expr}{f fa fb fc:Ev->Mo W}{pos p:Pos}
theorem zbP {r:R2}{F:W->W->Mo W}(hx:IxQ X r)(hr:F2 Pn fr r F)(ha:JB X Pn M a fa)(hb:JB X Pn M b fb)(hs:zdh b):JE X Pn M fr (.Subscript a b pos) (zmf F fa fb):=by
 obtain ⟨ta,qa,ra⟩:=ha.ex
 obtain ⟨tb,qb,rb⟩:=hb.ex
 exact ⟨_,zfb hx qa qb hs,ziP hr ra rb⟩
@[reducible] def zkk:Ev->Mo (Option Int):=fun _ n Q=>Q none n
def zkm (fa:Ev->Mo W):Ev->Mo (Option Int):=fun ρ n Q=>fa ρ n fun x m=>∃ i,x = .d (.int i)/\Q (some i) m
theorem zdI:JO X Pn M none zkk:=⟨_,zgY,fun A σ H ρ n Q R E P hf k=>k none n H hf (Go.refl P)⟩
theorem zdJ (h:JB X Pn M e f):JO X Pn M (some e) (zkm f):=by
 obtain ⟨te,q,r⟩:=h.ex
 refine ⟨_,zgZ q,fun A σ H ρ n Q R E P hf k=>?_⟩
 refine r.run A σ H ρ n _ _ E P hf fun w m v H' ⟨i,e,r⟩ bb g=>?_
 subst e
 exact ⟨i,yt bb,k (some i) m H' r g⟩
def zoS (fa:Ev->Mo W)(fl fh:Ev->Mo (Option Int)):Ev->Mo W:=fun ρ n Q=>fa ρ n fun x n1=>fl ρ n1 fun lo n2=>fh ρ n2 fun hi n3=>∃ l,x = .d (.tup l)/\Q (.d (.tup (uj l lo hi))) n3
def zoR (fa:Ev->Mo W)(fl fh:Ev->Mo (Option Int)):Ev->Mo W:=fun ρ n Q=>fa ρ n fun x n1=>fl ρ n1 fun lo n2=>fh ρ n2 fun hi n3=>∃ l,x = .d (.lst l)/\Q (.d (.lst (uj l lo hi))) n3
theorem zl4 {lo hi:Option Expr}{fl fh:Ev->Mo (Option Int)}{p2:Pos}(he:JB X Pn M e f)(hl:JO X Pn M lo fl)(hh:JO X Pn M hi fh):JE X Pn M false (.Subscript e (.Slice lo hi none p2) pos) (zoS f fl fh):=by
 obtain ⟨te,qe,re⟩:=he.ex
 obtain ⟨tl,ql,rl⟩:=hl.ex
 obtain ⟨th,qh,rh⟩:=hh.ex
 refine ⟨_,zb9 zle qe ql qh,⟨fun A σ H ρ n Q R E P hf k=>?_⟩⟩
 refine re.run A σ H ρ n _ _ E P hf fun w m v H1 r1 bb g1=>?_
 refine rl A σ H1 ρ m _ _ (E.stay g1.st) g1.pn r1 fun o m2 H2 r2 g2=>?_
 refine rh A σ H2 ρ m2 _ _ ((E.stay g1.st).stay g2.st) g2.pn r2 fun o3 m3 H3 ⟨l,e,r3⟩ g3=>?_
 subst e
 have g:=(g1.trans g2).trans g3
 obtain ⟨ad,xs,rfl,ha,hl⟩:=um (bb.stay (g2.trans g3).st)
 exact ⟨ad,xs,rfl,ha,fun p H' gp S=>k _ m3 _ H' r3 (zcl (zdF hl) (zu.same S) (Al.noT' (E.stay g.st).al (zu.same S) gp) gp) (g.trans (Go.same g3.pn S)) fun z=>by cases z⟩
theorem zoC {lo hi:Option Expr}{fl fh:Ev->Mo (Option Int)}{p2:Pos}(he:JB X Pn M e f)(hl:JO X Pn M lo fl)(hh:JO X Pn M hi fh):JE X Pn M true (.Subscript e (.Slice lo hi none p2) pos) (zoR f fl fh):=by
 obtain ⟨te,qe,re⟩:=he.ex
 obtain ⟨tl,ql,rl⟩:=hl.ex
 obtain ⟨th,qh,rh⟩:=hh.ex
 refine ⟨_,zb9 zhi qe ql qh,⟨fun A σ H ρ n Q R E P hf k=>?_⟩⟩
 refine re.run A σ H ρ n _ _ E P hf fun w m v H1 r1 bb g1=>?_
 refine rl A σ H1 ρ m _ _ (E.stay g1.st) g1.pn r1 fun o m2 H2 r2 g2=>?_
 refine rh A σ H2 ρ m2 _ _ ((E.stay g1.st).stay g2.st) g2.pn r2 fun o3 m3 H3 ⟨l,e,r3⟩ g3=>?_
 subst e
 have g:=(g1.trans g2).trans g3
 obtain ⟨ad,xs,rfl,ha,hl⟩:=xk (bb.stay (g2.trans g3).st)
 refine ⟨ad,xs,rfl,.of ha,fun p np=>?_⟩
 have S:=yL.upd (o:=.lst (zbf xs o o3)) np
 exact k _ m3 _ _ r3 (uB (zdF hl) (zu.same S) ((E.stay g.st).new np) zh) (g.trans (Go.same g3.pn S)) fun z=>(uq (zdF hl) S np zh).back g.st
@[reducible] def zlt:W->Option Key
 | .d (.int i)=>some (Sum.inl i)
 | .d (.str x)=>some (Sum.inr x)
 | _=>none
theorem zgy {A:Addr->Prop}{H:Hp}{w:W}{v:V}{k:Key}(h:Bor A H w v)(e:zlt w=some k):v=kV k:=by
 cases w with
 | d x=>
  cases x with
  | int i=>cases e;exact h
  | str i=>cases e;exact h
  | _=>cases e
 | _=>cases e
def zkg (fd fk:Ev->Mo W):Ev->Mo W:=fun ρ n Q=>fd ρ n fun x n1=>fk ρ n1 fun y n2=>∃ kvs k d,x = .dk kvs/\zlt y=some k/\xl kvs k=some d/\Q (.d d) n2
def zmh (neg:Bool)(fk fd:Ev->Mo W):Ev->Mo W:=fun ρ n Q=>fk ρ n fun y n1=>fd ρ n1 fun x n2=>∃ kvs k,x = .dk kvs/\zlt y=some k/\Q (.d (.bl (if neg then !(xl kvs k).isSome else (xl kvs k).isSome))) n2
theorem zei {A:Addr->Prop}{H:Hp}{kvs:List (Key×Dt)}{v:V}(h:Bor A H (.dk kvs) v):∃ a ks,v = .ref a/\H a=some (.dK ks)/\zfu (yr A H) kvs ks/\uY ks (Sum.inr "at" : Key)=none:=h
theorem zl3 (hu:X.A.units+1<cLine)(ha:JB X Pn M a fa)(hb:JB X Pn M b fb)(hs:znW b):JE X Pn M false (.Subscript a b pos) (zkg fa fb):=by
 obtain ⟨ta,qa,ra⟩:=ha.ex
 obtain ⟨tb,qb,rb⟩:=hb.ex
 refine ⟨_,xE hu qa qb hs,⟨fun A σ H ρ n Q R E P hf k=>?_⟩⟩
 refine ra.run A σ H ρ n _ _ E P hf fun w1 m1 v1 H1 r1 b1 g1=>?_
 refine rb.run A σ H1 ρ m1 _ _ (E.stay g1.st) g1.pn r1 fun w2 m2 v2 H2 ⟨kvs,ky,d,e1,e2,e3,r⟩ b2 g2=>?_
 subst e1
 obtain ⟨ad,ks,rfl,had,hk,_⟩:=zei (b1.stay g2.st)
 obtain ⟨v,h1,h2⟩:=(hk.look (k:=ky)).2 d e3
 refine ⟨ad,v,rfl,?_,k _ m2 _ H2 r (Val.of h2) (g1.trans g2) fun z=>by cases z⟩
 rw [zgy b2 e2,<- h1]
 exact zco.k had
theorem znh {ta tb:TE}(ra:RB Pn M ta fa)(rb:RB Pn M tb fb):RE Pn M false (zpr ta tb) (zmh false fa fb):=⟨fun A σ H ρ n Q R E P hf k=>by
 refine ra.run A σ H ρ n _ _ E P hf fun w1 m1 v1 H1 r1 b1 g1=>?_
 refine rb.run A σ H1 ρ m1 _ _ (E.stay g1.st) g1.pn r1 fun w2 m2 v2 H2 ⟨kvs,ky,e1,e2,r⟩ b2 g2=>?_
 subst e1
 obtain ⟨ad,ks,rfl,had,hk,_⟩:=zei b2
 refine ⟨ad,uY ks ky,rfl,by rw [zgy b1 e2];exact zco.k had,k _ m2 _ H2 r (Val.of ?_) (g1.trans g2) fun z=>by cases z⟩
 have:(uY ks ky).isSome=(xl kvs ky).isSome:=by
  cases e:xl kvs ky with
  | none=>rw [(hk.look (k:=ky)).1 e];rfl
  | some d=>obtain ⟨v,h1,_⟩:=(hk.look (k:=ky)).2 d e;rw [h1];rfl
 rw [this]
 rfl⟩
theorem zl8 (hu:X.A.units+1<cLine)(ha:JB X Pn M a fa)(hb:JB X Pn M b fb)(h1:behindInMarks .In b=false:=by first | exact zbW _ (by decide) (by decide) | rfl):JT X Pn M (.Compare a [.In] [b] pos) (zhF (zmh false fa fb)):=by
 obtain ⟨ta,qa,ra⟩:=ha.ex
 obtain ⟨tb,qb,rb⟩:=hb.ex
 exact ⟨_,zna (zm3 hu qa qb) h1,zpp (znh ra rb).rb⟩
@[reducible] def prD (q:Int×Dt):Dt:=.tup [.int q.1,q.2]
def kvD (q:Int×Dt):Key×Dt:=(Sum.inl q.1,q.2)
def zf7:List W->Mo W:=fun ws n Q=>∃ ps:List (Int×Dt),ws=[.d (.tup (ps.map prD))]/\(ps.map (·.1)).Nodup/\ps.length<=1000/\Q (.dk (ps.map kvD)) n
theorem zjy {G H:Hp}(s:yL G H):∀ {ps:List (Int×Dt)} {xs:List V},IsL G (ps.map prD) xs->∃ qs:List (Addr×Int×V),xs=qs.map (fun q=>V.ref q.1)/\(∀ q∈qs,H q.1=some (.tup [.int q.2.1,q.2.2]))/\qs.map (·.2.1)=ps.map (·.1)/\zfu G (ps.map kvD) (qs.map fun q=>((Sum.inl q.2.1:Key),q.2.2))
 | [],xs,h=>by cases h;exact ⟨[],rfl,fun _ h=>by simp at h,rfl,rfl⟩
 | p::ps,xs,h=>by
  obtain ⟨x,r,rfl,⟨ad,ys,rfl,had,y0,r0,rfl,h0,y1,r1,rfl,h1,h2⟩,hr⟩:=h
  cases h0
  cases h2
  obtain ⟨qs,rfl,a1,a2,a3⟩:=zjy s hr
  refine ⟨(ad,p.1,y1)::qs,rfl,fun q hq=>?_,by rw [List.map_cons,List.map_cons,a2],y1,_,rfl,h1,a3⟩
  rcases List.mem_cons.mp hq with rfl | hq
  ·exact s _ _ had
  ·exact a1 q hq
theorem zeO (ps:List (Addr×Int×V)):uY (ps.map fun q=>((Sum.inl q.2.1:Key),q.2.2)) (Sum.inr "at" : Key)=none:=by
 induction ps with
 | nil=>rfl
 | cons q ps ih=>
  rw [List.map_cons,xi (by intro z;cases z)]
  exact ih
theorem zll:FL Pn true zg2 zf7:=⟨fun A H xs ws n Q R al b P ⟨ps,e1,hnd,hz,h⟩ k=>by
 subst e1
 obtain ⟨v,rfl,bb⟩:=zbI b
 obtain ⟨ad,ys,rfl,had,hl⟩:=um bb
 obtain ⟨qs,rfl,a1,a2,a3⟩:=zjy zq hl
 have hlen:qs.length=ps.length:=by have:=congrArg List.length a2;simpa using this
 refine ⟨ad,qs,rfl,⟨had,a1⟩,by rw [a2];exact hnd,by lia,fun p H' np g S=>?_⟩
 exact k _ n _ H' h ⟨p,_,rfl,yx (al.new np) g,a3.stay (zZ (zu.same S)),zeO qs⟩ (Go.same P S) fun z=>⟨p,rfl,.of np,p,_,rfl,g,a3.stay (xp (zu.same S) (.of np)),zeO qs⟩⟩
def spV (k:Nat)(fr:Bool)(F:Option zj->List W->Mo W):Sp:=fun vs H Q _=>∃ Pn A ws n R,Al A H/\zbG A H ws vs/\ws.length=k/\xR Pn A n H/\F Pn ws n R/\∀ w m v H',R w m->Val A H' w v->Go Pn A H m H'->(fr=true->FrV A H H' w v)->Q v H'
def mFn (k:Nat)(F:List W->Mo W)(fa:Ev->Mo (List W)):Ev->Mo W:=fun ρ n Q=>fa ρ n fun ws m=>ws.length=k/\F ws m Q
theorem zpm {k:Nat}{F:Option zj->List W->Mo W}{ta:TA}{fs:Ev->Mo (List W)}(ha:RA Pn M ta fs):RE Pn M fr (zfj (spV k fr F) [] E0 ta) (mFn k (F Pn) fs):=⟨fun A σ H ρ n Q R E P hf kk=>by
 refine ha.run A σ H ρ n _ _ E P hf fun ws m vs H1 ⟨hk,r⟩ b g=>?_
 rw [List.append_nil]
 exact ⟨Pn,A,ws,m,R,(E.stay g.st).al,b,hk,g.pn,r,fun w m' v H' h1 h2 h3 h4=>kk w m' v H' h1 h2 (g.trans h3) fun z=>(h4 z).back g.st⟩⟩
theorem ug {x:Str}{st:Stmt}{ps:List Str}{fA:Addr}{fd:FuncData}{k:Nat}{F:Option zj->List W->Mo W}{j kk:Nat}{fs:Ev->Mo (List W)}(D:Dfn X.K X.mg x st ps fA fd)(G:FnOk X.prog X.w X.K X.mg X.base CX0 j fA fd ps (spV k fr F))(hr:Room kk X.A)
  (ha:JA X Pn M (e::es) fs) (hjk:j<=kk:=by decide) (hg:Gl X x:=by rfl) (hdb:(x==("__debug__" : Str))=false:=by decide) (he:starEach (e::es) X.env=(false,eval e X.env)::starEach es X.env:=by rfl) (hpl:(backTo pos (starEach es X.env)).any (·.1)=false:=by rfl) :
  JE X Pn M fr (.Call (.Name x p) (e::es) [] pos) (mFn k (F Pn) fs):=by
 obtain ⟨ta,qa,ra⟩:=ha.ex
 exact ⟨_,zba D G hr qa hjk hg hdb he hpl,zpm ra⟩
@[reducible] def W.flat (fr:Bool):W->Bool
 | .d (.lst l)=>fr&&Dt.noLs l
 | .d x=>x.noL
 | .pen _=>true
 | .dk _=>false
 | .dt _=>false
theorem xR.less {A A':Addr->Prop}{n:Nat}{H:Hp}(h:xR Pn A n H)(s:∀ a,A' a->A a):xR Pn A' n H:=by
 unfold xR at h ⊢
 split at h
 ·trivial
 ·exact ⟨h.1,fun z=>h.2.1 (s _ z),fun z=>h.2.2 (s _ z)⟩
end
structure JG (X:Cx)(S M:List Nat)(e:Expr)(mg:W->Ev->(Ev->Prop)->Prop):Prop where
 ex:∃ g,QG X e g/\RG S M g mg
structure JGs (X:Cx)(S M:List Nat)(es:List Expr)(mg:List Dt->Ev->(Ev->Prop)->Prop):Prop where
 ex:∃ g,QGs X es g/\RGs S M g mg
structure JI (X:Cx)(Pn:Option zj)(M:List Nat)(ow:Bool)(tg e:Expr)(f:Ev->Mo (List W)):Prop where
 ex:∃ wi,QI X tg e wi/\RI Pn M ow wi f
structure JTs (X:Cx)(Pn:Option zj)(M:List Nat)(es:List Expr)(f:Ev->Mo Bool):Prop where
 ex:∃ t,QTs X es t/\RT Pn M t f
section
variable {X:Cx}{Pn:Option zj}{M S:List Nat}{fr:Bool}{e a b c:Expr}{es:List Expr}{f fa fb fc:Ev->Mo W}{pos p:Pos}
def gN (i:Nat):W->Ev->(Ev->Prop)->Prop:=fun w ρ Q=>Q (ρ.set i (some w))
def gNl:List Dt->Ev->(Ev->Prop)->Prop:=fun ds ρ Q=>ds=[]/\Q ρ
def gCn (g:W->Ev->(Ev->Prop)->Prop)(u:List Dt->Ev->(Ev->Prop)->Prop):List Dt->Ev->(Ev->Prop)->Prop:=fun ds ρ Q=>∃ d r,ds=d::r/\g (.d d) ρ fun ρ'=>u r ρ' Q
def gTp (n:Nat)(u:List Dt->Ev->(Ev->Prop)->Prop):W->Ev->(Ev->Prop)->Prop:=fun w ρ Q=>∃ ds,w = .d (.tup ds)/\ds.length=n/\u ds ρ Q
theorem EnvR.set {A:Addr->Prop}{σ:St}{H:Hp}{ρ:Ev}(E:EnvR A M σ H ρ){i:Nat}{w:W}{v:V}(hi:i∉M)(h:Val A H w v):EnvR A M (σ.set i (some v)) H (ρ.set i (some w)) where
 len:=by rw [List.length_set,List.length_set];exact E.len
 val:=fun j u e=>by
  by_cases hj:j=i
  ·subst hj
   have hl:j<ρ.length:=by
    have:=(List.getElem?_eq_some_iff.mp e).1
    rwa [List.length_set] at this
   rw [List.getElem?_set_self hl] at e
   cases e
   exact ⟨v,List.getElem?_set_self (by rw [E.len];exact hl),fun _=>h,fun z=>absurd z hi⟩
  ·rw [List.getElem?_set_ne (Ne.symm hj)] at e ⊢
   exact E.val j u e
 dis:=fun j k u u' ad hj hk hne e1 e2 s1=>by
  have hj':i≠j:=fun z=>hi (z ▸ hj)
  have hk':i≠k:=fun z=>hi (z ▸ hk)
  rw [List.getElem?_set_ne hj'] at e1 s1
  rw [List.getElem?_set_ne hk'] at e2 ⊢
  exact E.dis j k u u' ad hj hk hne e1 e2 s1
 al:=E.al
theorem zd5 {i:Nat}(hi:i∉M)(hs:i∉S):RG S M (u8 i) (gN i):=⟨fun A σ H ρ v w Q R E h r k=>k _ _ r (E.set hi h) fun j hj=>⟨List.getElem?_set_ne fun (z:i=j)=>hs (by rw [z];exact hj),List.getElem?_set_ne fun (z:i=j)=>hs (by rw [z];exact hj)⟩⟩
theorem zB {i:Nat}{x:Str}(hN:X.N.Nodup)(hx:X.N[i]?=some x)(hl:Loc X.env.scope x)(hi:i∉M:=by decide)(hs:i∉S:=by decide)(hf:X.fn x=true\/X.env.scope.names.lookup x=some .local:=by first | exact .inl rfl | exact .inr rfl | assumption):JG X S M (.Name x pos) (gN i):=⟨_,x4 hN hx hl hf,zd5 hi hs⟩
theorem zaa:JGs X S M [] gNl:=⟨_,zgW,⟨fun A σ H ρ vs ds Q R E h ⟨e,r⟩ k=>by
 subst e
 exact ⟨h,k σ ρ r E fun _ _=>⟨rfl,rfl⟩⟩⟩⟩
theorem yi {g:W->Ev->(Ev->Prop)->Prop}{u:List Dt->Ev->(Ev->Prop)->Prop}(h1:JG X S M e g)(h2:JGs X S M es u)(hs:(assignEach (e::es) X.env).map (·.2)=assign e X.env::(assignEach es X.env).map (·.2):=by rfl):JGs X S M (e::es) (gCn g u):=by
 obtain ⟨t1,q1,r1⟩:=h1.ex
 obtain ⟨t2,q2,r2⟩:=h2.ex
 refine ⟨_,zca q1 q2 hs,⟨fun A σ H ρ vs ds Q R E h ⟨d,r,e,hg⟩ k=>?_⟩⟩
 subst e
 obtain ⟨v,s,rfl,hv,hr⟩:=h
 refine ⟨v,s,rfl,?_⟩
 refine r1.run A σ H ρ v _ _ _ E (Val.of hv) hg fun σ' ρ' hu E' f1=>?_
 exact r2.run A σ' H ρ' s _ _ _ E' hr hu fun σ2 ρ2 hR E2 f2=>k σ2 ρ2 hR E2 fun i hi=>⟨(f2 i hi).1.trans (f1 i hi).1,(f2 i hi).2.trans (f1 i hi).2⟩
theorem zbs {k n:Nat}{u:List Dt->Ev->(Ev->Prop)->Prop}(K:PySem.W.Frag)(hK:X.K=K)(hc:X.calm=true)(h:JGs X S M es u)(hn:(assignEach es X.env).length=n:=by rfl)(hst:(assignEach es X.env).findIdx? (·.1)=none:=by rfl):JG X S M (.Tuple es k pos) (gTp n u):=by
 obtain ⟨t1,q1,r1⟩:=h.ex
 refine ⟨_,zk4 K hK hc q1 hn hst,⟨fun A σ H ρ v w Q R E h ⟨ds,e,hl,hu⟩ kk=>?_⟩⟩
 subst e
 obtain ⟨ad,xs,rfl,had,hx⟩:=h
 exact ⟨ad,xs,rfl,.of (zq _ _ had),by rw [hx.length];exact hl,r1.run A σ H ρ xs ds _ _ E hx hu kk⟩
def zoL (fa:Ev->Mo W):Ev->Mo (List W):=fun ρ n Q=>fa ρ n fun x m=>∃ l,x = .d (.lst l)/\Q (l.map W.d) m
def zoN (fa:Ev->Mo W):Ev->Mo (List W):=fun ρ n Q=>fa ρ n fun x m=>∃ l,x = .d (.tup l)/\Q (l.map W.d) m
theorem zgo {G G':Hp}{l:List Dt}{xs:List V}{i:Nat}{w:W}(h:IsL G l xs)(e:(l.map W.d)[i]?=some w)(s:zu G G'):∃ d x,w = .d d/\xs[i]?=some x/\Is G' d x:=by
 rw [List.getElem?_map] at e
 obtain ⟨d,h1,rfl⟩:=Option.map_eq_some_iff.mp e
 obtain ⟨x,h2,h3⟩:=h.getD h1
 exact ⟨d,x,rfl,h2,h3.stay s⟩
theorem zie {K:PySem.W.Frag}{A:Addr->Prop}{H:Hp}{ad:Addr}{xs:List V}{l:List Dt}(h:yr A H ad=some (.lst xs))(hl:IsL (yr A H) l xs):ItV false A H (Itl K ad) (l.map W.d) where
 one:=fun i w A2 H2 e s _ _=>by
  obtain ⟨d,x,rfl,hx,hd⟩:=zgo hl e s
  have g:=zq _ _ (s.lst h)
  refine ⟨⟨xs,x,.of g,hx⟩,fun y H3 ⟨e3,hy⟩=>?_⟩
  subst e3
  have:=hy xs (.of g)
  rw [hx] at this
  cases this
  exact ⟨fun _ _ z=>z,Val.of hd⟩
 stop:=fun A2 H2 s _=>⟨xs,.of (zq _ _ (s.lst h)),by rw [List.length_map,hl.length];exact Nat.le_refl _⟩
theorem zj3 {K:PySem.W.Frag}{A:Addr->Prop}{H:Hp}{ad:Addr}{xs:List V}{l:List Dt}(h:yr A H ad=some (.tup xs))(hl:IsL (yr A H) l xs):ItV false A H (Itt K ad) (l.map W.d) where
 one:=fun i w A2 H2 e s _ _=>by
  obtain ⟨d,x,rfl,hx,hd⟩:=zgo hl e s
  have g:=zq _ _ (s.tup h)
  refine ⟨⟨xs,x,.of g,hx⟩,fun y H3 ⟨e3,hy⟩=>?_⟩
  subst e3
  have:=hy xs (.of g)
  rw [hx] at this
  cases this
  exact ⟨fun _ _ z=>z,Val.of hd⟩
 stop:=fun A2 H2 s _=>⟨xs,.of (zq _ _ (s.tup h)),by rw [List.length_map,hl.length];exact Nat.le_refl _⟩
theorem zgs {tg:Expr}(K:PySem.W.Frag)(hK:X.K=K)(h:JE X Pn M fr e f):JI X Pn M false tg e (zoL f):=by
 obtain ⟨te,q,r⟩:=h.ex
 refine ⟨_,zeF K hK q,⟨fun A σ H ρ n Q R E P hf k=>?_⟩⟩
 refine r.run A σ H ρ n _ _ E P hf fun w m v H1 ⟨l,e,r⟩ hv g _=>?_
 subst e
 obtain ⟨ad,xs,rfl,had,hl⟩:=hv
 exact ⟨ad,rfl,⟨xs,.of (zq _ _ had)⟩,k _ m _ H1 r (zie had hl) g⟩
theorem zaU {tg:Expr}(K:PySem.W.Frag)(hK:X.K=K)(h:JE X Pn M fr e f):JI X Pn M false tg e (zoN f):=by
 obtain ⟨te,q,r⟩:=h.ex
 refine ⟨_,zk5 K hK q,⟨fun A σ H ρ n Q R E P hf k=>?_⟩⟩
 refine r.run A σ H ρ n _ _ E P hf fun w m v H1 ⟨l,e,r⟩ hv g _=>?_
 subst e
 obtain ⟨ad,xs,rfl,had,hl⟩:=hv
 exact ⟨ad,rfl,⟨xs,.of (zq _ _ had)⟩,k _ m _ H1 r (zj3 had hl) g⟩
def zfe (lo:Int)(n:Nat):List W:=(List.range n).map fun i:Nat=>W.d (.int (lo+i))
theorem zj2 {A:Addr->Prop}{H:Hp}{lo:Int}{n:Nat}:ItV false A H (Itr lo n) (zfe lo n) where
 one:=fun i w A2 H2 e s _ _=>by
  unfold zfe at e
  rw [List.getElem?_map] at e
  obtain ⟨j,h1,rfl⟩:=Option.map_eq_some_iff.mp e
  obtain ⟨hi,h2⟩:=List.getElem?_eq_some_iff.mp h1
  rw [List.getElem_range] at h2
  subst h2
  rw [List.length_range] at hi
  refine ⟨hi,fun y H3 ⟨e3,hy⟩=>?_⟩
  subst e3 hy
  exact ⟨fun _ _ z=>z,Val.of rfl⟩
 stop:=fun A2 H2 s _=>by
  show n<=(zfe lo n).length
  unfold zfe
  rw [List.length_map,List.length_range]
  exact Nat.le_refl _
def zoM (fa:Ev->Mo (List W)):Ev->Mo (List W):=fun ρ n Q=>fa ρ n fun ws m=>∃ j:Int,ws=[.d (.int j)]/\j<=1000000/\-1000000<=j/\Q (zfe 0 j.toNat) m
theorem xq {tg:Expr}{fs:Ev->Mo (List W)}(hg:Gl X "range")(hm:X.mg "range" = none)(ha:JAB X Pn M [a] fs)(hs:starEach [a] X.env=[(false,eval a X.env)]:=by rfl):JI X Pn M false tg (.Call (.Name "range" p) [a] [] pos) (zoM fs):=by
 obtain ⟨te,q,r⟩:=ha.ex
 refine ⟨_,zc0 hg hm q hs,⟨fun A σ H ρ n Q R E P hf k=>?_⟩⟩
 refine r.run A σ H ρ n _ _ E P hf fun ws m vs H1 ⟨j,e,j1,j2,r⟩ hv g=>?_
 subst e
 obtain ⟨v,rfl,bb⟩:=zbI hv
 obtain rfl:=yt bb
 exact ⟨j,rfl,by lia,by lia,k _ m _ H1 r zj2 g⟩
def enW:Nat->List Dt->List W
 | _,[]=>[]
 | k,x::r=>.d (.tup [.int k,x])::enW (k+1) r
theorem zdw:∀ (l:List Dt) (k i:Nat),(enW k l)[i]?=(l[i]?).map fun x=>W.d (.tup [.int ((k+i:Nat):Int),x])
 | [],_,_=>by simp [enW]
 | x::r,k,0=>by simp [enW]
 | x::r,k,i+1=>by
  have:=zdw r (k+1) i
  simp only [enW,List.getElem?_cons_succ,this]
  rw [show k+1+i=k+(i+1) by lia]
theorem zf2:∀ (l:List Dt) (k:Nat),(enW k l).length=l.length
 | [],_=>rfl
 | x::r,k=>by rw [enW,List.length_cons,List.length_cons,zf2 r]
def zoK (fa:Ev->Mo (List W)):Ev->Mo (List W):=fun ρ n Q=>fa ρ n fun ws m=>∃ l,ws=[.d (.tup l)]/\Q (enW 0 l) m
theorem zid {K:PySem.W.Frag}{A:Addr->Prop}{H:Hp}{ad:Addr}{xs:List V}{l:List Dt}(h:yr A H ad=some (.tup xs))(hl:IsL (yr A H) l xs):ItV false A H (Ite K ad) (enW 0 l) where
 one:=fun i w A2 H2 e s _ hA=>by
  rw [zdw] at e
  obtain ⟨d,h1,rfl⟩:=Option.map_eq_some_iff.mp e
  obtain ⟨x,hx,hd⟩:=hl.getD h1
  have g:=zq _ _ (s.tup h)
  refine ⟨⟨xs,x,.of g,hx⟩,fun y H3 ⟨T,z,e1,hT,e3,hy⟩=>?_⟩
  subst e1 e3
  have:=hy xs (.of g)
  rw [hx] at this
  cases this
  have S:=yL.upd (o:=.tup [.int i,x]) hT
  refine ⟨S,Val.of ⟨T,_,rfl,yx (hA T hT) zh,_,_,rfl,?_,_,_,rfl,(hd.stay s).stay (zu.same (zaQ S)),rfl⟩⟩
  show V.int (i:Int)=V.int ((0+i:Nat):Int)
  rw [Nat.zero_add]
 stop:=fun A2 H2 s _=>⟨xs,.of (zq _ _ (s.tup h)),by rw [zf2,hl.length];exact Nat.le_refl _⟩
theorem zdH {elts:List Expr}{x1}{tpos:Pos}{fs:Ev->Mo (List W)}(hg:Gl X "enumerate")(hm:X.mg "enumerate" = none)(ha:JA X Pn M [a] fs)(hs:starEach [a] X.env=[(false,eval a X.env)]:=by rfl):JI X Pn M false (.Tuple elts x1 tpos) (.Call (.Name "enumerate" p) [a] [] pos) (zoK fs):=by
 obtain ⟨te,q,r⟩:=ha.ex
 refine ⟨_,zgX hg hm q hs,⟨fun A σ H ρ n Q R E P hf k=>?_⟩⟩
 refine r.run A σ H ρ n _ _ E P hf fun ws m vs H1 ⟨l,e,r⟩ hv g=>?_
 subst e
 obtain ⟨v,s,rfl,⟨ad,xs,rfl,had,hl⟩,hs⟩:=hv
 cases hs
 exact ⟨ad,rfl,⟨xs,.of (zq _ _ had)⟩,k _ m _ H1 r (zid had hl) g⟩
def ziW:List Dt->List Dt->List W
 | x::r,y::s=>.d (.tup [x,y])::ziW r s
 | _,_=>[]
theorem zhD:∀ (l k:List Dt) (i:Nat),l.length=k.length->(ziW l k)[i]?=(l[i]?).bind fun x=>(k[i]?).map fun y=>W.d (.tup [x,y])
 | [],[],_,_=>by simp [ziW]
 | [],_::_,_,h=>by simp at h
 | _::_,[],_,h=>by simp at h
 | x::r,y::s,0,_=>by simp [ziW]
 | x::r,y::s,i+1,h=>by
  have:=zhD r s i (by simpa using h)
  simp only [ziW,List.getElem?_cons_succ,this]
theorem zhE:∀ (l k:List Dt),l.length=k.length->(ziW l k).length=l.length
 | [],[],_=>rfl
 | [],_::_,h=>by simp at h
 | _::_,[],h=>by simp at h
 | x::r,y::s,h=>by rw [ziW,List.length_cons,List.length_cons,zhE r s (by simpa using h)]
def zoO (fa:Ev->Mo (List W)):Ev->Mo (List W):=fun ρ n Q=>fa ρ n fun ws m=>∃ l k,ws=[.d (.tup l),.d (.tup k)]/\l.length=k.length/\Q (ziW l k) m
theorem zj4 {K:PySem.W.Frag}{A:Addr->Prop}{H:Hp}{ad bd:Addr}{xs ys:List V}{l k:List Dt}(hlen:l.length=k.length)(h:yr A H ad=some (.tup xs))(hl:IsL (yr A H) l xs)(h':yr A H bd=some (.tup ys))(hk:IsL (yr A H) k ys):ItV false A H (Itz K ad bd) (ziW l k) where
 one:=fun i w A2 H2 e s _ hA=>by
  rw [zhD _ _ _ hlen] at e
  obtain ⟨d,h1,e⟩:=Option.bind_eq_some_iff.mp e
  obtain ⟨d',h1',rfl⟩:=Option.map_eq_some_iff.mp e
  obtain ⟨x,hx,hd⟩:=hl.getD h1
  obtain ⟨y,hy,hd'⟩:=hk.getD h1'
  have g:=zq _ _ (s.tup h)
  have g':=zq _ _ (s.tup h')
  refine ⟨⟨xs,ys,x,y,.of g,.of g',hx,hy⟩,fun v H3 ⟨T,z,z',e1,hT,e3,hz,hz'⟩=>?_⟩
  subst e1 e3
  have q1:=hz xs (.of g)
  have q2:=hz' ys (.of g')
  rw [hx] at q1
  rw [hy] at q2
  cases q1
  cases q2
  have S:=yL.upd (o:=.tup [x,y]) hT
  exact ⟨S,Val.of ⟨T,_,rfl,yx (hA T hT) zh,_,_,rfl,(hd.stay s).stay (zu.same (zaQ S)),_,_,rfl,(hd'.stay s).stay (zu.same (zaQ S)),rfl⟩⟩
 stop:=fun A2 H2 s _=>⟨xs,.of (zq _ _ (s.tup h)),by rw [zhE _ _ hlen,hl.length];exact Nat.le_refl _⟩
theorem zl6 {elts:List Expr}{x1}{tpos:Pos}{fs:Ev->Mo (List W)}(hg:Gl X "zip")(hm:X.mg "zip" = none)(ha:JA X Pn M [a,b] fs)(hs:starEach [a,b] X.env=[(false,eval a X.env),(false,eval b X.env)]:=by rfl)(hs2:starEach [b] X.env=[(false,eval b X.env)]:=by rfl):JI X Pn M false (.Tuple elts x1 tpos) (.Call (.Name "zip" p) [a,b] [] pos) (zoO fs):=by
 obtain ⟨te,q,r⟩:=ha.ex
 refine ⟨_,zm8 hg hm q hs hs2,⟨fun A σ H ρ n Q R E P hf k=>?_⟩⟩
 refine r.run A σ H ρ n _ _ E P hf fun ws m vs H1 ⟨l,kk,e,hlen,r⟩ hv g=>?_
 subst e
 obtain ⟨v,s,rfl,⟨ad,xs,rfl,had,hl⟩,v2,s2,rfl,⟨bd,ys,rfl,hbd,hk⟩,hs⟩:=hv
 cases hs
 exact ⟨ad,bd,rfl,⟨xs,.of (zq _ _ had)⟩,⟨ys,.of (zq _ _ hbd)⟩,k _ m _ H1 r (zj4 hlen had hl hbd hk) g⟩
def zfH (ρ:Ev)(cix:List (Option Nat)):Ev:=cix.map fun o=>match o with
 | none=>none
 | some i=>(ρ[i]?).join
def zax (M:List Nat)(cix:List (Option Nat)):List Nat:=(List.range cix.length).filter fun k=>match cix[k]? with
 | some (some i)=>M.contains i
 | _=>false
theorem zaB {cix:List (Option Nat)}{k:Nat}:k∈zax M cix↔∃ i,cix[k]?=some (some i)/\i∈M:=by
 unfold zax
 rw [List.mem_filter,List.mem_range]
 constructor
 ·rintro ⟨h1,h2⟩
  rw [List.getElem?_eq_getElem h1] at h2 ⊢
  cases e:cix[k] with
  | none=>rw [e] at h2;cases h2
  | some i=>rw [e] at h2;exact ⟨i,rfl,by simpa using h2⟩
 ·rintro ⟨i,h1,h2⟩
  exact ⟨(List.getElem?_eq_some_iff.mp h1).1,by rw [h1];simpa using h2⟩
theorem uZ {α:Type}{l:List (Option α)}{cix:List (Option Nat)}{k:Nat}{x:α}:(cix.map fun o=>match o with | none=>none | some i=>(l[i]?).join)[k]?=some (some x)↔∃ i,cix[k]?=some (some i)/\l[i]?=some (some x):=by
 rw [List.getElem?_map]
 cases e:cix[k]? with
 | none=>simp
 | some o=>
  cases o with
  | none=>simp
  | some i=>
   simp only [Option.map_some,Option.some.injEq]
   constructor
   ·intro h
    refine ⟨i,rfl,?_⟩
    cases q:l[i]? with
    | none=>rw [q] at h;cases h
    | some z=>rw [q] at h;cases z with
     | none=>cases h
     | some y=>cases h;rfl
   ·rintro ⟨j,rfl,h⟩
    rw [h]
    rfl
theorem EnvR.cap {A:Addr->Prop}{σ:St}{H:Hp}{ρ:Ev}(E:EnvR A M σ H ρ){cix:List (Option Nat)}(hn:(cix.filterMap id).Nodup):EnvR A (zax M cix) (zcx σ cix) H (zfH ρ cix) where
 len:=by unfold zcx zfH;rw [List.length_map,List.length_map]
 val:=fun k w e=>by
  obtain ⟨i,h1,h2⟩:=uZ.mp e
  obtain ⟨v,s1,s2,s3⟩:=E.val i w h2
  refine ⟨v,uZ.mpr ⟨i,h1,s1⟩,fun z=>s2 fun y=>z (zaB.mpr ⟨i,h1,y⟩),fun z=>?_⟩
  obtain ⟨j,h3,h4⟩:=zaB.mp z
  rw [h1] at h3
  cases h3
  exact s3 h4
 dis:=fun k k' w u ad hk hk' hne e1 e2 s1 s2=>by
  obtain ⟨i,h1,h2⟩:=uZ.mp e1
  obtain ⟨i',h1',h2'⟩:=uZ.mp e2
  obtain ⟨j,h3,h4⟩:=uZ.mp s1
  obtain ⟨j',h3',h4'⟩:=uZ.mp s2
  rw [h1] at h3
  cases h3
  rw [h1'] at h3'
  cases h3'
  obtain ⟨m,m1,m2⟩:=zaB.mp hk
  rw [h1] at m1
  cases m1
  obtain ⟨m',m1',m2'⟩:=zaB.mp hk'
  rw [h1'] at m1'
  cases m1'
  refine E.dis _ _ w u ad m2 m2' (fun z=>?_) h2 h2' h4 h4'
  subst z
  have key:∀ (l:List (Option Nat)) (a b:Nat) (x:Nat),(l.filterMap id).Nodup->l[a]?=some (some x)->l[b]?=some (some x)->a=b:=by
   intro l
   induction l with
   | nil=>intro a b x _ h;simp at h
   | cons o l ih=>
    intro a b x hn ha hb
    have mem:∀ (l:List (Option Nat)) (a:Nat),l[a]?=some (some x)->x∈l.filterMap id:=fun l a h=>List.mem_filterMap.mpr ⟨some x,List.mem_of_getElem? h,rfl⟩
    cases o with
    | none=>
     have hn':(l.filterMap id).Nodup:=by simpa using hn
     cases a with
     | zero=>simp at ha
     | succ a=>
      cases b with
      | zero=>simp at hb
      | succ b=>rw [ih a b x hn' (by simpa using ha) (by simpa using hb)]
    | some y=>
     have hn2:y∉l.filterMap id/\(l.filterMap id).Nodup:=by
      have hn':(y::l.filterMap id).Nodup:=hn
      exact List.nodup_cons.mp hn'
     cases a with
     | zero=>
      have ha':y=x:=by simpa using ha
      subst ha'
      cases b with
      | zero=>rfl
      | succ b=>exact absurd (mem l b (by simpa using hb)) hn2.1
     | succ a=>
      cases b with
      | zero=>
       have hb':y=x:=by simpa using hb
       subst hb'
       exact absurd (mem l a (by simpa using ha)) hn2.1
      | succ b=>rw [ih a b x hn2.2 (by simpa using ha) (by simpa using hb)]
  exact hne (key cix k k' _ hn h1 h1')
 al:=E.al
theorem EnvR.more {A:Addr->Prop}{σ:St}{H H':Hp}{ρ:Ev}(E:EnvR A M σ H ρ){p:Addr}{o:HO}(s:zu H H')(n:Fr H p)(g:H' p=some o)(np:NP o)(nt:∀ xs,o≠.tup xs):EnvR (fun b=>A b\/b=p) M σ H' ρ where
 len:=E.len
 val:=fun i w e=>by
  obtain ⟨v,h1,h2,h3⟩:=E.val i w e
  refine ⟨v,h1,fun z=>WAt.up (xp s n) (xp s n) (h2 z),fun z=>?_⟩
  obtain ⟨a,e,h4,h5,h6⟩:=h3 z
  exact ⟨a,e,.inl h4,WAt.up s (xp s n) h5,h6⟩
 dis:=E.dis
 al:=fun a h=>by
  rcases h with h | h
  ·obtain ⟨o,h1,h2,h3⟩:=E.al a h
   exact ⟨o,s _ _ h1 h2,h2,h3⟩
  ·subst h;exact ⟨o,g,np,nt⟩
theorem EnvR.upd {A:Addr->Prop}{σ:St}{H:Hp}{ρ:Ev}(E:EnvR A M σ H ρ){p:Addr}{o:HO}(hp:A p)(hn:∀ i w,i∈M->ρ[i]?=some (some w)->σ[i]?≠some (some (.ref p)))(np:NP o)(nt:∀ xs,o≠.tup xs):EnvR A M σ (L2.upd H p o) ρ where
 len:=E.len
 val:=fun i w e=>by
  obtain ⟨v,h1,h2,h3⟩:=E.val i w e
  refine ⟨v,h1,fun z=>?_,fun z=>?_⟩
  ·show WAt _ _ _ _
   rw [zaz hp]
   exact h2 z
  ·obtain ⟨a,e',h4,h5,h6⟩:=h3 z
   have hne:a≠p:=fun q=>hn i w z e (by rw [h1,e',q])
   refine ⟨a,e',h4,?_,h6⟩
   show WAt _ _ _ _
   rw [zaz hp]
   cases w with
   | d x=>
    cases x with
    | lst l=>obtain ⟨a2,xs,e2,g1,g2⟩:=h5;rw [e'] at e2;cases e2;exact ⟨a,xs,e',by rw [ze hne];exact g1,g2⟩
    | dct=>obtain ⟨a2,xs,e2,g1,g2⟩:=h5;rw [e'] at e2;cases e2;exact ⟨a,xs,e',by rw [ze hne];exact g1,g2⟩
    | _=>cases h6
   | pen p=>cases h6
   | dk k=>obtain ⟨a2,xs,e2,g1,g2⟩:=h5;rw [e'] at e2;cases e2;exact ⟨a,xs,e',by rw [ze hne];exact g1,g2⟩
   | dt k=>obtain ⟨a2,xs,e2,g1,g2⟩:=h5;rw [e'] at e2;cases e2;exact ⟨a,xs,e',by rw [ze hne];exact g1,g2⟩
 dis:=E.dis
 al:=fun a h=>by
  by_cases ha:a=p
  ·subst ha;exact ⟨o,zh,np,nt⟩
  ·rw [ze ha];exact E.al a h
theorem xR.upd {A:Addr->Prop}{n:Nat}{H:Hp}{p:Addr}{o:HO}(h:xR Pn A n H)(hp:A p):xR Pn A n (L2.upd H p o):=by
 unfold xR at h ⊢
 split at h
 ·trivial
 ·refine ⟨?_,h.2⟩
  rename_i q c ns
  obtain ⟨h1,h2,h3⟩:=h
  have e1:c≠p:=fun z=>h2 (z ▸ hp)
  have e2:q≠p:=fun z=>h3 (z ▸ hp)
  obtain ⟨a,l,g1,g2,g3,g4⟩:=h1.ob
  exact ⟨⟨a,l,by rw [ze e2];exact g1,g2,g3,g4⟩,by rw [ze e1];exact h1.ls,h1.len⟩
end
structure JS (X:Cx)(Pn:Option zj)(S M:List Nat)(fr:Bool)(st:Stmt)(fs:Ms):Prop where
 ex:∃ ts,QS X st ts/\RS Pn S M fr ts fs
structure JSs (X:Cx)(Pn:Option zj)(S M:List Nat)(fr:Bool)(st:List Stmt)(fs:Ms):Prop where
 ex:∃ ts,QSs X st ts/\RS Pn S M fr ts fs
section
variable {X:Cx}{Pn:Option zj}{M S:List Nat}{fr fr':Bool}{e a b c:Expr}{es:List Expr}{f fa fb fc:Ev->Mo W}{pos p:Pos}
theorem xR.grow {A:Addr->Prop}{n:Nat}{H H':Hp}{q:Addr}{o:HO}(h:xR Pn A n H)(h':xR Pn A n H')(hq:Fr H q)(g:H' q=some o)(np:NP o):xR Pn (fun b=>A b\/b=q) n H':=by
 unfold xR at h h' ⊢
 split at h
 ·trivial
 ·rename_i p c ns
  refine ⟨h'.1,fun z=>z.elim h'.2.1 fun z=>?_,fun z=>z.elim h'.2.2 fun z=>?_⟩
  ·subst z
   exact hq _ h.1.ls NP.lst
  ·subst z
   obtain ⟨a,l,e,_⟩:=h'.1.ob
   rw [e] at g
   cases g
   have:=np _ rfl
   rw [zkJ] at this
   cases this
theorem znN {scope:Scope}{N:List Str}{fr:Bool}(h:∀ C s H ex,JE (zo X scope N C s H ex) Pn M fr e f):∃ te,(∀ C s H ex,QE (zo X scope N C s H ex) e te)/\RE Pn M fr te f:=
 ⟨fun σ H Q=>∀ C s H0 ex,(h C s H0 ex).ex.choose σ H Q,fun C s H0 ex=>⟨fun pins s' σ H Q I z=>(h C s H0 ex).ex.choose_spec.1.run pins s' σ H Q I (z C s H0 ex)⟩,
  ⟨fun A σ H ρ n Q R E P hf k C s H0 ex=>(h C s H0 ex).ex.choose_spec.2.run A σ H ρ n Q R E P hf k⟩⟩
theorem znP {scope:Scope}{N:List Str}{ft:Ev->Mo Bool}(h:∀ C s H ex,JTs (zo X scope N C s H ex) Pn M es ft):∃ te,(∀ C s H ex,QTs (zo X scope N C s H ex) es te)/\RT Pn M te ft:=
 ⟨fun σ H Q=>∀ C s H0 ex,(h C s H0 ex).ex.choose σ H Q,fun C s H0 ex=>⟨fun pins s' σ H Q I z=>(h C s H0 ex).ex.choose_spec.1.run pins s' σ H Q I (z C s H0 ex)⟩,
  ⟨fun A σ H ρ n Q R E P hf k C s H0 ex=>(h C s H0 ex).ex.choose_spec.2.run A σ H ρ n Q R E P hf k⟩⟩
theorem znO {scope:Scope}{N:List Str}{mg:W->Ev->(Ev->Prop)->Prop}(h:∀ C s H ex,JG (zo X scope N C s H ex) S M e mg):∃ g,(∀ C s H ex,QG (zo X scope N C s H ex) e g)/\RG S M g mg:=
 ⟨fun v σ H Q=>∀ C s H0 ex,(h C s H0 ex).ex.choose v σ H Q,fun C s H0 ex=>⟨fun pins s' σ H v u Q I rv z=>(h C s H0 ex).ex.choose_spec.1.run pins s' σ H v u Q I rv (z C s H0 ex)⟩,
  ⟨fun A σ H ρ v w Q R E hv hf k C s H0 ex=>(h C s H0 ex).ex.choose_spec.2.run A σ H ρ v w Q R E hv hf k⟩⟩
def zfK (mg:W->Ev->(Ev->Prop)->Prop)(ft:Ev->Mo Bool)(fe:Ev->Mo W)(ρ0:Ev)(Q:W->Nat->Prop):List W->Nat->Prop:=fun l n1=>l.length<=lim/\∃ I:Nat->Ev->Nat->List Dt->Prop,I 0 ρ0 n1 []/\
 (∀ i w ρ' n' acc,l[i]?=some w->I i ρ' n' acc->mg w ρ' fun ρ1=>ft ρ1 n' fun b n2=>if b=true then fe ρ1 n2 fun x n3=>∃ d,x = .d d/\I (i+1) ρ1 n3 (acc++[d]) else I (i+1) ρ1 n2 acc)/\
 ∀ ρ' n' acc,I l.length ρ' n' acc->Q (.d (.lst acc)) n'
@[reducible] def zkf (fi:Ev->Mo (List W)) (mg:W->Ev->(Ev->Prop)->Prop) (ft:Ev->Mo Bool) (fe:Ev->Mo W) (cix:List (Option Nat)):Ev->Mo W:=fun ρ n Q=>fi ρ n (zfK mg ft fe (zfH ρ cix) Q)
theorem zg6 {wi:TI}{g:TG}{ti:TT}{te:TE}{cix:List (Option Nat)}{fi:Ev->Mo (List W)}{mg:W->Ev->(Ev->Prop)->Prop}{ft:Ev->Mo Bool}{fe:Ev->Mo W}{ow:Bool}(hn:(cix.filterMap id).Nodup)
  (hi:RI Pn M ow wi fi) (hg:RG (zax M cix) (zax M cix) g mg) (ht:RT Pn (zax M cix) ti ft) (he:RE Pn (zax M cix) fr' te fe):RE Pn M true (zhk wi g ti te cix) (zkf fi mg ft fe cix):=⟨fun A σ H ρ n Q R E P hf k=>by
 refine hi.run A σ H ρ n _ _ E P hf fun l m J H1 ⟨hz,I,i0,it,ie⟩ iv g1=>fun acc hacc=>?_
 have E1:=E.stay g1.st
 have E2:=(E1.cap hn).more (zu.upd (o:=.lst []) hacc) (Fr.of hacc) zh NP.lst (by intro xs z;cases z)
 have P2:xR Pn (fun b=>A b\/b=acc) m (L2.upd H1 acc (.lst [])):=g1.pn.grow (g1.pn.same (yL.upd hacc)) (Fr.of hacc) zh NP.lst
 have nacc:∀ k w,k∈zax M cix->(zfH ρ cix)[k]?=some (some w)->(zcx σ cix)[k]?≠some (some (.ref acc)):=fun k w hk hw z=>by
  obtain ⟨v,s1,_,s3⟩:=(E1.cap hn).val k w hw
  obtain ⟨a,e,hA,_⟩:=s3 hk
  rw [z] at s1
  cases s1
  cases e
  exact E1.new hacc hA
 have key:∀ σ' ρ' H',EnvR (fun b=>A b\/b=acc) (zax M cix) σ' H' ρ'->(∀ k∈zax M cix,σ'[k]?=(zcx σ cix)[k]?/\ρ'[k]?=(zfH ρ cix)[k]?)->∀ k w,k∈zax M cix->ρ'[k]?=some (some w)->σ'[k]?≠some (some (.ref acc)):=fun σ' ρ' H' E' hfx k w hk hw z=>by
  obtain ⟨f1,f2⟩:=hfx k hk
  rw [f1] at z
  rw [f2] at hw
  exact nacc k w hk hw z
 refine ⟨fun i mm σ' H'=>mm=l.length - i/\i<=l.length/\∃ ρ' n' accD xs,EnvR (fun b=>A b\/b=acc) (zax M cix) σ' H' ρ'/\xR Pn (fun b=>A b\/b=acc) n' H'/\I i ρ' n' accD/\H' acc=some (.lst xs)/\IsL (yr (fun b=>A b\/b=acc) H') accD xs/\accD.length<=i/\zu (yr A H1) (yr (fun b=>A b\/b=acc) H')/\zu H1 H'/\(∀ k∈zax M cix,σ'[k]?=(zcx σ cix)[k]?/\ρ'[k]?=(zfH ρ cix)[k]?),
  ⟨l.length,by simp,Nat.zero_le _,_,m,[],[],E2,P2,i0,zh,rfl,Nat.le_refl _,xp (zu.upd hacc) (Fr.of hacc),zu.upd hacc,fun k hk=>⟨rfl,rfl⟩⟩,?_⟩
 rintro i mm σ' H' ⟨rfl,hil,ρ',n',accD,xs,E',P',hI,hac,hxs,hal,st,s1,hfx⟩
 by_cases hlt:i<l.length
 ·right
  have hget:l[i]?=some l[i]:=List.getElem?_eq_getElem hlt
  obtain ⟨go,yl⟩:=iv.one i l[i] _ H' hget st (fun _=>s1) fun p hp=>E'.new hp
  refine ⟨go,fun σ2 H2=>∃ ρ' n' accD xs,EnvR (fun b=>A b\/b=acc) (zax M cix) σ2 H2 ρ'/\xR Pn (fun b=>A b\/b=acc) n' H2/\I (i+1) ρ' n' accD/\H2 acc=some (.lst xs)/\IsL (yr (fun b=>A b\/b=acc) H2) accD xs/\accD.length<=i+1/\zu (yr A H1) (yr (fun b=>A b\/b=acc) H2)/\zu H1 H2/\(∀ k∈zax M cix,σ2[k]?=(zcx σ cix)[k]?/\ρ'[k]?=(zfH ρ cix)[k]?),
   fun σ2 H2 h=>⟨l.length - (i+1),by lia,rfl,hlt,h⟩,fun x H2 hy=>?_⟩
  obtain ⟨S2,V2⟩:=yl x H2 hy
  refine hg.run _ σ' H2 ρ' x l[i] _ _ (E'.stay (zu.same S2)) V2 (it i l[i] ρ' n' accD hget hI) fun σ3 ρ3 r3 E3 f3=>?_
  have hfx3:∀ k∈zax M cix,σ3[k]?=(zcx σ cix)[k]?/\ρ3[k]?=(zfH ρ cix)[k]?:=fun k hk=>⟨(f3 k hk).1.trans (hfx k hk).1,(f3 k hk).2.trans (hfx k hk).2⟩
  refine ht.run _ σ3 H2 ρ3 n' _ _ E3 (P'.same S2) r3 fun b m3 H4 r4 g4=>?_
  have s24:=(zu.same S2).trans g4.st
  cases b with
  | false=>
   rw [if_neg (by decide)] at r4 ⊢
   exact ⟨ρ3,m3,accD,xs,E3.stay g4.st,g4.pn,r4,s24.lst hac,hxs.stay (zZ s24),by lia,st.trans (zZ s24),s1.trans s24,hfx3⟩
  | true=>
   rw [if_pos rfl] at r4 ⊢
   refine he.run _ σ3 H4 ρ3 m3 _ _ (E3.stay g4.st) g4.pn r4 fun w5 m5 v5 H5 ⟨d,e5,r5⟩ V5 g5 _=>?_
   subst e5
   have s25:=s24.trans g5.st
   have E5:=(E3.stay g4.st).stay g5.st
   have hac5:=s25.lst hac
   refine ⟨xs,hac5,zme (by rw [hxs.length];lia),ρ3,m5,accD++[d],xs++[v5],E5.upd (.inr rfl) (key σ3 ρ3 H5 E5 hfx3) NP.lst (by intro xs z;cases z),g5.pn.upd (.inr rfl),r5,zh,?_,by rw [List.length_append];simp;lia,?_,?_,hfx3⟩
   ·rw [zaz (.inr rfl)]
    exact (hxs.stay (zZ s25)).append (IsL.one V5.is)
   ·rw [zaz (.inr rfl)]
    exact st.trans (zZ s25)
   ·exact fun b o e nn=>by
     rw [ze (zb e hacc)]
     exact s1.trans s25 b o e nn
 ·left
  have hie:i=l.length:=by lia
  subst hie
  refine ⟨iv.stop _ H' st (fun _=>s1),k _ n' _ H' (ie ρ' n' accD hI) (Val.of ⟨acc,xs,rfl,yx (E1.new hacc) hac,hxs.stay (zu.same (uF fun b z=>.inl z))⟩) (g1.trans ⟨s1,P'.less fun a z=>.inl z⟩) fun _=>⟨acc,rfl,(Fr.of hacc).back g1.st,acc,xs,rfl,hac,hxs⟩⟩⟩
@[reducible] def zoV:Ev->Mo Bool:=fun _ n Q=>Q true n
theorem ut:JTs X Pn M [] zoV:=⟨_,zd0,⟨fun A σ H ρ n Q R E P hf k=>k true n H hf (Go.refl P)⟩⟩
theorem zka {ft:Ev->Mo Bool}(h:JT X Pn M c ft):JTs X Pn M [c] ft:=let ⟨t,h1,h2⟩:=h.ex;⟨t,zk9 h1,h2⟩
theorem zbr {elt tg iter:Expr}{ifs:List Expr}{scope:Scope}{N:List Str}{cix:List (Option Nat)}{fi:Ev->Mo (List W)}{mg:W->Ev->(Ev->Prop)->Prop}{ft:Ev->Mo Bool}{fe:Ev->Mo W}{ow:Bool}(hc:X.calm=true)(cc:CompOk X scope N cix)
  (hi:JI X Pn M ow tg iter fi) (hg:∀ C s H ex,JG (zo X scope N C s H ex) (zax M cix) (zax M cix) tg mg) (ht:∀ C s H ex,JTs (zo X scope N C s H ex) Pn (zax M cix) ifs ft) (he:∀ C s H ex,JE (zo X scope N C s H ex) Pn (zax M cix) fr' elt fe)
  (hn:(cix.filterMap id).Nodup:=by decide) (hs:∀ x,foldedSetIterable iter X.env x=pure x:=by intro _;rfl):JE X Pn M true (.ListComp elt [⟨tg,iter,ifs,0⟩] scope pos) (zkf fi mg ft fe cix):=by
 obtain ⟨ti,qi,ri⟩:=hi.ex
 obtain ⟨g,qg,rg⟩:=znO hg
 obtain ⟨tt,qt,rt⟩:=znP ht
 obtain ⟨te,qe,re⟩:=znN he
 exact ⟨_,ziJ hc cc qi qg qt qe hs,zg6 hn ri rg rt re⟩
theorem zer {elt tg iter:Expr}{ifs:List Expr}{scope:Scope}{N:List Str}{cix:List (Option Nat)}{fi:Ev->Mo (List W)}{mg:W->Ev->(Ev->Prop)->Prop}{ft:Ev->Mo Bool}{fe:Ev->Mo W}{ow:Bool}{ix:Nat}{nx:Str}{px spos:Pos}(hNd:X.N.Nodup)(hix:X.N[ix]?=some nx)(hlx:X.env.scope.names.lookup nx=some .local)(hc:X.calm=true)(cc:CompOk X scope N cix)
  (hi:JI X Pn M ow tg iter fi) (hg:∀ C s H ex,JG (zo X scope N C s H ex) (zax M cix) (zax M cix) tg mg) (ht:∀ C s H ex,JTs (zo X scope N C s H ex) Pn (zax M cix) ifs ft) (he:∀ C s H ex,JE (zo X scope N C s H ex) Pn (zax M cix) fr' elt fe)
  (hn:(cix.filterMap id).Nodup:=by decide) (hsw:swapsWithSole [.Name nx px] (.ListComp elt [⟨tg,iter,ifs,0⟩] scope pos) spos.line X.env=pure true:=by rfl)
  (hs:∀ x,foldedSetIterable iter X.env x=pure x:=by intro _;rfl)
  (h1a:(assignEach [.Name nx px] X.env).map (·.2)=[assign (.Name nx px) X.env]:=by rfl):∃ te,QS X (.Assign [.Name nx px] (.ListComp elt [⟨tg,iter,ifs,0⟩] scope pos) spos) (zfi te (u8 ix))/\RE Pn M true te (zkf fi mg ft fe cix):=by
 obtain ⟨ti,qi,ri⟩:=hi.ex
 obtain ⟨g,qg,rg⟩:=znO hg
 obtain ⟨tt,qt,rt⟩:=znP ht
 obtain ⟨te,qe,re⟩:=znN he
 exact ⟨_,zk8 hNd hix hlx hc cc qi qg qt qe hsw hs h1a,zg6 hn ri rg rt re⟩
theorem At3.step {B:Bs}{A:Addr->Prop}{σ:St}{H H':Hp}{ρ:Ev}{n m:Nat}(h:At3 Pn B S M A σ H ρ n)(g:Go Pn A H m H'):At3 Pn B S M A σ H' ρ m where
 env:=h.env.stay g.st
 frm:=⟨h.frm.sub,h.frm.new,fun b o e n c=>g.st b o (h.frm.st b o e n c) n,h.frm.al,h.frm.cn,fun a z=>let ⟨o,e,n⟩:=h.frm.cs a z;⟨o,g.st a o e n,n⟩⟩
 pn:=g.pn
 prot:=h.prot.trans (zZ g.st)
 fix:=h.fix
 mine:=h.mine
@[reducible] def mRet (f:Ev->Mo W):Ms:=fun ρ n k=>f ρ n k.rt
theorem znm {te:TE}(h:RE Pn M fr te f):RS Pn S M fr (zpt te) (mRet f):=⟨fun B A σ H ρ n k D a kk hf=>by
 refine h.run A σ H ρ n _ _ a.env a.pn hf fun w m v H' r hv g hr=>?_
 have a':=a.step g
 exact kk.rt w m v H' (WAt.up (zu.same (uF a.frm.sub)) (zu.same (uF a.frm.sub)) hv) a'.frm.st (g.pn.less a.frm.sub) (fun z=>by
  obtain ⟨b,e,f1,f2⟩:=hr z
  exact FrV.less ⟨b,e,a.frm.back f1 (a.env.newF f1),f2⟩ a.frm.sub) r⟩
theorem zw (h:JE X Pn M fr e f):JS X Pn S M fr (.Return (some e) pos) (mRet f):=let ⟨te,q,r⟩:=h.ex;⟨_,uU q,znm r⟩
@[reducible] def zke (f:Ev->Mo W) (mg:W->Ev->(Ev->Prop)->Prop):Ms:=fun ρ n k=>f ρ n fun w m=>mg w ρ fun ρ'=>k.nx ρ' m
theorem EnvR.mineG {B:Bs}{A:Addr->Prop}{σ σ':St}{H:Hp}{ρ ρ':Ev}{n:Nat}(a:At3 Pn B S M A σ H ρ n)(E:EnvR A M σ' H ρ')(f:∀ i∈S++M,σ'[i]?=σ[i]?/\ρ'[i]?=ρ[i]?):At3 Pn B S M A σ' H ρ' n where
 env:=E
 frm:=a.frm
 pn:=a.pn
 prot:=a.prot
 fix:=fun i hi=>(f i (List.mem_append.mpr (.inl hi))).1.trans (a.fix i hi)
 mine:=fun i w ad hi e s=>by
  obtain ⟨f1,f2⟩:=f i (List.mem_append.mpr (.inr hi))
  rw [f1] at s
  rw [f2] at e
  exact a.mine i w ad hi e s
theorem zhb {te:TE}{g:TG}{mg:W->Ev->(Ev->Prop)->Prop}(h:RE Pn M fr' te f)(hg:RG (S++M) M g mg):RS Pn S M fr (zfi te g) (zke f mg):=⟨fun B A σ H ρ n k D a kk hf=>by
 refine h.run A σ H ρ n _ _ a.env a.pn hf fun w m v H' r hv g' _=>?_
 have a':=a.step g'
 exact hg.run A σ H' ρ v w _ _ a'.env hv r fun σ2 ρ2 r2 E2 f2=>kk.nx A σ2 H' ρ2 m (EnvR.mineG a' E2 f2) r2⟩
theorem zS {i:Nat}{x:Str}{pos':Pos}(hN:X.N.Nodup)(hi:X.N[i]?=some x)(hx:Loc X.env.scope x)(he:JE X Pn M fr' e f)(hiM:i∉M:=by decide)(hiS:i∉S++M:=by decide)(hs:swapsWith e (some (.Name x pos')) pos.line X.env=pure false:=by rfl)(hf:X.fn x=true\/X.env.scope.names.lookup x=some .local:=by first | exact .inl rfl | exact .inr rfl | assumption) :
  JS X Pn S M fr (.Assign [.Name x pos'] e pos) (zke f (gN i)):=let ⟨te,q,r⟩:=he.ex;⟨_,yd hN hi hx q hs hf,zhb r (zd5 hiM hiS)⟩
theorem zgt {i:Nat}{st:Stmt}(h:∃ te,QS X st (zfi te (u8 i))/\RE Pn M true te f)(hiM:i∉M:=by decide)(hiS:i∉S++M:=by decide):JS X Pn S M fr st (zke f (gN i)):=let ⟨te,q,r⟩:=h;⟨_,q,zhb r (zd5 hiM hiS)⟩
theorem zl7 {tg:Expr}{mg:W->Ev->(Ev->Prop)->Prop}(he:JE X Pn M fr' e f)(hg:JG X (S++M) M tg mg)(hs:swapsWithSole [tg] e pos.line X.env=pure false:=by rfl)(hw:swappedStores [tg] e X.env=pure none:=by rfl)
  (h1:(assignEach [tg] X.env).map (·.2)=[assign tg X.env]:=by rfl):JS X Pn S M fr (.Assign [tg] e pos) (zke f mg):=let ⟨te,q,r⟩:=he.ex;let ⟨g,q2,r2⟩:=hg.ex;⟨_,zm9 q q2 hs hw h1,zhb r r2⟩
end
open PySem.Spec
section
variable {X:Cx}{Pn:Option zj}{M S:List Nat}{fr fr':Bool}{e a b c:Expr}{es:List Expr}{f fa fb fc:Ev->Mo W}{pos p:Pos}{st:Stmt}{sts:List Stmt}{fs gs:Ms}
@[reducible] def mNx:Ms:=fun ρ n k=>k.nx ρ n
structure blk (g:Ms)(ρ:Ev)(n:Nat)(k:Kt):Prop where
 go:g ρ n k
theorem zlA {g:Ms}{ρ:Ev}{n:Nat}{k:Kt}(h:g ρ n k):blk g ρ n k:=⟨h⟩
@[reducible] def mSeq (f g:Ms):Ms:=fun ρ n k=>f ρ n { k with nx:=fun ρ' n'=>blk g ρ' n' k }
def zoJ (t:Ev->Mo Bool)(f g:Ms):Ms:=fun ρ n k=>t ρ n fun c m=>if c=true then blk f ρ m k else blk g ρ m k
theorem zL:JSs X Pn S M fr [] mNx:=⟨_,zae,⟨fun B A σ H ρ n k D a kk hf=>kk.nx A σ H ρ n a hf⟩⟩
theorem znn {t u:TS}(h1:RS Pn S M fr t fs)(h2:RS Pn S M fr u gs):RS Pn S M fr (zpu t u) (mSeq fs gs):=⟨fun B A σ H ρ n k D a kk hf=>
 h1.run B A σ H ρ n { k with nx:=fun ρ' n'=>blk gs ρ' n' k } _ a ⟨fun A' σ' H' ρ' n' a' r=>h2.run B A' σ' H' ρ' n' k D a' kk r.go,kk.bk,kk.ct,kk.fc,kk.rt⟩ hf⟩
theorem zf (h1:JS X Pn S M fr st fs)(h2:JSs X Pn S M fr sts gs):JSs X Pn S M fr (st::sts) (mSeq fs gs):=let ⟨t,q,r⟩:=h1.ex;let ⟨u,q2,r2⟩:=h2.ex;⟨_,zm q q2,znn r r2⟩
theorem zg (h1:JS X Pn S M fr st fs):JSs X Pn S M fr [st] fs:=let ⟨t,q,r⟩:=h1.ex;⟨_,ye q,r⟩
theorem xt {body other:List Stmt}{t:Ev->Mo Bool}(hc:JT X Pn M c t)(ha:JSs X Pn S M fr body fs)(hb:JSs X Pn S M fr other gs):JS X Pn S M fr (.If c body other pos) (zoJ t fs gs):=by
 obtain ⟨tc,qc,rc⟩:=hc.ex
 obtain ⟨ta,qa,ra⟩:=ha.ex
 obtain ⟨tb,qb,rb⟩:=hb.ex
 refine ⟨_,zfc qc qa qb,⟨fun B A σ H ρ n k D a kk hf=>?_⟩⟩
 refine rc.run A σ H ρ n _ _ a.env a.pn hf fun c m H1 r g=>?_
 cases c with
 | true=>rw [if_pos rfl] at r ⊢;exact ra.run B A σ H1 ρ m k D (a.step g) kk r.go
 | false=>rw [if_neg (by decide)] at r ⊢;exact rb.run B A σ H1 ρ m k D (a.step g) kk r.go
@[reducible] def mDrop (f:Ev->Mo W):Ms:=fun ρ n k=>f ρ n fun _ m=>k.nx ρ m
def zlT (mg:W->Ev->(Ev->Prop)->Prop)(fb:Ms)(ρ:Ev)(k:Kt):List W->Nat->Prop:=fun l n1=>∃ I:Nat->Ev->Nat->Prop,I 0 ρ n1/\
 (∀ i w ρ' n',l[i]?=some w->I i ρ' n'->mg w ρ' fun ρ1=>fb ρ1 n' { k with nx:=I (i+1),ct:=I (i+1),bk:=k.nx })/\∀ ρ' n',I l.length ρ' n'->k.nx ρ' n'
@[reducible] def mFor (fi:Ev->Mo (List W)) (mg:W->Ev->(Ev->Prop)->Prop) (fb:Ms):Ms:=fun ρ n k=>fi ρ n (zlT mg fb ρ k)
theorem znl {wi:TI}{g:TG}{tb:TS}{fi:Ev->Mo (List W)}{mg:W->Ev->(Ev->Prop)->Prop}{fb:Ms}(hi:RI Pn M false wi fi)(hg:RG (S++M) M g mg)(hb:RS Pn S M fr tb fb):RS Pn S M fr (zps wi g tb) (mFor fi mg fb):=⟨fun B A σ H ρ n k D a kk hf=>by
 refine hi.run A σ H ρ n _ _ a.env a.pn hf fun l m J H1 ⟨I,i0,it,ie⟩ iv g1=>?_
 have a1:=a.step g1
 have out:∀ {A':Addr->Prop} {σ':St} {H':Hp} {ρ':Ev} {n':Nat},At3 Pn { B with G0:=yr A H1 } S M A' σ' H' ρ' n'->At3 Pn B S M A' σ' H' ρ' n':=fun {A' σ' H' ρ' n'} q=>⟨q.env,q.frm,q.pn,a1.prot.trans q.prot,q.fix,q.mine⟩
 refine ⟨fun i mm σ' H'=>mm=l.length - i/\i<=l.length/\∃ A' ρ' n',At3 Pn { B with G0:=yr A H1 } S M A' σ' H' ρ' n'/\I i ρ' n',⟨l.length,by simp,Nat.zero_le _,A,ρ,m,⟨a1.env,a1.frm,a1.pn,zu.refl _,a1.fix,a1.mine⟩,i0⟩,?_⟩
 rintro i mm σ' H' ⟨rfl,hil,A',ρ',n',a',hI⟩
 by_cases hlt:i<l.length
 ·right
  have hget:l[i]?=some l[i]:=List.getElem?_eq_getElem hlt
  obtain ⟨go,yl⟩:=iv.one i l[i] A' H' hget a'.prot (fun z=>by cases z) fun p hp=>a'.env.new hp
  refine ⟨go,fun σ2 H2=>∃ A' ρ' n',At3 Pn { B with G0:=yr A H1 } S M A' σ2 H2 ρ' n'/\I (i+1) ρ' n',fun σ2 H2 h=>⟨l.length - (i+1),by lia,rfl,hlt,h⟩,fun x H2 hy=>?_⟩
  obtain ⟨S2,V2⟩:=yl x H2 hy
  have a2:=a'.step (Go.same a'.pn S2)
  refine hg.run A' σ' H2 ρ' x l[i] _ _ a2.env V2 (it i l[i] ρ' n' hget hI) fun σ3 ρ3 r3 E3 f3=>?_
  refine hb.run { B with G0:=yr A H1 } A' σ3 H2 ρ3 n' _ _ (EnvR.mineG a2 E3 f3) ⟨?_,?_,?_,kk.fc,?_⟩ r3
  ·exact fun A4 σ4 H4 ρ4 n4 a4 r4=>⟨A4,ρ4,n4,a4,r4⟩
  ·exact fun A4 σ4 H4 ρ4 n4 a4 r4=>kk.nx A4 σ4 H4 ρ4 n4 (out a4) r4
  ·exact fun A4 σ4 H4 ρ4 n4 a4 r4=>⟨A4,ρ4,n4,a4,r4⟩
  ·exact kk.rt
 ·left
  have hie:i=l.length:=by lia
  subst hie
  exact ⟨iv.stop A' H' a'.prot (fun z=>by cases z),kk.nx A' σ' H' ρ' n' (out a') (ie ρ' n' hI)⟩⟩
theorem xT {tg iter:Expr}{body:List Stmt}{fi:Ev->Mo (List W)}{mg:W->Ev->(Ev->Prop)->Prop}{fb:Ms}(hp:PassesOwn (model X.prog X.w) X.A X.env X.xe)(hc:X.calm=true)(hi:JI X Pn M false tg iter fi)(hg:JG X (S++M) M tg mg)(hb:JSs X Pn S M fr body fb)(hs:∀ x,foldedSetIterable iter X.env x=pure x:=by intro _;rfl) :
  JS X Pn S M fr (.For tg iter body [] pos) (mFor fi mg fb):=by
 obtain ⟨ti,qi,ri⟩:=hi.ex
 obtain ⟨tg',qg,rg⟩:=hg.ex
 obtain ⟨tb,qb,rb⟩:=hb.ex
 exact ⟨_,zc1 hp hc qi qg qb hs,znl ri rg rb⟩
def uW (N:List Str)(ws:List W):Ev:=ws.map some++List.replicate (N.length - ws.length) none
theorem zbG.get {A:Addr->Prop}{H:Hp}:∀ {ws:List W} {vs:List V} {i:Nat} {w:W},zbG A H ws vs->ws[i]?=some w->∃ v,vs[i]?=some v/\Val A H w v
 | [],_,_,_,_,e=>by simp at e
 | x::ws,vs,0,w,⟨v,r,e1,h1,_⟩,e=>by
  subst e1
  have:x=w:=by simpa using e
  subst this
  exact ⟨v,rfl,h1⟩
 | x::ws,vs,i+1,w,⟨v,r,e1,_,h2⟩,e=>by
  subst e1
  obtain ⟨u,h3,h4⟩:=zbG.get (i:=i) h2 (by simpa using e)
  exact ⟨u,by simpa using h3,h4⟩
theorem zf3 {A:Addr->Prop}{H:Hp}{N:List Str}{ws:List W}{vs:List V}(al:Al A H)(h:zbG A H ws vs)(hM:∀ i∈M,ws.length<=i):EnvR A M (L2.xH N vs) H (uW N ws) where
 len:=by
  unfold L2.xH uW
  rw [List.length_append,List.length_append,List.length_map,List.length_map,List.length_replicate,List.length_replicate,h.len]
 val:=fun i w e=>by
  unfold uW at e
  have hi:i<ws.length:=by
   apply Classical.byContradiction
   intro z
   rw [List.getElem?_append_right (by rw [List.length_map];lia)] at e
   obtain ⟨_,q⟩:=List.getElem?_eq_some_iff.mp e
   rw [List.getElem_replicate] at q
   cases q
  rw [List.getElem?_append_left (by rw [List.length_map];exact hi),List.getElem?_map] at e
  obtain ⟨w',e1,e2⟩:=Option.map_eq_some_iff.mp e
  cases e2
  obtain ⟨v,h1,h2⟩:=h.get e1
  refine ⟨v,?_,fun _=>h2,fun z=>absurd (hM i z) (by lia)⟩
  unfold L2.xH
  have hi':i<vs.length:=by rw [h.len];exact hi
  rw [List.getElem?_append_left (by rw [List.length_map];exact hi'),List.getElem?_map,h1]
  rfl
 dis:=fun i j w u ad hi hj hne e1=>by
  unfold uW at e1
  have:=hM i hi
  rw [List.getElem?_append_right (by rw [List.length_map];lia)] at e1
  obtain ⟨_,q⟩:=List.getElem?_eq_some_iff.mp e1
  rw [List.getElem_replicate] at q
  cases q
 al:=al
theorem zml {P:Program}{w:World}{K:PySem.W.Frag}{mg:Str->Option Value}{base:Heap}{qual:Str}{st:Stmt}{f:Addr}{fd:FuncData}{N ps:List Str}{k m:Nat}{F:Option zj->List W->Mo W}(M:List Nat)(okq:(∀ vs H Q E,spV m fr F vs H Q E->vs.length=ps.length)->(∀ (cdv:Value) (A:Around) (outer:List Env) (s:Shared) (H:Hp) (vs:List V) (Q:VK) (E:XK),Room k (A.deeper (PyProof.Rows.envOfC qual (za st) s.heap.objs.size f cdv))->spV m fr F vs H Q E->
   ∃ t,QSs (zde CX0 P w K mg base N qual (za st) f cdv A outer s H E).nox (zi st) t/\t { nx:=fun _ H'=>Q .non H',rt:=Q } (L2.xH N vs) H)->FnOk P w K mg base CX0 (k+1) f fd ps (spV m fr F)) (hm:m=ps.length) (hM:∀ i∈M,m<=i)
  (hbody:∀ (cdv:Value) (A:Around) (outer:List Env) (s:Shared) (H:Hp) (E:XK) (Pn:Option zj),Room k (A.deeper (PyProof.Rows.envOfC qual (za st) s.heap.objs.size f cdv))->
   ∃ fs,JSs (zde CX0 P w K mg base N qual (za st) f cdv A outer s H E).nox Pn [] M fr (zi st) fs/\∀ ws n R,ws.length=m->F Pn ws n R->fs (uW N ws) n { nx:=fun _ n'=>fr=false/\R (.d .non) n',rt:=R }):FnOk P w K mg base CX0 (k+1) f fd ps (spV m fr F):=by
 refine okq (fun vs H Q E h=>?_) (fun cdv A outer s H vs Q E hr h=>?_)
 ·obtain ⟨Pn,A,ws,n,R,_,hv,hl,_⟩:=h
  rw [hv.len,hl,hm]
 ·obtain ⟨Pn,A3,ws,n,R,al,hv,hl,hp,hF,q⟩:=h
  obtain ⟨fs,⟨t,qs,rs⟩,hfs⟩:=hbody cdv A outer s H E Pn hr
  refine ⟨t,qs,rs.run { A0:=A3,H0:=H,G0:=yr A3 H,σ0:=L2.xH N vs } A3 (L2.xH N vs) H (uW N ws) n _ _ ⟨zf3 al hv (fun i hi=>by rw [hl];exact hM i hi),⟨fun _ z=>z,fun _ z=>.inl z,.of (zu.refl _),al,fun _ z=>z.elim,fun _ z=>z.elim⟩,hp,zu.refl _,fun i hi=>rfl,fun i w a hi e=>?_⟩ ⟨?_,?_,?_,fun _ _ z=>z,?_⟩ (hfs ws n R hl hF)⟩
  ·exact absurd e (by
    unfold uW
    have:=hM i hi
    rw [List.getElem?_append_right (by rw [List.length_map];lia)]
    intro z
    obtain ⟨_,q⟩:=List.getElem?_eq_some_iff.mp z
    rw [List.getElem_replicate] at q
    cases q)
  ·intro A' σ' H' ρ' n' a' ⟨hfr,r⟩
   exact q _ n' .non H' r (Val.of (show Is _ .non .non from rfl)) ⟨a'.frm.st.stay,a'.pn.less a'.frm.sub⟩ fun z=>by rw [hfr] at z;cases z
  ·intro _ _ _ _ _ _ z;exact z.elim
  ·intro _ _ _ _ _ _ z;exact z.elim
  ·intro w n' v H' hv' st pn hfr r
   exact q w n' v H' r hv' ⟨st.stay,pn⟩ hfr
end
open PySem.Spec
section
variable {X:Cx}{Pn:Option zj}{M S:List Nat}{fr fr':Bool}{e a b c:Expr}{es:List Expr}{f fa fb fc:Ev->Mo W}{pos p p2:Pos}
def zki (B:Dt->Bool)(f:Ev->Mo W):Ev->Mo W:=fun ρ n Q=>f ρ n fun w m=>∃ d,w = .d d/\Q (.d (.bl (B d))) m
theorem zg7 {K:PySem.W.Frag}{T:String}{B:Dt->Bool}{te:TE}(hk:∀ d:Dt,PySem.W.kitOne K (.type d.ty) (.type T)=some (B d))(h:RB Pn M te f):RE Pn M false (tCB (fun xs H Q=>∃ x T t b,xs=[x,.ty T]/\TyOf K H x t/\PySem.W.kitOne K t (.type T)=some b/\Q (.bl b) H) (zfk te (zfk (tC (.ty T)) znD))) (zki B f):=⟨fun A σ H ρ n Q R E P hf k=>by
 refine h.run A σ H ρ n _ _ E P hf fun w m v H' ⟨d,e,r⟩ bb g=>?_
 subst e
 exact ⟨v,T,_,_,rfl,bb.is.ty,hk d,k _ m _ H' r (Val.of rfl) g fun z=>by cases z⟩⟩
@[reducible] def isStr:Dt->Bool
 | .str _=>true
 | _=>false
@[reducible] def isDct:Dt->Bool
 | .dct=>true
 | _=>false
theorem zj8 {T:String}{x:Str}{B:Dt->Bool}(hk:∀ d:Dt,PySem.W.kitOne X.K (.type d.ty) (.type T)=some (B d))(hv:bootBuiltins x=some (.type T))(hg2:Gl X x)(hn:x ≠ "__name__")(hd:(x==("__debug__" : Str))=false)(hg:Gl X "isinstance")(hm:X.mg "isinstance" = none)(hm2:X.mg x=none)(h:JB X Pn M e f)
  (hs1:starEach (e::[.Name x p2]) X.env=(false,eval e X.env)::starEach [.Name x p2] X.env) (hs2:starEach (.Name x p2::[]) X.env=(false,eval (.Name x p2) X.env)::starEach [] X.env) (hpl:(backTo pos (starEach [.Name x p2] X.env)).any (·.1)=false):JE X Pn M false (.Call (.Name "isinstance" p) [e,.Name x p2] [] pos) (zki B f):=by
 obtain ⟨te,q,r⟩:=h.ex
 exact ⟨_,yH zfN hg hm PyProof.Rows.boot_isinstance (zd q (zd (zk1 (v:=.ty T) hg2 hm2 hv rfl hn hd) zA hs2) hs1) (by decide) (by decide) hs1 hpl,zg7 hk r⟩
theorem yG (hg:Gl X "isinstance")(hm:X.mg "isinstance" = none)(hm2:X.mg "tuple" = none)(h:JB X Pn M e f)(hg2:Gl X "tuple" := by rfl)(hs1:starEach (e::[.Name "tuple" p2]) X.env=(false,eval e X.env)::starEach [.Name "tuple" p2] X.env:=by rfl)(hs2:starEach (.Name "tuple" p2::[]) X.env=(false,eval (.Name "tuple" p2) X.env)::starEach [] X.env:=by rfl)(hpl:(backTo pos (starEach [.Name "tuple" p2] X.env)).any (·.1)=false:=by rfl) :
  JE X Pn M false (.Call (.Name "isinstance" p) [e,.Name "tuple" p2] [] pos) (zki Dt.isTup f):=zj8 (zkc _) PyProof.Rows.boot_tuple hg2 (by decide) (by decide) hg hm hm2 h hs1 hs2 hpl
theorem zcC (hg:Gl X "isinstance")(hm:X.mg "isinstance" = none)(hm2:X.mg "int" = none)(h:JB X Pn M e f)(hg2:Gl X "int" := by rfl)(hs1:starEach (e::[.Name "int" p2]) X.env=(false,eval e X.env)::starEach [.Name "int" p2] X.env:=by rfl)(hs2:starEach (.Name "int" p2::[]) X.env=(false,eval (.Name "int" p2) X.env)::starEach [] X.env:=by rfl)(hpl:(backTo pos (starEach [.Name "int" p2] X.env)).any (·.1)=false:=by rfl) :
  JE X Pn M false (.Call (.Name "isinstance" p) [e,.Name "int" p2] [] pos) (zki Dt.isInt f):=zj8 (zkb _) PyProof.Rows.boot_int hg2 (by decide) (by decide) hg hm hm2 h hs1 hs2 hpl
theorem zbO (hg:Gl X "isinstance")(hm:X.mg "isinstance" = none)(hm2:X.mg "bool" = none)(h:JB X Pn M e f)(hg2:Gl X "bool" := by rfl)(hs1:starEach (e::[.Name "bool" p2]) X.env=(false,eval e X.env)::starEach [.Name "bool" p2] X.env:=by rfl)(hs2:starEach (.Name "bool" p2::[]) X.env=(false,eval (.Name "bool" p2) X.env)::starEach [] X.env:=by rfl)(hpl:(backTo pos (starEach [.Name "bool" p2] X.env)).any (·.1)=false:=by rfl) :
  JE X Pn M false (.Call (.Name "isinstance" p) [e,.Name "bool" p2] [] pos) (zki Dt.isBl f):=zj8 (zmd _) PyProof.Rows.boot_bool hg2 (by decide) (by decide) hg hm hm2 h hs1 hs2 hpl
def zha (n:Nat):List Dt:=(List.range n).map fun i:Nat=>Dt.int i
theorem zgm {G:Hp}(n:Nat):IsL G (zha n) ((List.range n).map fun i:Nat=>V.int i):=by
 have e1:zha n=(((List.range n).map fun i:Nat=>(i:Int))).map Dt.int:=by unfold zha;rw [List.map_map];rfl
 have e2:((List.range n).map fun i:Nat=>V.int i)=(((List.range n).map fun i:Nat=>(i:Int))).map V.int:=by rw [List.map_map];rfl
 rw [e1,e2]
 exact IsL.ints
def zbT (fa:Ev->Mo (List W)):Ev->Mo W:=fun ρ n Q=>fa ρ n fun ws m=>∃ j:Nat,ws=[.d (.int (j:Int))]/\j<=1000/\Q (.d (.lst (zha j))) m
theorem zcD {q:Pos}{pr:Pos}{fs:Ev->Mo (List W)}(hm:X.mg "list" = none)(hm2:X.mg "range" = none)(ha:JAB X Pn M [a] fs)(hc:X.calm=true:=by rfl)(hg:Gl X "list" := by rfl)(hg2:Gl X "range" := by rfl)(hs:starEach (a::[]) X.env=(false,eval a X.env)::starEach [] X.env:=by rfl)(hs2:starEach (.Call (.Name "range" pr) [a] [] q::[]) X.env=(false,eval (.Call (.Name "range" pr) [a] [] q) X.env)::starEach [] X.env:=by rfl)
  (hp1:(backTo q (starEach [] X.env)).any (·.1)=false:=by rfl) (hp2:(backTo pos (starEach [] X.env)).any (·.1)=false:=by rfl):JE X Pn M true (.Call (.Name "list" p) [.Call (.Name "range" pr) [a] [] q] [] pos) (zbT fs):=by
 obtain ⟨ta,qa,ra⟩:=ha.ex
 refine ⟨_,uT (zdo hc) hg hm PyProof.Rows.boot_list (zd (uT zh0 hg2 hm2 PyProof.Rows.boot_range qa (by decide) (by decide) hs hp1) zA hs2) (by decide) (by decide) hs2 hp2,⟨fun A σ H ρ n Q R E P hf k=>?_⟩⟩
 refine ra.run A σ H ρ n _ _ E P hf fun ws m vs H1 ⟨j,e,hj,r⟩ bb g=>?_
 subst e
 obtain ⟨v,rfl,b1⟩:=zbI bb
 obtain rfl:=yt b1
 refine ⟨_,rfl,fun p1 H2 np g2 S2=>⟨p1,j,rfl,g2,hj,fun p3 H3 np3 g3 S3=>?_⟩⟩
 have g12:=g.trans (Go.same g.pn S2)
 exact k _ m _ H3 r (uB (H:=H2) (zgm j) (zu.same S3) ((E.stay g12.st).new np3) g3) (g12.trans (Go.same g12.pn S3)) fun _=>(uq (H:=H2) (zgm j) S3 np3 g3).back g12.st
@[reducible] def truD:W->Option Bool
 | .d (.lst l)=>some (!l.isEmpty)
 | .d (.tup l)=>some (!l.isEmpty)
 | .d (.bl b)=>some b
 | .d (.int i)=>some (i != 0)
 | .d .non=>some false
 | _=>none
def zbu (F G:W->W->Mo W)(fa fb fc:Ev->Mo W):Ev->Mo W:=fun ρ n Q=>fa ρ n fun x n1=>fb ρ n1 fun y n2=>F x y n2 fun z n3=>∃ k,z = .d (.bl k)/\if k=true then fc ρ n3 fun u n4=>G y u n4 Q else Q (.d (.bl false)) n3
theorem zeG {r r':R2}{F G:W->W->Mo W}{ta tb tc:TE}(hr:F2 Pn false r F)(hr':F2 Pn false r' G)(ha:RB Pn M ta fa)(hb:RB Pn M tb fb)(hc:RB Pn M tc fc):RE Pn M false (zc8 r r' ta tb tc) (zbu F G fa fb fc):=⟨fun A σ H ρ n Q R E P hf k=>by
 refine ha.run A σ H ρ n _ _ E P hf fun x n1 v1 H1 r1 b1 g1=>?_
 refine hb.run A σ H1 ρ n1 _ _ (E.stay g1.st) g1.pn r1 fun y n2 v2 H2 r2 b2 g2=>?_
 have g:=g1.trans g2
 refine hr.run A H2 v1 v2 x y n2 _ _ (E.stay g.st).al (b1.stay g2.st) b2 g2.pn r2 fun w m v H' ⟨c,e,h1⟩ h2 h3 h4=>?_
 subst e
 have hv:v = .bl c:=h2
 refine ⟨c,hv,?_⟩
 have g3:=g.trans h3
 cases c with
 | false=>rw [if_neg (by decide)] at h1 ⊢;exact k _ m _ H' h1 (Val.of rfl) g3 fun z=>by cases z
 | true=>
  rw [if_pos rfl] at h1 ⊢
  refine hc.run A σ H' ρ m _ _ (E.stay g3.st) g3.pn h1 fun u n4 v4 H4 r4 b4 g4=>?_
  exact hr'.run A H4 v2 v4 y u n4 _ _ (E.stay (g3.trans g4).st).al (b2.stay (h3.trans g4).st) b4 g4.pn r4 fun w5 m5 v5 H5 a1 a2 a3 a4=>k w5 m5 v5 H5 a1 a2 ((g3.trans g4).trans a3) fun z=>by cases z⟩
theorem zgq {op op':CmpOp}{r r':R2}{F G:W->W->Mo W}(ho:OpQ X (compareOp op) r)(ho':OpQ X (compareOp op') r')(hr:F2 Pn false r F)(hr':F2 Pn false r' G)(ha:JB X Pn M a fa)(hb:JB X Pn M b fb)(hc:JB X Pn M c fc)(hm:lastMarks [op,op'] [b,c]=false:=by with_unfolding_all rfl):JE X Pn M false (.Compare a [op,op'] [b,c] pos) (zbu F G fa fb fc):=by
 obtain ⟨ta,qa,ra⟩:=ha.ex
 obtain ⟨tb,qb,rb⟩:=hb.ex
 obtain ⟨tc,qc,rc⟩:=hc.ex
 exact ⟨_,ziI ho ho' qa qb qc hm,zeG hr hr' ra rb rc⟩
theorem zes {op op':CmpOp}{r r':R2}{F G:W->W->Mo W}(ho:OpQ X (compareOp op) r)(ho':OpQ X (compareOp op') r')(hr:F2 Pn false r F)(hr':F2 Pn false r' G)(ha:JB X Pn M a fa)(hb:JB X Pn M b fb)(hc:JB X Pn M c fc)(hm:lastMarks [op,op'] [b,c]=false:=by with_unfolding_all rfl):JT X Pn M (.Compare a [op,op'] [b,c] pos) (zhF (zbu F G fa fb fc)):=by
 obtain ⟨ta,qa,ra⟩:=ha.ex
 obtain ⟨tb,qb,rb⟩:=hb.ex
 obtain ⟨tc,qc,rc⟩:=hc.ex
 exact ⟨_,ziN ho ho' qa qb qc hm,zhc (zeG hr hr' ra rb rc).rb⟩
end
open PySem.Spec
section
variable {A:Addr->Prop}{H:Hp}
theorem zlo {w:W}{vs:List V}(h:zbG A H [w] vs):∃ v,vs=[v]/\Val A H w v:=by
 obtain ⟨v,r,e,h1,h2⟩:=h
 cases h2
 exact ⟨v,e,h1⟩
theorem zlp {w u:W}{vs:List V}(h:zbG A H [w,u] vs):∃ v y,vs=[v,y]/\Val A H w v/\Val A H u y:=by
 obtain ⟨v,r,e,h1,h2⟩:=h
 obtain ⟨y,rfl,h3⟩:=zlo h2
 exact ⟨v,y,e,h1,h3⟩
theorem zpH {w u z:W}{vs:List V}(h:zbG A H [w,u,z] vs):∃ v y x,vs=[v,y,x]/\Val A H w v/\Val A H u y/\Val A H z x:=by
 obtain ⟨v,r,e,h1,h2⟩:=h
 obtain ⟨y,x,rfl,h3,h4⟩:=zlp h2
 exact ⟨v,y,x,e,h1,h3,h4⟩
theorem zjE {st:List Int}{v:V}(h:Val A H (.d (stD st)) v):∃ a,v = .ref a/\H a=some (.tup (st.map V.int)):=by
 obtain ⟨a,xs,e,h1,h2⟩:=h
 obtain rfl:=h2.of_ints
 exact ⟨a,e,zq _ _ h1⟩
theorem znu {st:List Int}{a:Addr}(al:Al A H)(h:H a=some (.tup (st.map V.int))):Val A H (.d (stD st)) (.ref a):=
 Val.of ⟨a,_,rfl,yx (fun z=>al.noT a _ z h) h,IsL.ints⟩
end
structure RoomOk (rm:List Int):Prop where
 ne:rm≠[]
 few:rm.length<=8
 box:∀ r∈rm,2<=r/\r<=4
theorem RoomOk.pos {rm:List Int}(h:RoomOk rm):1<=rm.length:=by
 cases rm with
 | nil=>exact absurd rfl h.ne
 | cons _ _=>simp
theorem RoomOk.at {rm:List Int}(h:RoomOk rm){H:Hp}{a:Addr}(e:H a=some (.tup (rm.map V.int))):RoomAt H a rm:=⟨e,h.ne,h.few,h.box⟩
abbrev FV:=Option zj->List W->Mo W
def zls (k:Nat)(fr:Bool)(F:FV)(sp:Sp):Prop:=∀ vs H Q E,spV k fr F vs H Q E->sp vs H Q E
theorem FnOk.lift {P:Program}{w:World}{K:PySem.W.Frag}{mg:Str->Option Value}{base:Heap}{CX:CXT}{j k:Nat}{f:Addr}{fd:FuncData}{ps:List Str}{sp:Sp}{fr:Bool}{F:FV}(h:FnOk P w K mg base CX j f fd ps sp)(l:zls k fr F sp):FnOk P w K mg base CX j f fd ps (spV k fr F):=h.imp l
@[reducible] def zi7:FV:=fun Pn ws n R=>∃ p c ns zE,Pn=some (p,c,ns)/\ws=[.pen p,.d (.int zE)]/\n<=1000000/\1<=zE/\zE<1073741824/\∀ r,0<=r->r<zE->R (.d (.int r)) (n+1)
theorem zgA:zls 2 false zi7 zeJ:=by
 rintro vs H Q E ⟨Pn,A,ws,n,R,al,hv,hl,hp,⟨p,c,ns,zE,rfl,rfl,h1,h2,h3,h4⟩,q⟩
 obtain ⟨v,y,rfl,b1,b2⟩:=zlp hv
 have e1:v = .ref p:=b1
 have e2:y = .int zE:=b2
 subst e1 e2
 exact ⟨p,c,ns,n,zE,rfl,hp.1,h1,h2,h3,fun r H' r0 r1 P' S'=>q _ (n+1) _ H' (h4 r r0 r1) (Val.of rfl) ⟨S',P',hp.2⟩ fun z=>by cases z⟩
@[reducible] def zee:FV:=fun Pn ws n R=>∃ p c ns most,Pn=some (p,c,ns)/\ws=[.pen p,.d (.int most)]/\n+20<=1000000/\4<=most/\most<=256/\∀ rm,RoomOk rm->xm rm<=most->R (.d (stD rm)) (n+10)
theorem zdL:zls 2 false zee zeK:=by
 rintro vs H Q E ⟨Pn,A,ws,n,R,al,hv,hl,hp,⟨p,c,ns,most,rfl,rfl,h1,h2,h3,h4⟩,q⟩
 obtain ⟨v,y,rfl,b1,b2⟩:=zlp hv
 have e1:v = .ref p:=b1
 have e2:y = .int most:=b2
 subst e1 e2
 exact ⟨p,c,ns,n,most,rfl,hp.1,h1,h2,h3,fun a rm H' ha n1 n2 n3 n4 P' S'=>q _ (n+10) _ H' (h4 rm ⟨n1,n2,n3⟩ n4) (znu (al.stay S') ha) ⟨S',P',hp.2⟩ fun z=>by cases z⟩
@[reducible] def zi8:FV:=fun Pn ws n R=>∃ p c ns rm,Pn=some (p,c,ns)/\ws=[.pen p,.d (stD rm)]/\n+20<=1000000/\RoomOk rm/\∀ st,st.length=rm.length->(∀ b:Int,0<=b->b<rm.length->0<=zE st b/\zE st b<zE rm b)->R (.d (stD st)) (n+10)
theorem zkq (g:List (Int×Int)):(Dt.tup (g.map yN)).noL=true:=by
 have:∀ g:List (Int×Int),Dt.noLs (g.map yN)=true:=by
  intro g
  induction g with
  | nil=>rfl
  | cons q g ih=>simp only [List.map_cons,Dt.noLs,ih,Bool.and_true];rfl
 exact this g
@[reducible] def zar (g:List (Int×Int)):Dt:=.tup (g.map yN)
@[reducible] def zcp:FV:=fun Pn ws n R=>∃ p c ns rm apart,Pn=some (p,c,ns)/\ws=[.pen p,.d (stD rm),.d (.int apart)]/\n+40<=1000000/\RoomOk rm/\∀ g,Giv rm g->(∀ q∈g,q.1≠apart)->g.length<=8->R (.d (zar g)) (n+30)
theorem zcJ:zls 3 false zcp zc7:=by
 rintro vs H Q E ⟨Pn,A,ws,n,R,al,hv,hl,hp,⟨p,c,ns,rm,apart,rfl,rfl,h1,h2,h4⟩,q⟩
 obtain ⟨v,y,x,rfl,b1,b2,b3⟩:=zpH hv
 have e1:v = .ref p:=b1
 have e3:x = .int apart:=b3
 obtain ⟨ra,rfl,hra⟩:=zjE b2
 subst e1 e3
 exact ⟨p,c,ra,ns,rm,n,apart,rfl,hp.1,h1,h2.at hra,fun a g H' ha n1 n2 n3 P' S'=>q _ (n+30) _ H' (h4 g n1 n2 n3) (Val.of (zjq (al.stay S').noT (zkq g) ha)) ⟨S',P',hp.2⟩ fun z=>by cases z⟩
@[reducible] def zn9:FV:=fun _ ws n R=>∃ d,ws=[.d d]/\R (.d (.bl d.isWhole)) n
@[reducible] def zn8:FV:=fun _ ws n R=>∃ a b,ws=[.d (.bl a),.d (.bl b)]/\R (.d (.bl (a==b))) n
@[reducible] def zi9:FV:=fun _ ws n R=>∃ ns:List Int,ws=[.d (stD ns)]/\(∀ n∈ns,2<=n/\n<=4)/\R (.d (.int (xm ns))) n
theorem zgB:zls 1 false zi9 zhh:=by
 rintro vs H Q E ⟨Pn,A,ws,n,R,al,hv,hl,hp,⟨ns,rfl,h1,h4⟩,q⟩
 obtain ⟨v,rfl,b1⟩:=zlo hv
 obtain ⟨a,rfl,ha⟩:=zjE b1
 exact ⟨a,ns,rfl,ha,h1,q _ n _ H h4 (Val.of rfl) (Go.refl hp) fun z=>by cases z⟩
@[reducible] def zn7:FV:=fun _ ws n R=>∃ st g,ws=[.d (stD st),.d (zar g)]/\(∀ q∈g,0<=q.1/\q.1<st.length)/\R (.d (.bl (xL st g))) n
@[reducible] def zbj (sts:List (List Int)):Dt:=.lst (sts.map stD)
theorem zlf {A:Addr->Prop}{H H':Hp}{a:Addr}{ys:List V}{sts:List (List Int)}(al:Al A H)(s:yL H H')(n:H a=none)(h:H' a=some (.lst ys))(hl:IsL H' (sts.map stD) ys):Val A H' (.d (zbj sts)) (.ref a)/\FrV A H H' (.d (zbj sts)) (.ref a):=by
 have al':=al.stay (zu.same s)
 have hl1:=zaS al'.noT (uQ sts) hl
 refine ⟨Val.of ⟨a,ys,rfl,yx (al.new n) h,hl1⟩,a,rfl,.of n,a,ys,rfl,h,zaS (fun b xs z e=>?_) (uQ sts) hl⟩
 rcases z with z | z
 ·exact al'.noT b xs z e
 ·subst z;rw [h] at e;cases e
@[reducible] def F_all:FV:=fun _ ws n R=>∃ rm,ws=[.d (stD rm)]/\RoomOk rm/\xm rm<=256/\R (.d (zbj (yO (rm.map zx)))) n
@[reducible] def lsD (c:List Int):Dt:=.lst (c.map .int)
@[reducible] def zbl:FV:=fun _ ws n R=>∃ cs:List (List Int),ws=[.d (.lst (cs.map lsD))]/\cs.length<=8/\(∀ c∈cs,c.length<=4)/\R (.d (zbj (yO cs))) n
theorem zik {G H:Hp}(s:yL G H):∀ {cs:List (List Int)} {xs:List V},IsL G (cs.map lsD) xs->zlv H xs cs:=fun {cs xs} h=>by
 refine ⟨by rw [h.length,List.length_map],fun i c hc=>?_⟩
 obtain ⟨v,h1,h2⟩:=h.getD (i:=i) (d:=lsD c) (by rw [List.getElem?_map,hc];rfl)
 obtain ⟨a,ys,rfl,h3,h4⟩:=h2
 obtain rfl:=h4.of_ints
 exact ⟨a,h1,s _ _ h3⟩
theorem zbS {K:PySem.W.Frag}:zls 1 true zbl (zbD K):=by
 rintro vs H Q E ⟨Pn,A,ws,n,R,al,hv,hl,hp,⟨cs,rfl,h1,h2,h4⟩,q⟩
 obtain ⟨v,rfl,b1⟩:=zlo hv
 obtain ⟨a,xs,rfl,ha,hx⟩:=b1
 refine ⟨a,xs,cs,rfl,zq _ _ ha,zik zq hx,h1,h2,fun a ys H' na ha' hys S=>?_⟩
 obtain ⟨z1,z2⟩:=zlf al S na ha' hys
 exact q _ n _ H' h4 z1 (Go.same hp S) fun _=>z2
theorem zoX {P:Program}{w:World}{K:PySem.W.Frag}{mg:Str->Option Value}{base:Heap}{x qual:Str}{st:Stmt}{f:Addr}{fd:FuncData}{N ps:List Str}{k r:Nat}(M:List Nat)(Fu:Fun K x qual st f fd)(S:FnScope N ps (za st))(hps:ps.length=1)(hN:N.length=r+2)(hM:∀ i∈M,2<=i)
  (hbody:∀ (cdv:Value) (A:Around) (outer:List Env) (s:Shared) (H:Hp) (E:XK) (Pn:Option zj),Room k (A.deeper (PyProof.Rows.envOfC qual (za st) s.heap.objs.size f cdv))->
   ∃ s1 z6 fs,zi st=s1::z6/\QS (zde CX0 P w K mg base N qual (za st) f cdv A outer s H E).nox s1 (zfi (zfj (ziS K) [] E0 (zfk (zlh 0) znD)) (u8 1))/\
    JSs (zde CX0 P w K mg base N qual (za st) f cdv A outer s H E).nox Pn [] M false z6 fs/\∀ p c ns,Pn=some (p,c,ns)->fs (none::some (.pen p)::List.replicate r none) 0 { nx:=fun _ _=>False,rt:=fun w _=>w = .d (.bl true) }):FnOk P w K mg base CX0 (k+1) f fd ps (zhg K):=by
 refine Fun.okQ Fu S (fun vs H Q E h=>?_) (fun cdv A outer s H vs Q E hr h=>?_)
 ·obtain ⟨a,ns,rfl,_⟩:=h
  exact hps.symm
 ·obtain ⟨a,ns,rfl,hS,hl,q⟩:=h
  have ctx:=fun (Pn:Option zj)=>hbody cdv A outer s H E Pn hr
  have hN1:L2.xH N [.ref a]=some (.ref a)::none::List.replicate r none:=by
   unfold L2.xH
   rw [hN]
   rfl
  have hd:∃ s1 z6,zi st=s1::z6:=let ⟨s1,z6,_,e,_⟩:=ctx none;⟨s1,z6,e⟩
  obtain ⟨s1,z6,e0⟩:=hd
  rw [e0]
  have c2:∀ Pn,∃ fs,JSs (zde CX0 P w K mg base N qual (za st) f cdv A outer s H E).nox Pn [] M false z6 fs/\∀ p c ns,Pn=some (p,c,ns)->fs (none::some (.pen p)::List.replicate r none) 0 { nx:=fun _ _=>False,rt:=fun w _=>w = .d (.bl true) }:=fun Pn=>by
   obtain ⟨s1',rest',fs,e,_,h1,h2⟩:=ctx Pn
   rw [e0] at e
   cases e
   exact ⟨fs,h1,h2⟩
  have q1:QS (zde CX0 P w K mg base N qual (za st) f cdv A outer s H E).nox s1 (zfi (zfj (ziS K) [] E0 (zfk (zlh 0) znD)) (u8 1)):=by
   obtain ⟨s1',rest',fs,e,h0,_⟩:=ctx none
   rw [e0] at e
   cases e
   exact h0
  refine ⟨_,zm q1 (u:=fun D σ H=>∃ Pn,(c2 Pn).choose_spec.1.ex.choose D σ H) ⟨fun pins s' σ H D I ⟨Pn,z⟩=>(c2 Pn).choose_spec.1.ex.choose_spec.1.run pins s' σ H D I z⟩,?_⟩
  refine ⟨.ref a,by rw [hN1];rfl,a,ns,rfl,hS,hl,fun p c H1 P1 S1=>⟨some (p,c,ns),?_⟩⟩
  have hs:=(c2 (some (p,c,ns))).choose_spec.2 p c ns rfl
  have e1:(L2.xH N [.ref a]).set 1 (some (.ref p))=some (.ref a)::some (.ref p)::List.replicate r none:=by rw [hN1];rfl
  rw [e1]
  have hnone:∀ i (u:W),(none::some (.pen p)::List.replicate r none:Ev)[i]?=some (some u)->i=1/\u = .pen p:=fun i u e=>by
   match i,e with
   | 0,e=>simp at e
   | 1,e=>exact ⟨rfl,by simpa using e.symm⟩
   | i+2,e=>
    simp only [List.getElem?_cons_succ] at e
    obtain ⟨_,q⟩:=List.getElem?_eq_some_iff.mp e
    rw [List.getElem_replicate] at q
    cases q
  refine (c2 (some (p,c,ns))).choose_spec.1.ex.choose_spec.2.run { A0:=fun _=>False,H0:=H1,G0:=yr (fun _=>False) H1,σ0:=[] } (fun _=>False) _ H1 _ 0 _ _ ⟨⟨?_,?_,?_,fun _ z=>z.elim⟩,⟨fun _ z=>z,fun _ z=>z.elim,.of (zu.refl _),fun _ z=>z.elim,fun _ z=>z.elim,fun _ z=>z.elim⟩,⟨P1,fun z=>z,fun z=>z⟩,zu.refl _,fun i hi=>by simp at hi,?_⟩ ⟨?_,?_,?_,(fun z=>by cases z),?_⟩ hs
  ·simp
  ·intro i u e
   obtain ⟨rfl,rfl⟩:=hnone i u e
   exact ⟨.ref p,rfl,fun _=>rfl,fun z=>absurd (hM 1 z) (by lia)⟩
  ·intro i j u u' b hi hj hne e1
   obtain ⟨rfl,rfl⟩:=hnone i u e1
   exact absurd (hM 1 hi) (by lia)
  ·intro i u b hi e
   obtain ⟨rfl,rfl⟩:=hnone i u e
   exact absurd (hM 1 hi) (by lia)
  ·intro _ _ _ _ _ _ z;exact z.elim
  ·intro _ _ _ _ _ _ z;exact z.elim
  ·intro _ _ _ _ _ _ z;exact z.elim
  ·intro w n' v H' hv st pn _ r
   have r':w = .d (.bl true):=r
   subst r'
   have:v = .bl true:=hv
   subst this
   exact q H'
open PySem.Spec
theorem zfL {α:Type}{l:List W}{ρ0:Ev}{n:Nat}{mg:W->Ev->(Ev->Prop)->Prop}{ft:Ev->Mo Bool}{fe:Ev->Mo W}{Q:W->Nat->Prop}(xs:List α)(toW:α->W)(hl:l=xs.map toW)(J:Ev->Prop)(P:α->Bool)(E:α->Dt)(hlim:xs.length<=lim)(j0:J ρ0)
  (h:∀ a∈xs,∀ ρ',J ρ'->∀ C:Ev->Nat->Option Dt->Prop,(∀ ρ1,J ρ1->C ρ1 n (if P a then some (E a) else none))->mg (toW a) ρ' fun ρ1=>ft ρ1 n fun b n2=>if b=true then fe ρ1 n2 fun x n3=>∃ d,x = .d d/\C ρ1 n3 (some d) else C ρ1 n2 none)
  (fin:Q (.d (.lst ((xs.filter P).map E))) n):zfK mg ft fe ρ0 Q l n:=by
 subst hl
 refine ⟨by rw [List.length_map];exact hlim,fun i ρ' n' acc=>J ρ'/\n'=n/\acc=((xs.take i).filter P).map E,⟨j0,rfl,by simp⟩,?_,?_⟩
 ·rintro i w ρ' n' acc hw ⟨hj,rfl,rfl⟩
  rw [List.getElem?_map] at hw
  obtain ⟨a,ha,rfl⟩:=Option.map_eq_some_iff.mp hw
  have:=h a (List.mem_of_getElem? ha) ρ' hj (fun ρ1 n3 o=>match o with
   | some d=>J ρ1/\n3=n'/\((xs.take i).filter P).map E++[d]=((xs.take (i+1)).filter P).map E
   | none=>J ρ1/\n3=n'/\((xs.take i).filter P).map E=((xs.take (i+1)).filter P).map E) (fun ρ1 hj1=>by
    rw [zv ha,List.filter_append,List.map_append]
    by_cases hp:P a=true
    ·rw [if_pos hp]
     exact ⟨hj1,rfl,by simp [hp]⟩
    ·rw [if_neg hp]
     exact ⟨hj1,rfl,by simp [hp]⟩)
  exact this
 ·rintro ρ' n' acc ⟨_,rfl,rfl⟩
  rw [List.length_map,List.take_length]
  exact fin
theorem zhZ {α:Type}{l:List W}{ρ0:Ev}{n:Nat}{mg:W->Ev->(Ev->Prop)->Prop}{fe:Ev->Mo W}{Q:W->Nat->Prop}(xs:List α)(toW:α->W)(hl:l=xs.map toW)(J:Ev->Prop)(E:α->Dt)(hlim:xs.length<=lim)(j0:J ρ0)
  (h:∀ a∈xs,∀ ρ',J ρ'->∀ C:Ev->Nat->Dt->Prop,(∀ ρ1,J ρ1->C ρ1 n (E a))->mg (toW a) ρ' fun ρ1=>fe ρ1 n fun x n3=>∃ d,x = .d d/\C ρ1 n3 d)
  (fin:Q (.d (.lst (xs.map E))) n):zfK mg zoV fe ρ0 Q l n:=by
 subst hl
 refine ⟨by rw [List.length_map];exact hlim,fun i ρ' n' acc=>J ρ'/\n'=n/\acc=(xs.take i).map E,⟨j0,rfl,by simp⟩,?_,?_⟩
 ·rintro i w ρ' n' acc hw ⟨hj,rfl,rfl⟩
  rw [List.getElem?_map] at hw
  obtain ⟨a,ha,rfl⟩:=Option.map_eq_some_iff.mp hw
  exact h a (List.mem_of_getElem? ha) ρ' hj (fun ρ1 n3 d=>J ρ1/\n3=n'/\(xs.take i).map E++[d]=(xs.take (i+1)).map E) fun ρ1 hj1=>⟨hj1,rfl,by rw [zv ha,List.map_append];rfl⟩
 ·rintro ρ' n' acc ⟨_,rfl,rfl⟩
  rw [List.length_map,List.take_length]
  exact fin
theorem zjW {r:Nat}{ρ:Ev}{n:Nat}{mg:W->Ev->(Ev->Prop)->Prop}{fb:Ms}{k:Kt}(I:Nat->Ev->Nat->Prop)(h0:I 0 ρ n)
  (h:∀ i ρ' n',i<r->I i ρ' n'->mg (.d (.int (i:Int))) ρ' fun ρ1=>fb ρ1 n' { k with nx:=I (i+1),ct:=I (i+1),bk:=k.nx }) (hd:∀ ρ' n',I r ρ' n'->k.nx ρ' n'):zlT mg fb ρ k (zfe 0 r) n:=by
 refine ⟨I,h0,fun i w ρ' n' hw hI=>?_,fun ρ' n' hI=>hd ρ' n' ?_⟩
 ·unfold zfe at hw
  rw [List.getElem?_map] at hw
  obtain ⟨j,h1,rfl⟩:=Option.map_eq_some_iff.mp hw
  obtain ⟨hi,h2⟩:=List.getElem?_eq_some_iff.mp h1
  rw [List.getElem_range] at h2
  subst h2
  rw [List.length_range] at hi
  have:=h i ρ' n' hi hI
  rw [Int.zero_add]
  exact this
 ·unfold zfe at hI
  rwa [List.length_map,List.length_range] at hI
theorem zgd {α:Type}{l:List W}{ρ:Ev}{n:Nat}{mg:W->Ev->(Ev->Prop)->Prop}{fb:Ms}{k:Kt}(xs:List α)(toW:α->W)(hl:l=xs.map toW)(I:Nat->Ev->Nat->Prop)(h0:I 0 ρ n)
  (h:∀ i a ρ' n',xs[i]?=some a->I i ρ' n'->mg (toW a) ρ' fun ρ1=>fb ρ1 n' { k with nx:=I (i+1),ct:=I (i+1),bk:=k.nx }) (hd:∀ ρ' n',I xs.length ρ' n'->k.nx ρ' n'):zlT mg fb ρ k l n:=by
 subst hl
 refine ⟨I,h0,fun i w ρ' n' hw hI=>?_,fun ρ' n' hI=>hd ρ' n' (by rwa [List.length_map] at hI)⟩
 rw [List.getElem?_map] at hw
 obtain ⟨a,ha,rfl⟩:=Option.map_eq_some_iff.mp hw
 exact h i a ρ' n' ha hI
theorem zep {r:Nat}{ρ:Ev}{n:Nat}{mg:W->Ev->(Ev->Prop)->Prop}{fb:Ms}{k:Kt}(I:Nat->Ev->Nat->Prop)(h0:I 0 ρ n)
  (h:∀ i ρ' n',i<r->I i ρ' n'->∀ (C B:Ev->Nat->Prop) (E:W->Nat->Prop),(∀ {ρ m},I (i+1) ρ m->C ρ m)->(∀ {ρ m},k.nx ρ m->B ρ m)->(∀ {w m},k.rt w m->E w m)->mg (.d (.int (i:Int))) ρ' fun ρ1=>fb ρ1 n' { rt:=E,nx:=C,ct:=C,bk:=B }) (hd:∀ ρ' n',I r ρ' n'->k.nx ρ' n'):zlT mg fb ρ k (zfe 0 r) n:=
 zjW I h0 (fun i ρ' n' hi hI=>h i ρ' n' hi hI (I (i+1)) k.nx k.rt (fun z=>z) (fun z=>z) fun z=>z) hd
theorem xB {α:Type}{l:List W}{ρ:Ev}{n:Nat}{mg:W->Ev->(Ev->Prop)->Prop}{fb:Ms}{k:Kt}(xs:List α)(toW:α->W)(hl:l=xs.map toW)(I:Nat->Ev->Nat->Prop)(h0:I 0 ρ n)
  (h:∀ i a ρ' n',xs[i]?=some a->I i ρ' n'->∀ (C B:Ev->Nat->Prop) (E:W->Nat->Prop),(∀ {ρ m},I (i+1) ρ m->C ρ m)->(∀ {ρ m},k.nx ρ m->B ρ m)->(∀ {w m},k.rt w m->E w m)->mg (toW a) ρ' fun ρ1=>fb ρ1 n' { rt:=E,nx:=C,ct:=C,bk:=B }) (hd:∀ ρ' n',I xs.length ρ' n'->k.nx ρ' n'):zlT mg fb ρ k l n:=
 zgd xs toW hl I h0 (fun i a ρ' n' ha hI=>h i a ρ' n' ha hI (I (i+1)) k.nx k.rt (fun z=>z) (fun z=>z) fun z=>z) hd
theorem zcq {α:Type}{l:List α}{i:Nat}{x:α}(h:l[i]?=some x):atI l (i:Int)=some x:=by
 have:=(List.getElem?_eq_some_iff.mp h).1
 unfold atI ixN
 rw [if_pos (by lia),if_pos (by lia)]
 simpa using h
theorem zly {α:Type}{l:List α}{i:Int}(h0:0<=i)(h1:i<l.length):∃ d,atI l i=some d/\d∈l:=by
 obtain ⟨j,rfl⟩:∃ j:Nat,i=j:=⟨i.toNat,by lia⟩
 have hj:j<l.length:=by lia
 exact ⟨l[j],zcq (List.getElem?_eq_getElem hj),List.getElem_mem hj⟩
theorem zjI {st:List Int}{b:Int}(h0:0<=b)(h1:b<st.length):atI (st.map Dt.int) b=some (.int (zE st b)):=by
 obtain ⟨j,rfl⟩:∃ j:Nat,b=j:=⟨b.toNat,by lia⟩
 have hj:j<st.length:=by lia
 refine zcq ?_
 rw [List.getElem?_map,List.getElem?_eq_getElem hj,yj]
 simp [hj]
def gw (g:List (Int×Int))(i:Nat):Option Int:=(g.find? fun q=>decide (q.1=(i:Int))).map (·.2)
theorem zgE (g:List (Int×Int))(i:Nat):xl (List.map kvD (List.map (fun q:Int×Int=>(q.1,Dt.int q.2)) g)) (Sum.inl (i:Int))=(gw g i).map Dt.int:=by
 unfold xl gw
 induction g with
 | nil=>rfl
 | cons q g ih=>
  rw [List.map_cons,List.map_cons,List.find?_cons,List.find?_cons]
  by_cases h:q.1=(i:Int)
  ·have h1:decide ((kvD (q.1,Dt.int q.2)).1=(Sum.inl (i:Int):Key))=true:=decide_eq_true (by show (Sum.inl q.1:Key)=_;rw [h])
   rw [h1,decide_eq_true h]
   rfl
  ·have h1:decide ((kvD (q.1,Dt.int q.2)).1=(Sum.inl (i:Int):Key))=false:=decide_eq_false fun z=>h (Sum.inl.inj z)
   rw [h1,decide_eq_false h]
   exact ih
theorem zdx (rm:List Int):enW 0 (rm.map Dt.int)=(List.range rm.length).map fun i:Nat=>W.d (.tup [.int (i:Int),.int (rm.getD i 0)]):=by
 apply List.ext_getElem?
 intro i
 rw [zdw,List.getElem?_map,List.getElem?_map]
 by_cases h:i<rm.length
 ·rw [List.getElem?_eq_getElem h,List.getElem?_range h]
  simp [h]
 ·rw [List.getElem?_eq_none (by lia),List.getElem?_eq_none (by rw [List.length_range];lia)]
  rfl
def cho (rm:List Int)(g:List (Int×Int))(i:Nat):List Int:=match gw g i with
 | some w=>[w]
 | none=>zx (rm.getD i 0)
def chs (rm:List Int)(g:List (Int×Int)):List (List Int):=(List.range rm.length).map (cho rm g)
def zW (rm:List Int)(g:List (Int×Int)):List (List Int):=yO (chs rm g)
def kpN (g:List (Int×Int))(n:Nat)(st:List Int):Bool:=g.all fun q=>!decide (q.1<n) || decide (zE st q.1=q.2)
theorem zbR {g:List (Int×Int)}{n:Nat}{st:List Int}:kpN g n st=true↔∀ q∈g,q.1<(n:Int)->zE st q.1=q.2:=by
 unfold kpN
 rw [List.all_eq_true]
 constructor
 ·intro h q hq hn
  have:=h q hq
  rw [decide_eq_true hn] at this
  simpa using this
 ·intro h q hq
  by_cases hn:q.1<(n:Int)
  ·have:=h q hq hn
   rw [decide_eq_true this]
   simp
  ·rw [decide_eq_false hn]
   rfl
theorem zcy {rows:List (List Int)}{ws:List Int}{p p':List Int->Bool}{q:Int->Bool}(h:∀ r∈rows,∀ w∈ws,p (r++[w])=(p' r&&q w)):(yK rows ws).filter p=yK (rows.filter p') (ws.filter q):=by
 unfold yK
 induction rows with
 | nil=>rfl
 | cons r rows ih=>
  have ih':=ih fun r' hr=>h r' (List.mem_cons_of_mem _ hr)
  rw [List.flatMap_cons,List.filter_append,ih',List.filter_cons]
  have e:(ws.map fun w=>r++[w]).filter p=if p' r=true then (ws.filter q).map (fun w=>r++[w]) else []:=by
   rw [List.filter_map]
   have e1:ws.filter (p ∘ fun w=>r++[w])=ws.filter fun w=>p' r&&q w:=List.filter_congr fun w hw=>h r List.mem_cons_self w hw
   rw [e1]
   cases p' r with
   | true=>simp
   | false=>simp
  rw [e]
  cases p' r with
  | true=>simp
  | false=>simp
theorem zaP {rm:List Int}{g:List (Int×Int)}(hg:Giv rm g){i:Nat}{w:Int}(h:gw g i=some w):((i:Int),w)∈g:=by
 unfold gw at h
 obtain ⟨q,h1,h2⟩:=Option.map_eq_some_iff.mp h
 have h3:=List.find?_some h1
 have h4:=List.mem_of_find?_eq_some h1
 have:q=((i:Int),w):=by
  have:=of_decide_eq_true h3
  cases q
  simp at this h2
  subst this h2
  rfl
 exact this ▸ h4
theorem zdD {g:List (Int×Int)}{i:Nat}(h:gw g i=none):∀ q∈g,q.1≠(i:Int):=fun q hq e=>by
 unfold gw at h
 have:=List.find?_eq_none.mp (Option.map_eq_none_iff.mp h) q hq
 simp [e] at this
theorem zgh {rm:List Int}{g:List (Int×Int)}(hg:Giv rm g){q r:Int×Int}(h1:q∈g)(h2:r∈g)(e:q.1=r.1):q=r:=by
 have key:∀ g:List (Int×Int),(g.Pairwise fun a b=>a.1<b.1)->q∈g->r∈g->q=r:=by
  intro g hp
  induction hp with
  | nil=>intro h;simp at h
  | cons ha _ ih=>
   intro h1 h2
   rcases List.mem_cons.mp h1 with e1 | m1
   ·rcases List.mem_cons.mp h2 with e2 | m2
    ·rw [e1,e2]
    ·have:=ha r m2
     rw [<- e1] at this
     lia
   ·rcases List.mem_cons.mp h2 with e2 | m2
    ·have:=ha q m1
     rw [<- e2] at this
     lia
    ·exact ih m1 m2
 exact key g hg.up h1 h2
theorem zg5 {m w:Int}(h0:0<=w)(h1:w<m):(zx m).filter (fun x=>decide (x=w))=[w]:=by
 unfold zx
 rw [List.filter_map]
 have key:∀ n:Nat,w.toNat<n->(List.range n).filter ((fun x:Int=>decide (x=w)) ∘ fun i:Nat=>(i:Int))=[w.toNat]:=by
  intro n
  induction n with
  | zero=>intro h;lia
  | succ n ih=>
   intro h
   rw [List.range_succ,List.filter_append]
   by_cases hn:w.toNat<n
   ·rw [ih hn]
    have:¬ ((n:Int)=w):=by lia
    simp [this]
   ·have hn':w.toNat=n:=by lia
    have e:(n:Int)=w:=by lia
    have:(List.range n).filter ((fun x:Int=>decide (x=w)) ∘ fun i:Nat=>(i:Int))=[]:=by
     rw [List.filter_eq_nil_iff]
     intro x hx
     have:=List.mem_range.mp hx
     have:¬ ((x:Int)=w):=by lia
     simp [this]
    rw [this]
    simp [e,hn']
 rw [key m.toNat (by lia)]
 simp
 lia
theorem zcG {rm:List Int}{g:List (Int×Int)}(hg:Giv rm g):∀ n:Nat,n<=rm.length->(yO ((rm.take n).map zx)).filter (kpN g n)=yO ((List.range n).map (cho rm g))
 | 0,_=>by
  have:kpN g 0 []=true:=zbR.mpr fun q hq hn=>by
   have:=(hg.ok q hq).1
   lia
  simp [yO,this]
 | n+1,hn=>by
  have hlt:n<rm.length:=hn
  have ih:=zcG hg n (Nat.le_of_lt hlt)
  rw [zv (List.getElem?_eq_getElem hlt),List.map_append,List.range_succ,List.map_append]
  show (yO (_++[zx rm[n]])).filter _=yO (_++[cho rm g n])
  rw [zR,zR,<- ih]
  have hrow:∀ r∈yO ((rm.take n).map zx),r.length=n:=fun r hr=>by
   rw [zav _ _ hr,List.length_map,List.length_take]
   lia
  have e:rm.getD n 0=rm[n]:=by simp [hlt]
  have em:zE rm (n:Int)=rm[n]:=by unfold zE;simp [hlt]
  rw [zcy (p':=kpN g n) (q:=fun w=>match gw g n with | some v=>decide (w=v) | none=>true)]
  ·congr 1
   unfold cho
   cases hq:gw g n with
   | none=>rw [e];simp
   | some v=>
    have hb:=hg.ok _ (zaP hg hq)
    have h2:v<zE rm (n:Int):=hb.2.2.2
    exact zg5 hb.2.2.1 (by lia)
  ·intro r hr w hw
   have hl:=hrow r hr
   rw [Bool.eq_iff_iff,Bool.and_eq_true,zbR,zbR]
   have lt:∀ q∈g,q.1<(n:Int)->zE (r++[w]) q.1=zE r q.1:=fun q hq hn=>zcL (hg.ok q hq).1 (by lia)
   have eqn:zE (r++[w]) (n:Int)=w:=by rw [<- hl];exact zcK
   constructor
   ·intro h
    refine ⟨fun q hq hn=>by rw [<- lt q hq hn];exact h q hq (by lia),?_⟩
    cases hq:gw g n with
    | none=>rfl
    | some v=>
     have h1:=h _ (zaP hg hq) (by show (n:Int)<((n+1:Nat):Int);lia)
     rw [eqn] at h1
     exact decide_eq_true h1
   ·rintro ⟨h1,h2⟩ q hq hn
    by_cases hqn:q.1<(n:Int)
    ·rw [lt q hq hqn]
     exact h1 q hq hqn
    ·have hqe:q.1=(n:Int):=by lia
     have hg':gw g n=some q.2:=by
      cases hz:gw g n with
      | none=>exact absurd hqe (zdD hz q hq)
      | some v=>rw [zgh hg hq (zaP hg hz) hqe]
     rw [hg'] at h2
     rw [hqe,eqn]
     exact of_decide_eq_true h2
theorem uv {rm:List Int}{g:List (Int×Int)}(hg:Giv rm g):(yO (rm.map zx)).filter (fun st=>xL st g)=zW rm g:=by
 have h:=zcG hg rm.length (Nat.le_refl _)
 rw [List.take_length] at h
 unfold zW chs
 rw [<- h]
 refine List.filter_congr fun st hst=>?_
 rw [Bool.eq_iff_iff,zbR]
 unfold xL
 rw [List.all_eq_true]
 constructor
 ·intro z q hq _
  exact of_decide_eq_true (z q hq)
 ·intro z q hq
  exact decide_eq_true (z q hq (hg.ok q hq).2.1)
theorem zaW {rm:List Int}{g:List (Int×Int)}(hg:Giv rm g):∀ st∈zW rm g,st.length=rm.length:=fun st hst=>by
 unfold zW chs at hst
 rw [zav _ _ hst,List.length_map,List.length_range]
theorem uK {rm:List Int}{g:List (Int×Int)}(hR:RoomOk rm):(zW rm g).length<=65536:=by
 have h:=zbH (cs:=chs rm g) (by unfold chs;rw [List.length_map,List.length_range];exact hR.few) (fun c hc=>by
  obtain ⟨i,hi,rfl⟩:=List.mem_map.mp hc
  have hi':=List.mem_range.mp hi
  have hb:=hR.box _ (List.getElem_mem hi')
  have e:rm.getD i 0=rm[i]:=by simp [hi']
  unfold cho
  cases gw g i with
  | some v=>simp
  | none=>rw [yQ];lia) (chs rm g).length
 rw [List.take_length] at h
 exact h
open PySem.Spec
section
variable {X:Cx}{Pn:Option zj}{M S:List Nat}{fr fr':Bool}{e a b c:Expr}{es:List Expr}{f fa fb fc:Ev->Mo W}{pos p p2:Pos}
def insD {α:Type}(l:List α)(k:Nat)(x:α):List α:=l.take k++x::l.drop k
def zf9:List W->Mo W:=fun ws n Q=>∃ (sts:List (List Int)) (m:Nat),ws=[.d (.lst (sts.map stD))]/\1<=m/\(∀ st∈sts,st.length=m)/\sts.Nodup/\∀ sts':List (List Int),sts'.Perm sts->(sts'.Pairwise fun a b=>HT.lexLt a b=true)->Q (.d (zbj sts')) n
theorem zlm:FL Pn true zlb zf9:=⟨fun A H xs ws n Q R al b P ⟨sts,m,e,h1,hm,hnd,h⟩ k=>by
 subst e
 obtain ⟨v,rfl,bb⟩:=zbI b
 obtain ⟨a,ys,rfl,ha,hl⟩:=xk bb
 refine ⟨a,ys,sts,m,rfl,ha,hl.stay (zu.same zq),h1,hm,hnd,fun ys' sts' hy hp hs p H' np g S=>?_⟩
 have hy':IsL (yr A H) (sts'.map stD) ys':=zaS al.noT (uQ sts') hy
 exact k _ n _ H' (h sts' hp hs) (uB hy' (zu.same S) (al.new np) g) (Go.same P S) fun z=>uq hy' S np g⟩
def zpg {κ:Type}[DecidableEq κ](kvs:List (κ×Dt))(k:κ)(d:Dt):List (κ×Dt):=
 if (kvs.any fun kv=>decide (kv.1=k))=true then kvs.map (fun kv=>if kv.1=k then (kv.1,d) else kv) else kvs++[(k,d)]
end
open PySem.Spec
@[reducible] def F_turn:FV:=fun Pn ws n R=>∃ p c ns l,Pn=some (p,c,ns)/\ws=[.pen p,.d (.lst l)]/\n+l.length<=1000000/\l.length<=100000/\∀ l':List Dt,l'.Perm l->R (.d (.lst l')) (n+l.length)
open PySem.Spec
section
variable {X:Cx}{Pn:Option zj}{M S:List Nat}{fr fr':Bool}{e a b c:Expr}{es:List Expr}{f fa fb fc:Ev->Mo W}{pos p:Pos}
end
open PySem.Spec
end L3
namespace L3
open PySem PySem.Spec L2
def zoc (rm:List Int)(bk:List Wi)(g:List (Int×Int)):List (List Int):=(zW rm g).filter fun st=>decide (zlW bk st (g.map (·.1))=[])
@[reducible] def zlB (bk:List Wi):Dt:=.tup (bk.map zpI)
def BkOk (rm:List Int)(bk:List Wi):Prop:=∀ x∈bk,WishOk rm x
@[reducible] def F_bett:FV:=fun _ ws n R=>∃ rm bk st hs,ws=[.d (stD rm),.d (zlB bk),.d (stD st),.d (stD hs)]/\RoomOk rm/\BkOk rm bk/\st.length=rm.length/\R (.d (zbj (betF bk st hs))) n
@[reducible] def znU:FV:=fun _ ws n R=>∃ rm bk g,ws=[.d (stD rm),.d (zlB bk),.d (zar g)]/\RoomOk rm/\BkOk rm bk/\Giv rm g/\R (.d (zbj (zoc rm bk g))) n
theorem zeH (r:Nat):zfe 0 r=(List.range r).map fun k:Nat=>W.d (.int (k:Int)):=by
 unfold zfe
 apply List.map_congr_left
 intro k _
 simp
theorem zlx {L:List Dt}{a:Int}{G:Dt->Prop}(h0:0<=a)(h1:a<L.length)(h:∀ x∈L,G x):∃ x,atI L a=some x/\G x:=by
 obtain ⟨d,h2,h3⟩:=zly h0 h1
 exact ⟨d,h2,h d h3⟩
theorem zaO {α β:Type}(f:α->β)(l:List α)(lo hi:Option Int):uj (l.map f) lo hi=(uj l lo hi).map f:=by
 unfold uj
 rw [List.length_map,<- List.map_drop,<- List.map_take]
theorem zaN {α:Type}(l:List α)(lo hi:Option Int):(uj l lo hi).length<=l.length:=by
 unfold uj
 rw [List.length_take,List.length_drop]
 lia
theorem zlE {st:List Int}{b w:Int}(h0:0<=b):uj st none (some b)++[w]++uj st (some (b+1)) none=chg st b w:=by
 have h:=zjL st (w:=w) h0
 have e1:zbf (st.map V.int) none (some b)=(uj st none (some b)).map V.int:=by rw [<- zaO];rfl
 have e2:zbf (st.map V.int) (some (b+1)) none=(uj st (some (b+1)) none).map V.int:=by rw [<- zaO];rfl
 rw [e1,e2] at h
 have e3:(uj st none (some b)).map V.int++[V.int w]++(uj st (some (b+1)) none).map V.int=(uj st none (some b)++[w]++uj st (some (b+1)) none).map V.int:=by rw [List.map_append,List.map_append];rfl
 rw [e3] at h
 exact List.map_inj_right (fun a b e=>by cases e;rfl) |>.mp h
def unI:Dt->Int
 | .int i=>i
 | _=>0
theorem uD {α:Type}(l:List α)(k:Nat):uj l none (some (k:Int))=l.take k:=by
 unfold uj
 rw [HT.sIx_none,HT.sIx_nat,List.drop_zero,Nat.sub_zero]
 rw [List.take_eq_take_iff]
 lia
theorem zeP:∀ (qs st:List Int),ziW (qs.map Dt.int) (st.map Dt.int)=(qs.zip st).map fun q=>W.d (yN q)
 | [],_=>by cases ‹List Int› <;> rfl
 | _::_,[]=>rfl
 | q::qs,s::st=>by
  show _::ziW (qs.map Dt.int) (st.map Dt.int)=_::_
  rw [zeP qs st]
  rfl
theorem zjJ {st:List Int}{b x:Int}{n:Nat}{Q:W->Nat->Prop}(b0:0<=b)(hz:st.length<=1000)(h:Q (.d (stD (chg st b x))) n):zdz (.d (.tup (uj (st.map Dt.int) none (some b)))) (.d (.tup [.int x])) n fun w m=>zdz w (.d (.tup (uj (st.map Dt.int) (some (b+1)) none))) m Q:=by
 have c1:=zaN st none (some b)
 have c2:=zaN st (some (b+1)) none
 rw [zaO,zaO]
 refine ⟨_,_,rfl,rfl,by rw [List.length_map];exact Nat.le_trans (by simp;lia:_<=1001) (by decide),_,_,rfl,rfl,by rw [List.length_append,List.length_map,List.length_map];exact Nat.le_trans (by simp;lia:_<=2001) (by decide),?_⟩
 have e:(uj st none (some b)).map Dt.int++[Dt.int x]++(uj st (some (b+1)) none).map Dt.int=(chg st b x).map Dt.int:=by
  rw [<- zlE b0,List.map_append,List.map_append];rfl
 rw [e]
 exact h
open PySem.Spec
section
variable {X:Cx}{Pn:Option zj}{M S:List Nat}{fr fr':Bool}{e a b c:Expr}{es:List Expr}{f fa fb fc:Ev->Mo W}{pos p:Pos}
end
end L3
namespace L2
open PySem PySem.Spec PyProof.Rows
section
variable {prog:Program}{w:World}{A:Around}{E:Value->Shared->Prop}{R:Result->Shared->Prop}{s:Shared}
end
section
variable {X:Cx}{pins:List (Addr×Obj)}{σ:St}{H:Hp}{s:Shared}{a:Addr}{y v:V}{u r:Value}{o:Option V}{A:Around}{E:Value->Shared->Prop}
end
end L2
namespace L3
open PySem PySem.Spec L2
section
variable {X:Cx}{Pn:Option zj}{M S:List Nat}{fr fr':Bool}{e a b c:Expr}{es:List Expr}{f fa fb fc:Ev->Mo W}{pos p:Pos}
def zlO (mg:W->Ev->(Ev->Prop)->Prop)(ft:Ev->Mo Bool)(fk fv:Ev->Mo W)(ρ0:Ev)(Q:W->Nat->Prop):List W->Nat->Prop:=fun l n1=>l.length<=lim/\∃ I:Nat->Ev->Nat->List (List Int×Dt)->Prop,I 0 ρ0 n1 []/\
 (∀ i w ρ' n' acc,l[i]?=some w->I i ρ' n' acc->mg w ρ' fun ρ1=>ft ρ1 n' fun b n2=>if b=true then fk ρ1 n2 fun y n3=>fv ρ1 n3 fun x n4=>∃ st d,y = .d (stD st)/\x = .d d/\I (i+1) ρ1 n4 (zpg acc st d) else I (i+1) ρ1 n2 acc)/\
 ∀ ρ' n' acc,I l.length ρ' n' acc->Q (.dt acc) n'
@[reducible] def zoI (fi:Ev->Mo (List W)) (mg:W->Ev->(Ev->Prop)->Prop) (ft:Ev->Mo Bool) (fk fv:Ev->Mo W) (cix:List (Option Nat)):Ev->Mo W:=fun ρ n Q=>fi ρ n (zlO mg ft fk fv (zfH ρ cix) Q)
def zlN (mg:W->Ev->(Ev->Prop)->Prop)(ft:Ev->Mo Bool)(fk fv:Ev->Mo W)(ρ0:Ev)(Q:W->Nat->Prop):List W->Nat->Prop:=fun l n1=>l.length<=lim/\∃ I:Nat->Ev->Nat->List (Key×Dt)->Prop,I 0 ρ0 n1 []/\
 (∀ i w ρ' n' acc,l[i]?=some w->I i ρ' n' acc->mg w ρ' fun ρ1=>ft ρ1 n' fun b n2=>if b=true then fk ρ1 n2 fun y n3=>fv ρ1 n3 fun x n4=>∃ (j:Int) (d:Dt),y = .d (.int j)/\x = .d d/\I (i+1) ρ1 n4 (zpg acc (Sum.inl j) d) else I (i+1) ρ1 n2 acc)/\
 ∀ ρ' n' acc,I l.length ρ' n' acc->Q (.dk acc) n'
@[reducible] def zoH (fi:Ev->Mo (List W)) (mg:W->Ev->(Ev->Prop)->Prop) (ft:Ev->Mo Bool) (fk fv:Ev->Mo W) (cix:List (Option Nat)):Ev->Mo W:=fun ρ n Q=>fi ρ n (zlN mg ft fk fv (zfH ρ cix) Q)
end
open PySem.Spec
@[reducible] def onI (w:W) (P:Int->Prop):Prop:=match w with | .d (.int i)=>P i | _=>False
@[reducible] def onB (w:W) (P:Bool->Prop):Prop:=match w with | .d (.bl i)=>P i | _=>False
@[reducible] def onT (w:W) (P:List Dt->Prop):Prop:=match w with | .d (.tup i)=>P i | _=>False
@[reducible] def onL (w:W) (P:List Dt->Prop):Prop:=match w with | .d (.lst i)=>P i | _=>False
@[reducible] def onS (w:W) (P:List Dt->Prop):Prop:=match w with | .d (.lst i)=>P i | .d (.tup i)=>P i | _=>False
@[reducible] def onD (w:W) (P:Dt->Prop):Prop:=match w with | .d i=>P i | _=>False
@[reducible] def onK (w:W) (P:List (Key×Dt)->Prop):Prop:=match w with | .dk i=>P i | _=>False
@[reducible] def onE (w:W) (P:List (List Int×Dt)->Prop):Prop:=match w with | .dt i=>P i | _=>False
@[reducible] def onO {α:Type} (o:Option α) (P:α->Prop):Prop:=match o with | some i=>P i | none=>False
@[reducible] def onC (c:Bool) (A B:Prop):Prop:=match c with | true=>A | false=>B
@[reducible] def on1 (l:List W) (P:W->Prop):Prop:=match l with | [a]=>P a | _=>False
@[reducible] def on2 (l:List W) (P:W->W->Prop):Prop:=match l with | [a,b]=>P a b | _=>False
@[reducible] def onV:Ev->Nat->(W->Prop)->Prop
 | [],_,_=>False
 | a::_,0,P=>onO a P
 | _::r,i+1,P=>onV r i P
@[reducible] def onP:Ev->Nat->W->(Ev->Prop)->Prop
 | [],_,_,Q=>Q []
 | _::r,0,w,Q=>Q (some w::r)
 | a::r,i+1,w,Q=>onP r i w fun r'=>Q (a::r')
@[reducible] def onN:Ev->Nat->(Ev->Prop)->Prop
 | [],_,Q=>Q []
 | _::r,0,Q=>Q (none::r)
 | a::r,i+1,Q=>onN r i fun r'=>Q (a::r')
@[reducible] def zb4 {α:Type}:Nat->List α->Prop->Prop
 | 0,[],P=>P
 | k+1,_::r,P=>zb4 k r P
 | _,_,_=>False
theorem xN {w:W}{P:Int->Prop}:onI w P = ∃ i,w = .d (.int i)/\P i:=propext ⟨fun h=>by unfold onI at h;split at h;exact ⟨_,rfl,h⟩;exact h.elim,fun ⟨i,e,h⟩=>by subst e;exact h⟩
theorem zcU {w:W}{P:Bool->Prop}:onB w P = ∃ i,w = .d (.bl i)/\P i:=propext ⟨fun h=>by unfold onB at h;split at h;exact ⟨_,rfl,h⟩;exact h.elim,fun ⟨i,e,h⟩=>by subst e;exact h⟩
theorem zam {w:W}{P:List Dt->Prop}:onT w P = ∃ i,w = .d (.tup i)/\P i:=propext ⟨fun h=>by unfold onT at h;split at h;exact ⟨_,rfl,h⟩;exact h.elim,fun ⟨i,e,h⟩=>by subst e;exact h⟩
theorem zbx {w:W}{P:List Dt->Prop}:onL w P = ∃ i,w = .d (.lst i)/\P i:=propext ⟨fun h=>by unfold onL at h;split at h;exact ⟨_,rfl,h⟩;exact h.elim,fun ⟨i,e,h⟩=>by subst e;exact h⟩
theorem zjv {w:W}{P:List Dt->Prop}:onS w P = ∃ i,(w = .d (.lst i)\/w = .d (.tup i))/\P i:=propext ⟨fun h=>by unfold onS at h;split at h;exact ⟨_,.inl rfl,h⟩;exact ⟨_,.inr rfl,h⟩;exact h.elim,fun ⟨i,e,h⟩=>by rcases e with e | e <;> subst e <;> exact h⟩
theorem zbw {w:W}{P:Dt->Prop}:onD w P = ∃ i,w = .d i/\P i:=propext ⟨fun h=>by unfold onD at h;split at h;exact ⟨_,rfl,h⟩;exact h.elim,fun ⟨i,e,h⟩=>by subst e;exact h⟩
theorem zgK {w:W}{P:List (Key×Dt)->Prop}:onK w P = ∃ i,w = .dk i/\P i:=propext ⟨fun h=>by unfold onK at h;split at h;exact ⟨_,rfl,h⟩;exact h.elim,fun ⟨i,e,h⟩=>by subst e;exact h⟩
theorem za8 {α:Type}{w:Option α}{P:α->Prop}:onO w P = ∃ i,w=some i/\P i:=propext ⟨fun h=>by unfold onO at h;split at h;exact ⟨_,rfl,h⟩;exact h.elim,fun ⟨i,e,h⟩=>by subst e;exact h⟩
theorem zbv {c:Bool}{A B:Prop}:onC c A B=if c=true then A else B:=by cases c <;> simp [onC]
theorem za7 {l:List W}{P:W->Prop}:on1 l P = ∃ a,l=[a]/\P a:=propext ⟨fun h=>by unfold on1 at h;split at h;exact ⟨_,rfl,h⟩;exact h.elim,fun ⟨i,e,h⟩=>by subst e;exact h⟩
theorem zmo {l:List W}{P:W->W->Prop}:on2 l P = ∃ a b,l=[a,b]/\P a b:=propext ⟨fun h=>by unfold on2 at h;split at h;exact ⟨_,_,rfl,h⟩;exact h.elim,fun ⟨i,j,e,h⟩=>by subst e;exact h⟩
theorem zgL:∀ {ρ:Ev} {i:Nat} {P:W->Prop},onV ρ i P = ∃ w,ρ[i]?=some (some w)/\P w
 | [],i,P=>by simp [onV]
 | some w::r,0,P=>by simp [onV]
 | none::r,0,P=>by simp [onV]
 | some w::r,i+1,P=>by simpa [onV] using zgL (ρ:=r) (i:=i) (P:=P)
 | none::r,i+1,P=>by simpa [onV] using zgL (ρ:=r) (i:=i) (P:=P)
theorem zju:∀ {ρ:Ev} {i:Nat} {w:W} {Q:Ev->Prop},onP ρ i w Q=Q (ρ.set i (some w))
 | [],i,w,Q=>rfl
 | a::r,0,w,Q=>rfl
 | a::r,i+1,w,Q=>by rw [onP,zju];rfl
theorem zb5 {α:Type}:∀ {k:Nat} {l:List α} {P:Prop},zb4 k l P=(l.length=k/\P)
 | 0,[],P=>by simp [zb4]
 | 0,a::r,P=>by simp [zb4]
 | k+1,[],P=>by simp [zb4]
 | k+1,a::r,P=>by simp [zb4,zb5 (l:=r)]
theorem zcV {P:Prop}[Decidable P]{A B:Prop}(h1:P->A)(h2:¬ P->B):onC (decide P) A B:=by
 by_cases h:P
 ·rw [decide_eq_true h];exact h1 h
 ·rw [decide_eq_false h];exact h2 h
theorem ze9 {P:Prop}[Decidable P]{A B:Prop}(h1:¬ P->A)(h2:P->B):onC (!decide P) A B:=by
 by_cases h:P
 ·rw [decide_eq_true h];exact h2 h
 ·rw [decide_eq_false h];exact h1 h
theorem zjt {c:Bool}{A B:Prop}(h1:c=false->A)(h2:c=true->B):onC (!c) A B:=by
 cases c
 ·exact h1 rfl
 ·exact h2 rfl
theorem zmq {c:Bool}{A B:Prop}(h:c=true)(h1:A):onC c A B:=by subst h;exact h1
theorem zkt {c:Bool}{A B:Prop}(h:c=false)(h1:B):onC c A B:=by subst h;exact h1
theorem zcW {α:Type}{o:Option α}{a:α}{P:α->Prop}(e:o=some a)(h:P a):onO o P:=by subst e;exact h
theorem onA {st:List Int}{b:Int}{P:Dt->Prop}(h0:0<=b)(h1:b<st.length)(h:P (.int (zE st b))):onO (atI (st.map Dt.int) b) P:=zcW (zjI h0 h1) h
theorem zmp {L:List Dt}{a:Int}{P:Dt->Prop}(h0:0<=a)(h1:a<L.length)(h:∀ x∈L,P x):onO (atI L a) P:=by
 obtain ⟨x,e,hx⟩:=zlx h0 h1 h
 exact zcW e hx
section
variable {X:Cx}{Pn:Option zj}{M S:List Nat}{fr fr':Bool}{e a b c:Expr}{es:List Expr}{f fa fb fc g:Ev->Mo W}{pos p:Pos}{t u:Ev->Mo Bool}{fs gs:Ev->Mo (List W)}
theorem wE (h:f=g)(j:JE X Pn M fr e f):JE X Pn M fr e g:=h ▸ j
theorem wB (h:f=g)(j:JB X Pn M e f):JB X Pn M e g:=h ▸ j
theorem wT (h:t=u)(j:JT X Pn M e t):JT X Pn M e u:=h ▸ j
theorem wW (h:t=u)(j:JW X Pn M e t):JW X Pn M e u:=h ▸ j
theorem wO {f g:Ev->Mo (Option Int)}{e:Option Expr}(h:f=g)(j:JO X Pn M e f):JO X Pn M e g:=h ▸ j
theorem wG {f g:W->Ev->(Ev->Prop)->Prop}(h:f=g)(j:JG X S M e f):JG X S M e g:=h ▸ j
theorem wH {f g:List Dt->Ev->(Ev->Prop)->Prop}(h:f=g)(j:JGs X S M es f):JGs X S M es g:=h ▸ j
theorem wI {tg:Expr}{ow:Bool}(h:fs=gs)(j:JI X Pn M ow tg e fs):JI X Pn M ow tg e gs:=h ▸ j
theorem wS {s:Stmt}{f g:Ms}(h:f=g)(j:JS X Pn S M fr s f):JS X Pn S M fr s g:=h ▸ j
@[reducible] def zon (i:Nat):Ev->Mo W:=fun ρ n Q=>onV ρ i fun w=>Q w n
theorem zgH {i:Nat}:zmj i=zon i:=by funext ρ n Q;exact zgL.symm
theorem kv (i:Nat){x:Str}(hi:i∉M:=by decide)(hN:X.N[i]?=some x:=by rfl)(hv:Vis X.env.scope x:=by first | exact Or.inl rfl | exact Or.inr (Or.inl rfl) | exact Or.inr (Or.inr rfl))(hd:(x==("__debug__" : Str))=false:=by decide)
  (hcd:(x==("__classdict__" : Str))=false:=by decide):JE X Pn M false (.Name x pos) (zon i):=wE zgH (zoD i hi hN hv hd hcd)
theorem kb (i:Nat){x:Str}(hN:X.N[i]?=some x:=by rfl)(hv:Vis X.env.scope x:=by first | exact Or.inl rfl | exact Or.inr (Or.inl rfl) | exact Or.inr (Or.inr rfl))(hd:(x==("__debug__" : Str))=false:=by decide)
  (hcd:(x==("__classdict__" : Str))=false:=by decide):JB X Pn M (.Name x pos) (zon i):=wB zgH (zoA i hN hv hd hcd)
@[reducible] def znY (fa:Ev->Mo W):Ev->Mo Bool:=fun ρ n Q=>fa ρ n fun x m=>onB x fun c=>Q c m
theorem zp:zhF fa=znY fa:=by funext ρ n Q;simp only [zhF,znY,zcU]
@[reducible] def dAnd (t u:Ev->Mo Bool):Ev->Mo Bool:=fun ρ n Q=>t ρ n fun c m=>onC c (u ρ m Q) (Q false m)
@[reducible] def dOr (t u:Ev->Mo Bool):Ev->Mo Bool:=fun ρ n Q=>t ρ n fun c m=>onC c (Q true m) (u ρ m Q)
theorem xM:mOr t u=dOr t u:=by funext ρ n Q;simp only [mOr,dOr,zbv]
@[reducible] def dNot (t:Ev->Mo Bool):Ev->Mo Bool:=fun ρ n Q=>t ρ n fun c m=>onC c (Q false m) (Q true m)
theorem y4:zoQ t=dNot t:=by
 funext ρ n Q
 simp only [zoQ,dNot]
 congr 1
 funext c m
 cases c <;> rfl
@[reducible] def zlF (fa fb:Ev->Mo W):Ev->Mo W:=fun ρ n Q=>fa ρ n fun x m=>onB x fun c=>onC c (fb ρ m Q) (Q (.d (.bl false)) m)
theorem uO:zkd fa fb=zlF fa fb:=by funext ρ n Q;simp only [zkd,zlF,zbv,zcU]
@[reducible] def dOrV (fa fb:Ev->Mo W):Ev->Mo W:=fun ρ n Q=>fa ρ n fun x m=>onB x fun c=>onC c (Q (.d (.bl true)) m) (fb ρ m Q)
@[reducible] def zlJ (fa:Ev->Mo W):Ev->Mo W:=fun ρ n Q=>fa ρ n fun x m=>onB x fun c=>Q (.d (.bl (!c))) m
theorem zim:zkl fa=zlJ fa:=by funext ρ n Q;simp only [zkl,zlJ,zcU]
@[reducible] def dIf (t:Ev->Mo Bool) (fa fb:Ev->Mo W):Ev->Mo W:=fun ρ n Q=>t ρ n fun c m=>onC c (fa ρ m Q) (fb ρ m Q)
theorem zmi:mIf t fa fb=dIf t fa fb:=by funext ρ n Q;simp only [mIf,dIf,zbv]
@[reducible] def dI (C:Int->Int->Prop) (g:Int->Int->Dt):W->W->Mo W:=fun x y n Q=>onI x fun i=>onI y fun j=>C i j/\Q (.d (g i j)) n
theorem zoq {C:Int->Int->Prop}{g:Int->Int->Dt}:fI C g=dI C g:=by
 funext x y n Q
 simp only [dI,xN]
 exact propext ⟨fun ⟨i,j,e1,e2,h⟩=>⟨i,e1,j,e2,h⟩,fun ⟨i,e1,j,e2,h⟩=>⟨i,j,e1,e2,h⟩⟩
@[reducible] def dI0 (g:Int->Int->Dt):W->W->Mo W:=fun x y n Q=>onI x fun i=>onI y fun j=>Q (.d (g i j)) n
theorem zeo {g:Int->Int->Dt}:fI0 g=dI0 g:=by
 funext x y n Q
 simp only [dI0,xN]
 exact propext ⟨fun ⟨i,j,e1,e2,h⟩=>⟨i,e1,j,e2,h⟩,fun ⟨i,e1,j,e2,h⟩=>⟨i,j,e1,e2,h⟩⟩
theorem znK:F2 Pn false (rI0 fun i j=>.int (i+j)) (dI0 fun i j=>.int (i+j)):=zeo ▸ zpy
theorem zpx:F2 Pn false (rI0 fun i j=>.int (i - j)) (dI0 fun i j=>.int (i - j)):=zeo ▸ zpG
theorem zi1:F2 Pn false (rI zi5 fun i j=>.int (i * j)) (dI zi5 fun i j=>.int (i * j)):=zoq ▸ zpD
theorem u_lt:F2 Pn false (rI0 fun i j=>.bl (decide (i<j))) (dI0 fun i j=>.bl (decide (i<j))):=zeo ▸ v_lt
theorem zhx:F2 Pn false (rI0 fun i j=>.bl (decide (i<=j))) (dI0 fun i j=>.bl (decide (i<=j))):=zeo ▸ v_le
@[reducible] def zom:W->Mo W:=fun x n Q=>onI x fun i=>Q (.d (.int (-i))) n
theorem zhy:F1 Pn false (rU fun i=>.int (-i)) zom:=(show zov=zom by funext x n Q;simp only [zov,zom,xN]) ▸ zpF
@[reducible] def dEq:W->W->Mo W:=fun x y n Q=>onD x fun a=>onD y fun b=>onO (sEq a b) fun r=>Q (.d (.bl r)) n
@[reducible] def dNe:W->W->Mo W:=fun x y n Q=>onD x fun a=>onD y fun b=>onO (sEq a b) fun r=>Q (.d (.bl (!r))) n
theorem zlS:fNe=dNe:=by
 funext x y n Q
 simp only [fNe,dNe,zbw,za8]
 exact propext ⟨fun ⟨a,b,r,e1,e2,e3,h⟩=>⟨a,e1,b,e2,r,e3,h⟩,fun ⟨a,e1,b,e2,r,e3,h⟩=>⟨a,b,r,e1,e2,e3,h⟩⟩
theorem zlk:F2 Pn false rNe dNe:=zlS ▸ v_ne
@[reducible] def zog:W->W->Mo W:=fun x y n Q=>onD x fun a=>onD y fun b=>a.eqOk/\b.eqOk/\∀ r:Bool,(r=true↔a=b)->Q (.d (.bl r)) n
@[reducible] def zol:W->W->Mo W:=fun x y n Q=>onD x fun a=>onD y fun b=>a.eqOk/\b.eqOk/\∀ r:Bool,(r=true↔a=b)->Q (.d (.bl (!r))) n
theorem zjR:zop=zog:=by
 funext x y n Q
 simp only [zop,zog,zbw]
 exact propext ⟨fun ⟨a,b,e1,e2,h⟩=>⟨a,e1,b,e2,h⟩,fun ⟨a,e1,b,e2,h⟩=>⟨a,b,e1,e2,h⟩⟩
theorem zjV:zou=zol:=by
 funext x y n Q
 simp only [zou,zol,zbw]
 exact propext ⟨fun ⟨a,b,e1,e2,h⟩=>⟨a,e1,b,e2,h⟩,fun ⟨a,e1,b,e2,h⟩=>⟨a,b,e1,e2,h⟩⟩
theorem zpw:F2 Pn false zn2 zog:=zjR ▸ zpz
theorem zfs:F2 Pn false zn5 zol:=zjV ▸ zpE
@[reducible] def dIsB:W->W->Mo W:=fun x y n Q=>onB x fun a=>onB y fun b=>Q (.d (.bl (a==b))) n
@[reducible] def zdq:W->W->Mo W:=fun x y n Q=>onB x fun a=>onB y fun b=>Q (.d (.bl (a != b))) n
theorem ze1:zdA=zdq:=by
 funext x y n Q
 simp only [zdA,zdq,zcU]
 exact propext ⟨fun ⟨a,b,e1,e2,h⟩=>⟨a,e1,b,e2,h⟩,fun ⟨a,e1,b,e2,h⟩=>⟨a,b,e1,e2,h⟩⟩
theorem xy:F2 Pn false (fun x y H Q=>∃ a b,x = .bl a/\y = .bl b/\Q (.bl (a != b)) H) zdq:=ze1 ▸ zft
@[reducible] def dInI:W->W->Mo W:=fun x y n Q=>onI x fun b=>onS y fun l=>∃ ns:List Int,l=ns.map .int/\Q (.d (.bl (ns.contains b))) n
@[reducible] def zdr:W->W->Mo W:=fun x y n Q=>onI x fun b=>onS y fun l=>∃ ns:List Int,l=ns.map .int/\Q (.d (.bl (!ns.contains b))) n
theorem ze2:zdB=zdr:=by
 funext x y n Q
 simp only [zdB,zdr,xN,zjv]
 exact propext ⟨fun ⟨a,b,e1,e2,h⟩=>⟨a,e1,_,e2,b,rfl,h⟩,fun ⟨a,e1,l,e2,b,e,h⟩=>by subst e;exact ⟨a,b,e1,e2,h⟩⟩
theorem zeM {K:PySem.W.Frag}:F2 Pn false (rIn K true) zdr:=ze2 ▸ zi3
@[reducible] def xr:Bool->Bool->Bool
 | false,b=>b
 | true,b=>!b
@[reducible] def dInD (neg:Bool):W->W->Mo W:=fun x y n Q=>onD x fun d=>onS y fun ds=>d.eqOk/\(Dt.lst ds).eqOk/\∀ b:Bool,(b=true↔d∈ds)->Q (.d (.bl (xr neg b))) n
theorem zpJ {neg b:Bool}:(if neg then !b else b)=xr neg b:=by cases neg <;> rfl
@[reducible] def zoj:W->W->Mo W:=fun x y n Q=>onT x fun l=>onI y fun i=>onO (atI l i) fun d=>Q (.d d) n
@[reducible] def zoi:W->W->Mo W:=fun x y n Q=>onL x fun l=>onI y fun i=>onO (atI l i) fun d=>Q (.d d) n
theorem zjT:zos=zoj:=by
 funext x y n Q
 simp only [zos,zoj,zam,xN,za8]
 exact propext ⟨fun ⟨a,b,r,e1,e2,e3,h⟩=>⟨a,e1,b,e2,r,e3,h⟩,fun ⟨a,e1,b,e2,r,e3,h⟩=>⟨a,b,r,e1,e2,e3,h⟩⟩
theorem zjS:zor=zoi:=by
 funext x y n Q
 simp only [zor,zoi,zbx,xN,za8]
 exact propext ⟨fun ⟨a,b,r,e1,e2,e3,h⟩=>⟨a,e1,b,e2,r,e3,h⟩,fun ⟨a,e1,b,e2,r,e3,h⟩=>⟨a,b,r,e1,e2,e3,h⟩⟩
theorem zau {K:PySem.W.Frag}:F2 Pn false (zn4 K) zoj:=zjT ▸ zpB
theorem zeb {K:PySem.W.Frag}:F2 Pn false (zn3 K) zoi:=zjS ▸ zpA
@[reducible] def zjP:W->W->Mo W:=fun x y n Q=>onT x fun l=>onT y fun m=>l.length+m.length<=lim/\Q (.d (.tup (l++m))) n
@[reducible] def zjO:W->W->Mo W:=fun x y n Q=>onL x fun l=>onL y fun m=>l.length+m.length<=lim/\Q (.d (.lst (l++m))) n
theorem zh7:zdz=zjP:=by
 funext x y n Q
 simp only [zdz,zjP,zam]
 exact propext ⟨fun ⟨a,b,e1,e2,h⟩=>⟨a,e1,b,e2,h⟩,fun ⟨a,e1,b,e2,h⟩=>⟨a,b,e1,e2,h⟩⟩
theorem zh6:zjQ=zjO:=by
 funext x y n Q
 simp only [zjQ,zjO,zbx]
 exact propext ⟨fun ⟨a,b,e1,e2,h⟩=>⟨a,e1,b,e2,h⟩,fun ⟨a,e1,b,e2,h⟩=>⟨a,b,e1,e2,h⟩⟩
theorem zjD {K:PySem.W.Frag}:F2 Pn false (zg1 K) zjP:=zh7 ▸ znR
theorem zhv:F2 Pn true zla zjO:=zh6 ▸ znQ
@[reducible] def dRepT:W->W->Mo W:=fun x y n Q=>onT x fun l=>onI y fun j=>(1<=j/\j<=1000000/\l.length * j.toNat<=lim)/\Q (.d (.tup (List.replicate j.toNat l).flatten)) n
@[reducible] def dRepL:W->W->Mo W:=fun x y n Q=>onL x fun l=>onI y fun j=>(0<=j/\j<=1000000/\l.length * j.toNat<=lim)/\Q (.d (.lst (List.replicate j.toNat l).flatten)) n
@[reducible] def zok:List W->Mo W:=fun ws n Q=>on1 ws fun x=>onO (lenD x) fun k=>Q (.d (.int (k:Int))) n
theorem zjU:zot=zok:=by
 funext ws n Q
 simp only [zot,zok,za7,za8]
 exact propext ⟨fun ⟨x,k,e,e2,h⟩=>⟨x,e,k,e2,h⟩,fun ⟨x,e,k,e2,h⟩=>⟨x,k,e,e2,h⟩⟩
theorem zah {K:PySem.W.Frag}:FL Pn false (fun xs H Q=>∃ x n,xs=[x]/\znV K x H n/\Q (.int n) H) zok:=zjU ▸ zpC
@[reducible] def dAbs:List W->Mo W:=fun ws n Q=>on1 ws fun x=>onI x fun i=>Q (.d (.int (if i<0 then -i else i))) n
@[reducible] def dMin:List W->Mo W:=fun ws n Q=>on2 ws fun x y=>onI x fun i=>onI y fun j=>Q (.d (.int (if j<i then j else i))) n
@[reducible] def dMax:List W->Mo W:=fun ws n Q=>on2 ws fun x y=>onI x fun i=>onI y fun j=>Q (.d (.int (if j > i then j else i))) n
@[reducible] def dAll:List W->Mo W:=fun ws n Q=>on1 ws fun x=>onL x fun l=>∃ bs:List Bool,l=bs.map .bl/\Q (.d (.bl (bs.all id))) n
@[reducible] def zlI:List W->Mo W:=fun ws n Q=>on1 ws fun x=>onS x fun l=>Q (.d (.lst l)) n
@[reducible] def zjg:List W->Mo W:=fun ws n Q=>on1 ws fun x=>onS x fun l=>Q (.d (.tup l)) n
theorem znt {ws:List W}{P:List Dt->Prop}:(∃ l,(ws=[.d (.lst l)]\/ws=[.d (.tup l)])/\P l)=on1 ws fun x=>onS x P:=by
 simp only [za7,zjv]
 exact propext ⟨fun ⟨l,e,h⟩=>e.elim (fun e=>⟨_,e,l,.inl rfl,h⟩) fun e=>⟨_,e,l,.inr rfl,h⟩,fun ⟨x,e,l,e2,h⟩=>⟨l,by rcases e2 with e2 | e2 <;> subst e2 <;> simp [e],h⟩⟩
theorem znL {K:PySem.W.Frag}:FL Pn true (zg3 K) zlI:=(show zlR=zlI by funext ws n Q;exact znt) ▸ znS
theorem zck {K:PySem.W.Frag}:FL Pn false (zd2 K) zjg:=(show zjk=zjg by funext ws n Q;exact znt) ▸ zln
@[reducible] def zfU:List W->Mo W:=fun ws n Q=>on1 ws fun x=>onT x fun l=>∃ ps:List (Int×Dt),l=ps.map prD/\(ps.map (·.1)).Nodup/\ps.length<=1000/\Q (.dk (ps.map kvD)) n
theorem zf8:zf7=zfU:=by
 funext ws n Q
 simp only [zf7,zfU,za7,zam]
 exact propext ⟨fun ⟨x,e,h⟩=>⟨_,e,_,rfl,x,rfl,h⟩,fun ⟨x,e,k,e2,l,e3,h⟩=>by subst e3 e2;exact ⟨l,e,h⟩⟩
theorem zhw:FL Pn true zg2 zfU:=zf8 ▸ zll
@[reducible] def dInt1:List W->Mo W:=fun ws n Q=>on1 ws fun x=>match x with
 | .d (.int i)=>Q (.d (.int i)) n
 | .d (.bl b)=>Q (.d (.int (if b then 1 else 0))) n
 | _=>False
@[reducible] def dSortI:List W->Mo W:=fun ws n Q=>on1 ws fun x=>onL x fun l=>∃ ns:List Int,l=ns.map .int/\ns.length<64/\∀ ns':List Int,ns'.Perm ns->ns'.Pairwise (·<=·)->Q (.d (.lst (ns'.map .int))) n
@[reducible] def zfV:List W->Mo W:=fun ws n Q=>on1 ws fun x=>onL x fun l=>∃ (sts:List (List Int)) (m:Nat),l=sts.map stD/\1<=m/\(∀ st∈sts,st.length=m)/\sts.Nodup/\∀ sts':List (List Int),sts'.Perm sts->(sts'.Pairwise fun a b=>HT.lexLt a b=true)->Q (.d (zbj sts')) n
theorem zga:zf9=zfV:=by
 funext ws n Q
 simp only [zf9,zfV,za7,zbx]
 exact propext ⟨fun ⟨x,m,e,h⟩=>⟨_,e,_,rfl,x,m,rfl,h⟩,fun ⟨x,e,k,e2,l,m,e3,h⟩=>by subst e3 e2;exact ⟨l,m,e,h⟩⟩
theorem zhz:FL Pn true zlb zfV:=zga ▸ zlm
@[reducible] def dListD:List W->Mo W:=fun ws n Q=>on1 ws fun x=>onE x fun kvs=>((kvs.map (·.1)).Nodup->Q (.d (.lst ((kvs.map (·.1)).map stD))) n)
end
open PySem.Spec
section
variable {fa fb fc f fk fd fv:Ev->Mo W}{t u:Ev->Mo Bool}{fs gs:Ev->Mo (List W)}
@[reducible] def zlK (fa:Ev->Mo W):Ev->Mo (Option Int):=fun ρ n Q=>fa ρ n fun x m=>onI x fun i=>Q (some i) m
theorem zbU:zkm fa=zlK fa:=by funext ρ n Q;simp only [zkm,zlK,xN]
@[reducible] def dSlT (fa:Ev->Mo W) (fl fh:Ev->Mo (Option Int)):Ev->Mo W:=fun ρ n Q=>fa ρ n fun x n1=>fl ρ n1 fun lo n2=>fh ρ n2 fun hi n3=>onT x fun l=>Q (.d (.tup (uj l lo hi))) n3
theorem zgG {fl fh:Ev->Mo (Option Int)}:zoS fa fl fh=dSlT fa fl fh:=by funext ρ n Q;simp only [zoS,dSlT,zam]
@[reducible] def dSlL (fa:Ev->Mo W) (fl fh:Ev->Mo (Option Int)):Ev->Mo W:=fun ρ n Q=>fa ρ n fun x n1=>fl ρ n1 fun lo n2=>fh ρ n2 fun hi n3=>onL x fun l=>Q (.d (.lst (uj l lo hi))) n3
theorem zkn {fl fh:Ev->Mo (Option Int)}:zoR fa fl fh=dSlL fa fl fh:=by funext ρ n Q;simp only [zoR,dSlL,zbx]
@[reducible] def dRevT (fa:Ev->Mo W):Ev->Mo W:=fun ρ n Q=>fa ρ n fun x m=>onT x fun l=>Q (.d (.tup l.reverse)) m
@[reducible] def dRevL (fa:Ev->Mo W):Ev->Mo W:=fun ρ n Q=>fa ρ n fun x m=>onL x fun l=>Q (.d (.lst l.reverse)) m
@[reducible] def zlG (fd fk:Ev->Mo W):Ev->Mo W:=fun ρ n Q=>fd ρ n fun x n1=>fk ρ n1 fun y n2=>onK x fun kvs=>onO (zlt y) fun k=>onO (xl kvs k) fun d=>Q (.d d) n2
theorem zil:zkg fd fk=zlG fd fk:=by
 funext ρ n Q
 simp only [zkg,zlG,zgK,za8]
 congr 1;funext x n1;congr 1;funext y n2
 exact propext ⟨fun ⟨a,b,r,e1,e2,e3,h⟩=>⟨a,e1,b,e2,r,e3,h⟩,fun ⟨a,e1,b,e2,r,e3,h⟩=>⟨a,b,r,e1,e2,e3,h⟩⟩
@[reducible] def zof (neg:Bool) (fk fd:Ev->Mo W):Ev->Mo W:=fun ρ n Q=>fk ρ n fun y n1=>fd ρ n1 fun x n2=>onK x fun kvs=>onO (zlt y) fun k=>Q (.d (.bl (xr neg (xl kvs k).isSome))) n2
theorem zkh {neg:Bool}:zmh neg fk fd=zof neg fk fd:=by
 funext ρ n Q
 simp only [zmh,zof,zgK,za8,zpJ]
 congr 1;funext x n1;congr 1;funext y n2
 exact propext ⟨fun ⟨a,b,e1,e2,h⟩=>⟨a,e1,b,e2,h⟩,fun ⟨a,e1,b,e2,h⟩=>⟨a,b,e1,e2,h⟩⟩
theorem zin {neg:Bool}:zhF (zmh neg fk fd)=znY (zof neg fk fd):=by rw [zkh,zp]
@[reducible] def dFn (k:Nat) (F:List W->Mo W) (fs:Ev->Mo (List W)):Ev->Mo W:=fun ρ n Q=>fs ρ n fun ws m=>zb4 k ws (F ws m Q)
theorem zC {k:Nat}{F:List W->Mo W}:mFn k F fs=dFn k F fs:=by funext ρ n Q;simp only [mFn,dFn,zb5]
@[reducible] def dFnB (k:Nat) (fr:Bool) (F:List W->Mo W) (fs:Ev->Mo (List W)):Ev->Mo W:=fun ρ n Q=>fs ρ n fun ws m=>zb4 k ws (F ws m fun w m'=>W.flat fr w=true/\Q w m')
@[reducible] def eN (i:Nat):W->Ev->(Ev->Prop)->Prop:=fun w ρ Q=>onP ρ i w Q
theorem yw {i:Nat}:gN i=eN i:=by funext w ρ Q;exact zju.symm
@[reducible] def eNl:List Dt->Ev->(Ev->Prop)->Prop:=fun ds ρ Q=>match ds with | []=>Q ρ | _=>False
theorem zbp:gNl=eNl:=by
 funext ds ρ Q
 cases ds with
 | nil=>simp [gNl,eNl]
 | cons _ _=>simp [gNl,eNl]
@[reducible] def eCn (g:W->Ev->(Ev->Prop)->Prop) (u:List Dt->Ev->(Ev->Prop)->Prop):List Dt->Ev->(Ev->Prop)->Prop:=fun ds ρ Q=>match ds with | d::r=>g (.d d) ρ fun ρ'=>u r ρ' Q | []=>False
theorem xJ {g:W->Ev->(Ev->Prop)->Prop}{u:List Dt->Ev->(Ev->Prop)->Prop}:gCn g u=eCn g u:=by
 funext ds ρ Q
 cases ds with
 | nil=>simp [gCn,eCn]
 | cons d r=>exact propext ⟨fun ⟨d',r',e,h⟩=>by cases e;exact h,fun h=>⟨d,r,rfl,h⟩⟩
@[reducible] def eTp (n:Nat) (u:List Dt->Ev->(Ev->Prop)->Prop):W->Ev->(Ev->Prop)->Prop:=fun w ρ Q=>onT w fun ds=>zb4 n ds (u ds ρ Q)
theorem zbq {n:Nat}{u:List Dt->Ev->(Ev->Prop)->Prop}:gTp n u=eTp n u:=by funext w ρ Q;simp only [gTp,eTp,zam,zb5]
@[reducible] def dItL (fa:Ev->Mo W):Ev->Mo (List W):=fun ρ n Q=>fa ρ n fun x m=>onL x fun l=>Q (l.map W.d) m
@[reducible] def dItT (fa:Ev->Mo W):Ev->Mo (List W):=fun ρ n Q=>fa ρ n fun x m=>onT x fun l=>Q (l.map W.d) m
theorem zgF:zoL fa=dItL fa:=by funext ρ n Q;simp only [zoL,dItL,zbx]
theorem ux:zoN fa=dItT fa:=by funext ρ n Q;simp only [zoN,dItT,zam]
@[reducible] def dItR (fs:Ev->Mo (List W)):Ev->Mo (List W):=fun ρ n Q=>fs ρ n fun ws m=>on1 ws fun x=>onI x fun j=>(j<=1000000/\-1000000<=j)/\Q (zfe 0 j.toNat) m
theorem zac:zoM fs=dItR fs:=by
 funext ρ n Q
 simp only [zoM,dItR,za7,xN]
 congr 1;funext ws m
 exact propext ⟨fun ⟨j,e,h1,h2,h⟩=>⟨_,e,j,rfl,⟨h1,h2⟩,h⟩,fun ⟨x,e,j,e2,⟨h1,h2⟩,h⟩=>by subst e2;exact ⟨j,e,h1,h2,h⟩⟩
@[reducible] def dItR2 (fs:Ev->Mo (List W)):Ev->Mo (List W):=fun ρ n Q=>fs ρ n fun ws m=>on2 ws fun x y=>onI x fun i=>onI y fun j=>(j<=1000000/\-1000000<=j/\i<=1000000/\-1000000<=i)/\Q (zfe i (j - i).toNat) m
@[reducible] def dItE (fs:Ev->Mo (List W)):Ev->Mo (List W):=fun ρ n Q=>fs ρ n fun ws m=>on1 ws fun x=>onT x fun l=>Q (enW 0 l) m
@[reducible] def dItEL (fs:Ev->Mo (List W)):Ev->Mo (List W):=fun ρ n Q=>fs ρ n fun ws m=>on1 ws fun x=>onL x fun l=>Q (enW 0 l) m
theorem zdM:zoK fs=dItE fs:=by
 funext ρ n Q
 simp only [zoK,dItE,za7,zam]
 congr 1;funext ws m
 exact propext ⟨fun ⟨l,e,h⟩=>⟨_,e,l,rfl,h⟩,fun ⟨x,e,l,e2,h⟩=>by subst e2;exact ⟨l,e,h⟩⟩
@[reducible] def dItZ (fs:Ev->Mo (List W)):Ev->Mo (List W):=fun ρ n Q=>fs ρ n fun ws m=>on2 ws fun x y=>onT x fun l=>onT y fun k=>l.length=k.length/\Q (ziW l k) m
@[reducible] def dItZM (fs:Ev->Mo (List W)):Ev->Mo (List W):=fun ρ n Q=>fs ρ n fun ws m=>on2 ws fun x y=>onL x fun l=>onT y fun k=>l.length=k.length/\Q (ziW l k) m
@[reducible] def dItZL (fs:Ev->Mo (List W)):Ev->Mo (List W):=fun ρ n Q=>fs ρ n fun ws m=>on2 ws fun x y=>onL x fun l=>onL y fun k=>Q (ziW l k) m
theorem zkj:zoO fs=dItZ fs:=by
 funext ρ n Q
 simp only [zoO,dItZ,zmo,zam]
 congr 1;funext ws m
 exact propext ⟨fun ⟨i,j,e,h⟩=>⟨_,_,e,i,rfl,j,rfl,h⟩,fun ⟨x,y,e,i,e1,j,e2,h⟩=>by subst e1 e2;exact ⟨i,j,e,h⟩⟩
@[reducible] def dIfS (t:Ev->Mo Bool) (f g:Ms):Ms:=fun ρ n k=>t ρ n fun c m=>onC c (blk f ρ m k) (blk g ρ m k)
theorem zM {f g:Ms}:zoJ t f g=dIfS t f g:=by funext ρ n k;simp only [zoJ,dIfS,zbv]
@[reducible] def dRetO (i:Nat):Ms:=fun ρ n k=>onV ρ i fun w=>k.rt w n
@[reducible] def dSet (i:Nat) (f:Ev->Mo W):Ms:=fun ρ n k=>f ρ n fun w m=>onP ρ i w fun ρ'=>k.nx ρ' m
theorem zz {i:Nat}:zke f (gN i)=dSet i f:=by show zke f (gN i)=zke f (eN i);rw [yw]
@[reducible] def dOwn (i:Nat) (f:Ev->Mo W):Ms:=fun ρ n k=>f ρ n fun w m=>onC (W.mut w) (onP ρ i w fun ρ'=>k.nx ρ' m) False
@[reducible] def dApp (i:Nat) (f:Ev->Mo W):Ms:=fun ρ n k=>onV ρ i fun v=>onL v fun l=>f ρ n fun w m=>onD w fun d=>l.length<lim/\onP ρ i (.d (.lst (l++[d]))) fun ρ'=>k.nx ρ' m
@[reducible] def dExt (i:Nat) (f:Ev->Mo W):Ms:=fun ρ n k=>onV ρ i fun v=>onL v fun l=>f ρ n fun w m=>onL w fun l2=>l.length+l2.length<=lim/\onP ρ i (.d (.lst (l++l2))) fun ρ'=>k.nx ρ' m
@[reducible] def dIns (i:Nat) (fk f:Ev->Mo W):Ms:=fun ρ n k=>onV ρ i fun v=>onL v fun l=>fk ρ n fun y m=>f ρ m fun w m2=>onD w fun d=>onI y fun j=>(0<=j/\j<=l.length/\l.length<lim)/\onP ρ i (.d (.lst (insD l j.toNat d))) fun ρ'=>k.nx ρ' m2
@[reducible] def dPopS (i:Nat) (fk:Ev->Mo W):Ms:=fun ρ n k=>onV ρ i fun v=>onL v fun l=>fk ρ n fun y m=>onI y fun j=>(0<=j/\j<l.length/\l.length<=lim)/\onP ρ i (.d (.lst (l.eraseIdx j.toNat))) fun ρ'=>k.nx ρ' m
@[reducible] def znX (i:Nat):Ms:=fun ρ n k=>onV ρ i fun v=>onL v fun l=>onP ρ i (.d (.lst l.reverse)) fun ρ'=>k.nx ρ' n
@[reducible] def dPut (i:Nat) (fk f:Ev->Mo W):Ms:=fun ρ n k=>onV ρ i fun v=>onL v fun l=>f ρ n fun w m=>fk ρ m fun y m2=>onD w fun d=>onI y fun j=>(0<=j/\j<l.length)/\onP ρ i (.d (.lst (l.set j.toNat d))) fun ρ'=>k.nx ρ' m2
@[reducible] def onSt (w:W) (P:List Int->Prop):Prop:=∃ st,w = .d (stD st)/\P st
@[reducible] def dDGetT (fd fk:Ev->Mo W):Ev->Mo W:=fun ρ n Q=>fd ρ n fun x n1=>fk ρ n1 fun y n2=>onE x fun kvs=>∃ st,y = .d (stD st)/\onO (xl kvs st) fun d=>Q (.d d) n2
@[reducible] def dDPutT (i:Nat) (fk f:Ev->Mo W):Ms:=fun ρ n k=>onV ρ i fun v=>onE v fun kvs=>f ρ n fun w m=>fk ρ m fun y m2=>onD w fun d=>∃ st,y = .d (stD st)/\kvs.length<lim/\onP ρ i (.dt (zpg kvs st d)) fun ρ'=>k.nx ρ' m2
@[reducible] def dMove (i j:Nat):Ms:=fun ρ n k=>onV ρ j fun w=>onN ρ j fun ρ1=>onP ρ1 i w fun ρ'=>k.nx ρ' n
@[reducible] def dPar (i j:Nat) (fs:Ev->Mo (List W)):Ms:=fun ρ n k=>fs ρ n fun ws m=>on2 ws fun w u=>onP ρ i w fun ρ1=>onP ρ1 j u fun ρ'=>k.nx ρ' m
@[reducible] def dIsi (B:Dt->Bool) (f:Ev->Mo W):Ev->Mo W:=fun ρ n Q=>f ρ n fun w m=>onD w fun d=>Q (.d (.bl (B d))) m
theorem zab {B:Dt->Bool}:zki B f=dIsi B f:=by funext ρ n Q;simp only [zki,dIsi,zbw]
@[reducible] def zem (fs:Ev->Mo (List W)):Ev->Mo W:=fun ρ n Q=>fs ρ n fun ws m=>on1 ws fun x=>onI x fun j=>(0<=j/\j<=1000)/\Q (.d (.lst (zha j.toNat))) m
@[reducible] def zlL (fs:Ev->Mo (List W)):Ev->Mo W:=fun ρ n Q=>fs ρ n fun ws m=>on1 ws fun x=>onI x fun j=>(0<=j/\j<=1000)/\Q (.d (.tup (zha j.toNat))) m
theorem znk {ws:List W}{P:Nat->Prop}:(∃ j:Nat,ws=[.d (.int (j:Int))]/\j<=1000/\P j)=on1 ws fun x=>onI x fun j=>(0<=j/\j<=1000)/\P j.toNat:=by
 simp only [za7,xN]
 exact propext ⟨fun ⟨j,e,h1,h⟩=>⟨_,e,_,rfl,⟨by lia,by lia⟩,by simpa using h⟩,fun ⟨x,e,j,e2,⟨h1,h2⟩,h⟩=>⟨j.toNat,by subst e2;rw [e];simp;lia,by lia,h⟩⟩
theorem za1:zbT fs=zem fs:=by
 funext ρ n Q
 simp only [zbT,zem]
 congr 1;funext ws m
 exact znk (P:=fun j=>Q (.d (.lst (zha j))) m)
@[reducible] def dTru (f:Ev->Mo W):Ev->Mo Bool:=fun ρ n Q=>f ρ n fun w m=>onO (truD w) fun b=>Q b m
@[reducible] def zfT (F G:W->W->Mo W) (fa fb fc:Ev->Mo W):Ev->Mo W:=fun ρ n Q=>fa ρ n fun x n1=>fb ρ n1 fun y n2=>F x y n2 fun z n3=>onB z fun k=>onC k (fc ρ n3 fun u n4=>G y u n4 Q) (Q (.d (.bl false)) n3)
theorem za0 {F G:W->W->Mo W}:zbu F G fa fb fc=zfT F G fa fb fc:=by funext ρ n Q;simp only [zbu,zfT,zcU,zbv]
theorem zey {F G:W->W->Mo W}:zhF (zbu F G fa fb fc)=znY (zfT F G fa fb fc):=by rw [za0,zp]
theorem zjM {α:Type}{l:List W}{ρ0:Ev}{n:Nat}{mg:W->Ev->(Ev->Prop)->Prop}{ft:Ev->Mo Bool}{fe:Ev->Mo W}{Q:W->Nat->Prop}(xs:List α)(toW:α->W)(hl:l=xs.map toW)(J:Ev->Prop)(P:α->Bool)(E:α->Dt)(hlim:xs.length<=lim)(j0:J ρ0)
  (h:∀ a∈xs,∀ ρ',J ρ'->∀ C:Ev->Nat->Option Dt->Prop,(∀ {ρ1},P a=true->J ρ1->C ρ1 n (some (E a)))->(∀ {ρ1},P a=false->J ρ1->C ρ1 n none)->mg (toW a) ρ' fun ρ1=>ft ρ1 n fun b n2=>onC b (fe ρ1 n2 fun x n3=>onD x fun d=>C ρ1 n3 (some d)) (C ρ1 n2 none))
  (fin:Q (.d (.lst ((xs.filter P).map E))) n):zfK mg ft fe ρ0 Q l n:=by
 refine zfL xs toW hl J P E hlim j0 (fun a ha ρ' hj C hC=>?_) fin
 have:=h a ha ρ' hj C (fun {ρ1} e z=>by have:=hC ρ1 z;rwa [if_pos e] at this) fun {ρ1} e z=>by have:=hC ρ1 z;rwa [if_neg (by rw [e];decide)] at this
 simp only [zbv,zbw] at this
 exact this
theorem zaJ {α:Type}{l:List W}{ρ0:Ev}{n:Nat}{mg:W->Ev->(Ev->Prop)->Prop}{fe:Ev->Mo W}{Q:W->Nat->Prop}(xs:List α)(toW:α->W)(hl:l=xs.map toW)(J:Ev->Prop)(E:α->Dt)(hlim:xs.length<=lim)(j0:J ρ0)
  (h:∀ a∈xs,∀ ρ',J ρ'->∀ C:Ev->Nat->Dt->Prop,(∀ {ρ1},J ρ1->C ρ1 n (E a))->mg (toW a) ρ' fun ρ1=>fe ρ1 n fun x n3=>onD x fun d=>C ρ1 n3 d)
  (fin:Q (.d (.lst (xs.map E))) n):zfK mg zoV fe ρ0 Q l n:=by
 refine zhZ xs toW hl J E hlim j0 (fun a ha ρ' hj C hC=>?_) fin
 have:=h a ha ρ' hj C fun {ρ1} z=>hC ρ1 z
 simp only [zbw] at this
 exact this
end
open PySem.Spec
@[reducible] def rep:Nat->(Ev->Prop)->Prop
 | 0,Q=>Q []
 | k+1,Q=>rep k fun ρ=>Q (none::ρ)
@[reducible] def beg:List W->Nat->(Ev->Prop)->Prop
 | [],r,Q=>rep r Q
 | w::ws,r,Q=>beg ws r fun ρ=>Q (some w::ρ)
theorem zg8:∀ {r:Nat} {Q:Ev->Prop},rep r Q=Q (List.replicate r none)
 | 0,Q=>rfl
 | r+1,Q=>by rw [rep,zg8];rfl
theorem zjc:∀ {ws:List W} {r:Nat} {Q:Ev->Prop},beg ws r Q=Q (ws.map some++List.replicate r none)
 | [],r,Q=>by rw [beg,zg8];rfl
 | w::ws,r,Q=>by rw [beg,zjc];rfl
theorem zmm {P:Program}{w:World}{K:PySem.W.Frag}{mg:Str->Option Value}{base:Heap}{qual:Str}{st:Stmt}{f:Addr}{fd:FuncData}{N ps:List Str}{k m:Nat}{fr:Bool}{F:Option zj->List W->Mo W}(M:List Nat)(r:Nat)(okq:(∀ vs H Q E,spV m fr F vs H Q E->vs.length=ps.length)->(∀ (cdv:Value) (A:Around) (outer:List Env) (s:Shared) (H:Hp) (vs:List V) (Q:VK) (E:XK),Room k (A.deeper (PyProof.Rows.envOfC qual (za st) s.heap.objs.size f cdv))->spV m fr F vs H Q E->
   ∃ t,QSs (zde CX0 P w K mg base N qual (za st) f cdv A outer s H E).nox (zi st) t/\t { nx:=fun _ H'=>Q .non H',rt:=Q } (L2.xH N vs) H)->FnOk P w K mg base CX0 (k+1) f fd ps (spV m fr F)) (hm:m=ps.length) (hM:∀ i∈M,m<=i) (hN:N.length=m+r)
  (hbody:∀ (cdv:Value) (A:Around) (outer:List Env) (s:Shared) (H:Hp) (E:XK) (Pn:Option zj),Room k (A.deeper (PyProof.Rows.envOfC qual (za st) s.heap.objs.size f cdv))->
   ∃ fs,JSs (zde CX0 P w K mg base N qual (za st) f cdv A outer s H E).nox Pn [] M fr (zi st) fs/\∀ ws n R,F Pn ws n R->beg ws r fun ρ=>fs ρ n { nx:=fun _ n'=>onC fr False (R (.d .non) n'),rt:=R }):FnOk P w K mg base CX0 (k+1) f fd ps (spV m fr F):=by
 refine zml M okq hm hM fun cdv A outer s H E Pn hr=>?_
 obtain ⟨fs,h1,h2⟩:=hbody cdv A outer s H E Pn hr
 refine ⟨fs,h1,fun ws n R hl hF=>?_⟩
 have:=h2 ws n R hF
 rw [zjc] at this
 have e:uW N ws=ws.map some++List.replicate r none:=by unfold uW;rw [hN,hl,Nat.add_sub_cancel_left]
 rw [e]
 have e2:(fun (_:Ev) (n':Nat)=>onC fr False (R (.d .non) n'))=fun _ n'=>fr=false/\R (.d .non) n':=by
  funext _ n'
  cases fr <;> simp
 rw [<- e2]
 exact this
theorem Fun.okW {P:Program}{w:World}{K:PySem.W.Frag}{mg:Str->Option Value}{base:Heap}{x qual:Str}{st:Stmt}{f:Addr}{fd:FuncData}{N ps:List Str}{k m:Nat}{fr:Bool}{F:Option zj->List W->Mo W}(M:List Nat)(r:Nat)(Fu:Fun K x qual st f fd)(S:FnScope N ps (za st))(hm:m=ps.length)(hM:∀ i∈M,m<=i)(hN:N.length=m+r)
  (hbody:∀ (cdv:Value) (A:Around) (outer:List Env) (s:Shared) (H:Hp) (E:XK) (Pn:Option zj),Room k (A.deeper (PyProof.Rows.envOfC qual (za st) s.heap.objs.size f cdv))->
   ∃ fs,JSs (zde CX0 P w K mg base N qual (za st) f cdv A outer s H E).nox Pn [] M fr (zi st) fs/\∀ ws n R,F Pn ws n R->beg ws r fun ρ=>fs ρ n { nx:=fun _ n'=>onC fr False (R (.d .non) n'),rt:=R }):FnOk P w K mg base CX0 (k+1) f fd ps (spV m fr F):=zmm M r (fun l b=>Fun.okQ Fu S l b) hm hM hN hbody
@[reducible] def dItS (i:Nat):Ev->Mo (List W):=fun ρ n Q=>onV ρ i fun x=>onS x fun l=>Q (l.map W.d) n
theorem znj {fs:Ms}{a b:Option W}{r n:Nat}{k:Kt}(h:rep r fun ρ=>fs (a::b::ρ) n k):fs (a::b::List.replicate r none) n k:=by rw [zg8] at h;exact h
open PySem.Spec
theorem zjK {st:List Int}{b x:Int}(b0:0<=b)(hz:st.length<=1000):uj (st.map Dt.int) none (some b)++[Dt.int x]++uj (st.map Dt.int) (some (b+1)) none=(chg st b x).map Dt.int:=by
 have key:∀ z:W,zdz (.d (.tup (uj (st.map Dt.int) none (some b)))) (.d (.tup [.int x])) 0 (fun w m=>zdz w (.d (.tup (uj (st.map Dt.int) (some (b+1)) none))) m fun w' _=>w' = .d (stD (chg st b x))):=fun z=>zjJ b0 hz rfl
 obtain ⟨l,m,e1,e2,_,l2,m2,e3,e4,_,h⟩:=key (.d .non)
 cases e1
 cases e2
 cases e3
 cases e4
 simpa using h
theorem zhW {st:List Int}{b:Int}{x:Dt}(hz:st.length<=1000):(uj (st.map Dt.int) none (some b)).length+[x].length<=lim:=by
 have:=zaN (st.map Dt.int) none (some b)
 rw [List.length_map] at this
 exact Nat.le_trans (by simp;lia:_<=1001) (by decide)
theorem zhX {st:List Int}{b c:Int}{x:Dt}(hz:st.length<=1000):(uj (st.map Dt.int) none (some b)++[x]).length+(uj (st.map Dt.int) (some c) none).length<=lim:=by
 have h1:=zaN (st.map Dt.int) none (some b)
 have h2:=zaN (st.map Dt.int) (some c) none
 rw [List.length_map] at h1 h2
 rw [List.length_append]
 exact Nat.le_trans (by simp;lia:_<=2001) (by decide)
open PySem.Spec
def scR (mg:W->Ev->(Ev->Prop)->Prop)(ft:Ev->Mo Bool)(fe:Ev->Mo W)(ρ0:Ev)(Q:List (List Int)->Nat->Prop):List W->Nat->Prop:=fun l n1=>∃ I:Nat->Ev->Nat->List (List Int)->Prop,I 0 ρ0 n1 []/\
 (∀ i w ρ' n' acc,l[i]?=some w->I i ρ' n' acc->mg w ρ' fun ρ1=>ft ρ1 n' fun b n2=>if b=true then fe ρ1 n2 fun x n3=>∃ st,x = .d (stD st)/\I (i+1) ρ1 n3 (acc++[st]) else I (i+1) ρ1 n2 acc)/\
 (∀ i ρ' n' acc ks,I i ρ' n' acc->List.Nodup ks->(∀ z∈ks,z∈acc)->ks.length<300)/\
 ∀ ρ' n' acc ks,I l.length ρ' n' acc->List.Nodup ks->(∀ z,z∈ks↔z∈acc)->Q ks n'
@[reducible] def zoT (fi:Ev->Mo (List W)) (mg:W->Ev->(Ev->Prop)->Prop) (ft:Ev->Mo Bool) (fe:Ev->Mo W) (cix:List (Option Nat)):Ev->Mo W:=fun ρ n Q=>fi ρ n (scR mg ft fe (zfH ρ cix) fun ks n'=>∃ m,ks.length<64/\1<=m/\(∀ st∈ks,st.length=m)/\∀ l':List (List Int),l'.Perm ks->(l'.Pairwise fun a b=>HT.lexLt a b=true)->Q (.d (zbj l')) n')
section
variable {X:Cx}{Pn:Option zj}{M S:List Nat}{fr fr':Bool}{pos p:Pos}
end
open PySem.Spec
@[reducible] def zoh (fd fk fz:Ev->Mo W):Ev->Mo W:=fun ρ n Q=>fd ρ n fun x n1=>onK x fun kvs=>fk ρ n1 fun y n2=>fz ρ n2 fun z n3=>onO (zlt y) fun k=>onI z fun i=>Q (.d ((xl kvs k).getD (.int i))) n3
section
variable {X:Cx}{Pn:Option zj}{M:List Nat}{a b c:Expr}{fa fb fc:Ev->Mo W}{apos cpos:Pos}
theorem zjr (hu:X.A.units+1<cLine)(ha:JB X Pn M a fa)(hb:JB X Pn M b fb)(hc:JB X Pn M c fc)
  (base:attributeBase a "get" X.env (eval a X.env)=eval a X.env:=by rfl)
  (few:((backTo cpos (starEach [b,c] X.env)).all (fun x=>!x.1)&&(backToKw cpos (keywordEach [] X.env)).all (fun x=>x.1.isSome)
   && decide (([b,c]:List Expr).length+([]:List Keyword).length+(if ([]:List Keyword).isEmpty then 0 else 1)<30))=true:=by rfl)
  (line:(apos.endLine==cpos.line)=true:=by rfl) (trees:backTo cpos (starEach [b,c] X.env)=[(false,eval b X.env),(false,eval c X.env)]:=by rfl) :
  JE X Pn M false (.Call (.Attribute a "get" apos) [b,c] [] cpos) (zoh fa fb fc):=by
 obtain ⟨ta,qa,ra⟩:=ha.ex
 obtain ⟨tb,qb,rb⟩:=hb.ex
 obtain ⟨tc,qc,rc⟩:=hc.ex
 refine ⟨_,⟨ziy hu qa.run qb.run qc.run ⟨base,few,line,trees⟩⟩,⟨fun A σ H ρ n Q R E P hf k=>?_⟩⟩
 refine ra.run A σ H ρ n _ _ E P hf fun w1 m1 v1 H1 r1 b1 g1=>?_
 rw [zgK] at r1
 obtain ⟨kvs,rfl,r1⟩:=r1
 obtain ⟨a0,_,e0,h0,_⟩:=zei b1
 subst e0
 refine ⟨a0,rfl,.inl ⟨_,.of h0⟩,?_⟩
 refine rb.run A σ H1 ρ m1 _ _ (E.stay g1.st) g1.pn r1 fun w2 m2 v2 H2 r2 b2 g2=>?_
 refine rc.run A σ H2 ρ m2 _ _ ((E.stay g1.st).stay g2.st) g2.pn r2 fun w3 m3 v3 H3 r3 b3 g3=>?_
 rw [za8] at r3
 obtain ⟨ky,e2,r3⟩:=r3
 rw [xN] at r3
 obtain ⟨i,rfl,r3⟩:=r3
 obtain ⟨ad,ks,ea,had,hk,_⟩:=zei ((b1.stay g2.st).stay g3.st)
 cases ea
 have ev:v3 = .int i:=yt b3
 subst ev
 refine ⟨uY ks ky,by rw [zgy b2 e2];exact zco.k had,k _ m3 _ H3 r3 (Val.of ?_) ((g1.trans g2).trans g3) fun z=>by cases z⟩
 cases e:xl kvs ky with
 | none=>rw [(hk.look (k:=ky)).1 e];rfl
 | some d=>obtain ⟨v,h1,h2⟩:=(hk.look (k:=ky)).2 d e;rw [h1];exact h2
end
end L3
namespace L2
open PySem PySem.Spec PyProof.Rows
section
variable {X:Cx}{e lo st:Expr}{te tl tk:TE}{pos p2:Pos}
theorem zgS {us:Array Value}{a n:Int}(ha:0<=a)(hn:1<=n):∃ l:List Nat,l.length<=us.size/\l.Pairwise (· < ·)/\(∀ i∈l,i<us.size->a.toNat<=i)/\slicePick us (some a) none (some n)=(l.filterMap fun i=>us[i]?).toArray:=by
 obtain ⟨b,e1,hb,hab⟩:∃ b:Int,sliceBounds (some a) none (some n) us.size=(b,(us.size:Int),n)/\0<=b/\(b=a\/b=us.size):=by
  by_cases h:a<us.size
  ·refine ⟨a,?_,ha,.inl rfl⟩
   simp [sliceBounds]
   lia
  ·refine ⟨us.size,?_,by lia,.inr rfl⟩
   simp [sliceBounds]
   lia
 refine ⟨sliceRange b us.size n,?_,?_,?_,?_⟩
 ·unfold sliceRange
  rw [List.length_map,List.length_range]
  rw [if_pos (by lia)]
  split
  ·rename_i h
   have h1:1<=(us.size:Int):=by lia
   have h2:=Int.mul_nonneg (show 0<=(us.size:Int) - 1 by lia) (show 0<=n - 1 by lia)
   rw [Int.sub_mul,Int.mul_sub] at h2
   have h3:((us.size:Int) - b+n - 1) / n<=us.size:=Int.ediv_le_of_le_mul (by lia) (by lia)
   lia
  ·exact Nat.zero_le _
 ·unfold sliceRange
  rw [List.pairwise_map]
  refine List.pairwise_lt_range.imp fun {i j} hij=>?_
  have h1:n * (i:Int)<n * (j:Int):=Int.mul_lt_mul_of_pos_left (by lia) (by lia)
  have h2:0<=n * (i:Int):=Int.mul_nonneg (by lia) (by lia)
  lia
 ·intro i hi hlt
  unfold sliceRange at hi
  obtain ⟨k,_,rfl⟩:=List.mem_map.mp hi
  have h2:0<=n * (k:Int):=Int.mul_nonneg (by lia) (by lia)
  lia
 ·unfold slicePick
  rw [e1]
def znA (te tl tk:TE):TE:=fun σ H Q=>te σ H fun x H1=>∃ a xs,x = .ref a/\H1 a=some (.lst xs)/\tl σ H1 fun z H2=>∃ c,z = .int c/\tk σ H2 fun y H3=>∃ n,y = .int n/\0<=c/\1<=n/\H3 a=some (.lst xs)/\
 ∀ l:List Nat,l.Pairwise (· < ·)->(∀ i∈l,i<xs.length->c.toNat<=i)->New H3 (.lst (l.filterMap fun i=>xs[i]?)) Q
theorem ziz (he:PE X e te)(hl:PE X lo tl)(hk:PE X st tk):PE X (.Subscript e (.Slice (some lo) none (some st) p2) pos) (znA te tl tk):=by
 intro pins s σ H Q I h
 refine Subscript_ (thn (he pins s σ H _ I h) fun v s1 ⟨x,H1,I1,r1,q1⟩=>?_)
 obtain ⟨a,xs,rfl,ha1,q2⟩:=q1
 cases r1
 refine wpAny_Slice ?_
 rw [evalPart_some]
 refine thn (hl pins s1 σ H1 _ I1 q2) fun u0 s15 ⟨z0,H15,I15,r15,q15⟩=>?_
 obtain ⟨c,rfl,q2⟩:=q15
 obtain ⟨tc,rfl⟩:=r15
 rw [evalPart_none]
 refine wpAny_pure ?_
 rw [evalPart_some]
 refine thn (hk pins s15 σ H15 _ I15 q2) fun u s2 ⟨z,H2,I2,r2,q3⟩=>?_
 obtain ⟨n,rfl,hc,hn,ha,q⟩:=q3
 obtain ⟨tk,rfl⟩:=r2
 have I3:Inv X pins σ H2 { s2 with heap:=s2.heap.push { cls:=.type "slice",data:=.fields #[.int c tc,.none,.int n tk] } }:=I2.kept (t':=s2.toks) fun b ob q=>Heap.get?_push_of_some _ q
 obtain ⟨its,r,ht,hz⟩:=I3.list (.of ha)
 have hlen:=r.length
 show wpAny (model X.prog X.w) X.A (subscriptTail e _ (.ref a) (.ref s2.heap.objs.size)) (EP X pins σ Q) X.xe { s2 with heap:=s2.heap.push { cls:=.type "slice",data:=.fields #[.int c tc,.none,.int n tk] } }
 refine tail_any (ops:=[.ref a,.ref s2.heap.objs.size]) ht.isList.typeIs slot_list_getitem.lookup ?_ (by with_unfolding_all rfl)
 obtain ⟨l,hl,hpw,hge,hp⟩:=zgS (us:=its.toArray) hc hn
 rw [List.size_toArray] at hl hge
 have hle:(l.filterMap fun i=>xs[i]?).length<=xs.length:=by
  have:=List.length_filterMap_le (fun i=>xs[i]?) l
  lia
 refine wpAny_getItem_list_slice ht.isList (Heap.IsSliceOf.new ..) (.int c tc) .none (.int n tk) (by simp;lia) ?_ (by rw [List.size_toArray] <;> lia)
 rw [hp]
 refine ⟨.ref _,_,I3.laid (t':=s2.toks) (o:=.lst (l.filterMap fun i=>xs[i]?)) (fun b ob q=>Heap.get?_push_of_some _ q) (Nat.le_refl _) ?_,rfl,(q l hpw fun i hi h=>hge i hi (by lia)).at (I3.hok.fresh (Nat.le_refl _))⟩
 exact ⟨by lia,_,0,zhA r l,Heap.get?_push_size _ rfl⟩
end
end L2
namespace L3
open PySem PySem.Spec L2
theorem zgc {α:Type}{xs:List α}:∀ {l:List Nat} {c:Nat},l.Pairwise (· < ·)->(∀ i∈l,i<xs.length->c<=i)->(l.filterMap fun i=>xs[i]?).Sublist (xs.drop c)
 | [],c,_,_=>List.nil_sublist _
 | i::l,c,hp,hg=>by
  rw [List.pairwise_cons] at hp
  by_cases hi:i<xs.length
  ·have hci:=hg i (by simp) hi
   rw [List.filterMap_cons_some (List.getElem?_eq_getElem hi)]
   have ih:=zgc (xs:=xs) (c:=i+1) hp.2 fun j hj _=>by have:=hp.1 j hj;lia
   have h1:(xs.drop i)=xs[i]::xs.drop (i+1):=List.drop_eq_getElem_cons hi
   refine List.Sublist.trans ?_ (List.drop_sublist_drop_left xs hci)
   rw [h1]
   exact ih.cons_cons _
  ·rw [List.filterMap_cons_none (List.getElem?_eq_none (by lia))]
   exact zgc hp.2 fun j hj h=>by have:=hp.1 j hj;lia
theorem zjp {G:Hp}{ds:List Dt}{xs:List V}(h:IsL G ds xs):∀ l:List Nat,IsL G (l.filterMap fun i=>ds[i]?) (l.filterMap fun i=>xs[i]?)
 | []=>rfl
 | i::l=>by
  have ih:=zjp h l
  have hl:=h.length
  by_cases hi:i<ds.length
  ·obtain ⟨v,hv,hd⟩:=h.getD (List.getElem?_eq_getElem hi)
   rw [List.filterMap_cons_some hv,List.filterMap_cons_some (List.getElem?_eq_getElem hi)]
   exact ⟨_,_,rfl,hd,ih⟩
  ·rw [List.filterMap_cons_none (List.getElem?_eq_none (by lia)),List.filterMap_cons_none (List.getElem?_eq_none (by lia))]
   exact ih
@[reducible] def zlH (fa fl fk:Ev->Mo W):Ev->Mo W:=fun ρ n Q=>fa ρ n fun x n1=>onL x fun l=>fl ρ n1 fun y n2=>onI y fun c=>fk ρ n2 fun z n3=>onI z fun k=>(0<=c/\1<=k)/\∀ ys:List Dt,ys.Sublist (l.drop c.toNat)->Q (.d (.lst ys)) n3
section
variable {X:Cx}{Pn:Option zj}{M:List Nat}{e lo st:Expr}{f fl fk:Ev->Mo W}{pos p2:Pos}
theorem zj7 (he:JB X Pn M e f)(hl:JB X Pn M lo fl)(hk:JB X Pn M st fk):JE X Pn M true (.Subscript e (.Slice (some lo) none (some st) p2) pos) (zlH f fl fk):=by
 obtain ⟨te,qe,re⟩:=he.ex
 obtain ⟨tl,ql,rl⟩:=hl.ex
 obtain ⟨tk,qk,rk⟩:=hk.ex
 refine ⟨_,⟨ziz qe.run ql.run qk.run⟩,⟨fun A σ H ρ n Q R E P hf k=>?_⟩⟩
 refine re.run A σ H ρ n _ _ E P hf fun w m v H1 r1 bb g1=>?_
 rw [zbx] at r1
 obtain ⟨l,rfl,r1⟩:=r1
 obtain ⟨ad,xs,rfl,ha,_⟩:=xk bb
 refine ⟨ad,xs,rfl,ha,?_⟩
 refine rl.run A σ H1 ρ m _ _ (E.stay g1.st) g1.pn r1 fun w2 m2 v2 H2 r2 b2 g2=>?_
 rw [xN] at r2
 obtain ⟨c,rfl,r2⟩:=r2
 have ev:v2 = .int c:=yt b2
 subst ev
 refine ⟨c,rfl,?_⟩
 refine rk.run A σ H2 ρ m2 _ _ ((E.stay g1.st).stay g2.st) g2.pn r2 fun w3 m3 v3 H3 r3 b3 g3=>?_
 rw [xN] at r3
 obtain ⟨kk,rfl,⟨c0,k1⟩,r3⟩:=r3
 have ev:v3 = .int kk:=yt b3
 subst ev
 have g:=(g1.trans g2).trans g3
 obtain ⟨ad',xs',ea,ha',hl'⟩:=xk (bb.stay (g2.trans g3).st)
 cases ea
 have ex:xs'=xs:=by
  have:=(g2.trans g3).st.lst ha
  rw [this] at ha'
  cases ha'
  rfl
 subst ex
 refine ⟨kk,rfl,c0,k1,ha',fun is hp hg p H' np gp S=>?_⟩
 have hm:=zjp hl' is
 refine k _ m3 _ _ (r3 _ (zgc hp fun i hi h=>hg i hi (by rw [hl'.length];exact h))) (uB hm (zu.same S) ((E.stay g.st).new np) gp) (g.trans (Go.same g3.pn S)) fun z=>(uq hm S np gp).back g.st
end
open PySem.Spec
theorem zaF {α:Type}{p:List α->Prop}(h0:p [])(hs:∀ l x,p l->p (l++[x]))(l:List α):p l:=by
 have h:∀ l:List α,p l.reverse:=fun l=>by
  induction l with
  | nil=>exact h0
  | cons x l ih=>rw [List.reverse_cons];exact hs _ _ ih
 have:=h l.reverse
 rwa [List.reverse_reverse] at this
theorem zjG:∀ (cs:List (List Int)),(∀ c∈cs,c.Pairwise (· < ·))->Up' (yO cs):=by
 intro cs
 refine zaF (p:=fun cs=>(∀ c∈cs,c.Pairwise (· < ·))->Up' (yO cs)) ?_ ?_ cs
 ·intro _;simp [yO,Up']
 ·intro cs c ih h
  have hc:=h c (by simp)
  have ih:=ih fun d hd=>h d (by simp [hd])
  rw [zR]
  have hrow:=zav cs
  generalize yO cs=rows at ih hrow
  unfold yK Up'
  rw [List.pairwise_flatMap]
  constructor
  ·intro r hr
   rw [List.pairwise_map]
   refine hc.imp fun {a b} hab=>?_
   exact lex_app r hab
  ·refine (List.Pairwise.and_mem.mp ih).imp fun {a b} ⟨ha,hb,hab⟩=>?_
   intro x hx y hy
   obtain ⟨v,_,rfl⟩:=List.mem_map.mp hx
   obtain ⟨w,_,rfl⟩:=List.mem_map.mp hy
   exact lex_pre ((hrow a ha).trans (hrow b hb).symm) hab
where
 lex_app:∀ (r:List Int) {a b:Int},a<b->HT.lexLt (r++[a]) (r++[b])=true
  | [],a,b,h=>by
   show (if a=b then HT.lexLt [] [] else decide (a<b))=true
   rw [if_neg (by omega)]
   exact decide_eq_true h
  | x::r,a,b,h=>by
   show (if x=x then HT.lexLt (r++[a]) (r++[b]) else decide (x<x))=true
   rw [if_pos rfl]
   exact lex_app r h
 lex_pre:∀ {r t:List Int} {a b:Int},r.length=t.length->HT.lexLt r t=true->HT.lexLt (r++[a]) (t++[b])=true
  | [],[],_,_,_,h=>by rw [z9] at h;cases h
  | [],_::_,_,_,h,_=>by simp at h
  | _::_,[],_,_,h,_=>by simp at h
  | x::r,y::t,a,b,hl,h=>by
   have h:(if x=y then HT.lexLt r t else decide (x<y))=true:=h
   show (if x=y then HT.lexLt (r++[a]) (t++[b]) else decide (x<y))=true
   by_cases e:x=y
   ·rw [if_pos e] at h ⊢
    exact lex_pre (by simpa using hl) h
   ·rw [if_neg e] at h ⊢
    exact h
open PySem.Spec
theorem zhR:∀ l:List Int,yO (l.map fun x=>[x])=[l]:=fun l=>by
 refine zaF (p:=fun l:List Int=>yO (l.map fun x=>[x])=[l]) rfl (fun l x ih=>?_) l
 rw [List.map_append,List.map_cons,List.map_nil,zR,ih]
 rfl
theorem zfC:∀ cs:List (List Int),(∀ c∈cs,c≠[])->(yO cs)[0]?=some (cs.map (·.headD 0)):=fun cs=>by
 refine zaF (p:=fun cs:List (List Int)=>(∀ c∈cs,c≠[])->(yO cs)[0]?=some (cs.map (·.headD 0))) (fun _=>rfl) (fun cs c ih h=>?_) cs
 have ih:=ih fun d hd=>h d (by simp [hd])
 have hc:=h c (by simp)
 rw [zR]
 cases hr:yO cs with
 | nil=>rw [hr] at ih;simp at ih
 | cons r rows=>
  rw [hr] at ih
  cases c with
  | nil=>exact absurd rfl hc
  | cons w ws=>
   have e:r=cs.map (·.headD 0):=by simpa using ih
   unfold yK
   rw [List.flatMap_cons,List.map_cons,List.cons_append,e,List.map_append]
   rfl
theorem zfD:∀ cs:List (List Int),(∀ c∈cs,c≠[])->(yO cs).getLast?=some (cs.map (·.getLastD 0)):=fun cs=>by
 refine zaF (p:=fun cs:List (List Int)=>(∀ c∈cs,c≠[])->(yO cs).getLast?=some (cs.map (·.getLastD 0))) (fun _=>rfl) (fun cs c ih h=>?_) cs
 have ih:=ih fun d hd=>h d (by simp [hd])
 have hc:=h c (by simp)
 obtain ⟨rows,hr⟩:=List.getLast?_eq_some_iff.mp ih
 obtain ⟨ws,w,rfl⟩:∃ ws w,c=ws++[w]:=⟨c.dropLast,c.getLast hc,(List.dropLast_concat_getLast hc).symm⟩
 rw [zR,hr,zaL,List.map_append,List.map_cons,List.map_nil,<- List.append_assoc,List.getLast?_concat,List.map_append]
 simp
theorem zlX {rm:List Int}{g:List (Int×Int)}(hg:Giv rm g){i:Nat}{w:Int}(h:((i:Int),w)∈g):gw g i=some w:=by
 cases e:gw g i with
 | none=>exact absurd rfl (zdD e _ h)
 | some v=>
  have:=zgh hg h (zaP hg e) rfl
  cases this
  rfl
theorem zjm {rm:List Int}{g:List (Int×Int)}(hg:Giv rm g){i:Nat}:gw g i=none↔(i:Int)∉g.map (·.1):=by
 constructor
 ·intro h z
  obtain ⟨q,hq,e⟩:=List.mem_map.mp z
  exact zdD h q hq e
 ·intro h
  cases e:gw g i with
  | none=>rfl
  | some v=>exact absurd (List.mem_map.mpr ⟨_,zaP hg e,rfl⟩) h
def zez (rm:List Int)(g:List (Int×Int)):Nat->Int
 | 0=>1
 | k+1=>if (k:Int)∈g.map (·.1) then zez rm g k else zez rm g k * zE rm k
theorem zaY {rm:List Int}{g:List (Int×Int)}(hR:RoomOk rm)(hg:Giv rm g):∀ k,k<=rm.length->((yO ((List.range k).map (cho rm g))).length:Int)=zez rm g k
 | 0,_=>rfl
 | k+1,h=>by
  have ih:=zaY hR hg k (by omega)
  rw [List.range_succ,List.map_append,List.map_cons,List.map_nil,zR,x8,zez]
  have hb:=hR.box rm[k] (List.getElem_mem (by omega))
  have e:zE rm (k:Int)=rm[k]:=by rw [yj];simp [show k<rm.length by omega]
  split
  ·rename_i z
   have e3:(cho rm g k).length=1:=by
    unfold cho
    cases e2:gw g k with
    | none=>exact absurd z ((zjm hg).mp e2)
    | some v=>rfl
   rw [e3,Nat.mul_one]
   exact ih
  ·rename_i z
   have e3:(cho rm g k).length=rm[k].toNat:=by
    unfold cho
    rw [(zjm hg).mpr z]
    show (zx (rm.getD k 0)).length=_
    rw [yQ]
    simp [show k<rm.length by omega]
   rw [e3,Int.natCast_mul,ih,e]
   congr 1
   omega
theorem uu {rm:List Int}{g:List (Int×Int)}(hR:RoomOk rm)(hg:Giv rm g):((zW rm g).length:Int)=zez rm g rm.length:=zaY hR hg rm.length (Nat.le_refl _)
theorem zko {rm:List Int}{g:List (Int×Int)}(hR:RoomOk rm)(hg:Giv rm g){k:Nat}(hk:k<=rm.length):0<=zez rm g k/\zez rm g k<=65536:=by
 rw [<- zaY hR hg k hk]
 have:=zbH (cs:=chs rm g) (by unfold chs;rw [List.length_map,List.length_range];exact hR.few) (fun c hc=>by
  obtain ⟨i,hi,rfl⟩:=List.mem_map.mp hc
  have hi':=List.mem_range.mp hi
  have hb:=hR.box _ (List.getElem_mem hi')
  have e:rm.getD i 0=rm[i]:=by simp [hi']
  unfold cho
  cases gw g i with
  | some v=>simp
  | none=>rw [yQ];omega) k
 have e:(chs rm g).take k=(List.range k).map (cho rm g):=by
  unfold chs
  rw [<- List.map_take,List.take_range,Nat.min_eq_left hk]
 rw [e] at this
 omega
theorem zje {rm:List Int}{g:List (Int×Int)}(hR:RoomOk rm):∀ c∈chs rm g,c≠[]:=fun c hc=>by
 obtain ⟨i,hi,rfl⟩:=List.mem_map.mp hc
 have hi':=List.mem_range.mp hi
 have hb:=hR.box _ (List.getElem_mem hi')
 have e:rm.getD i 0=rm[i]:=by simp [hi']
 unfold cho
 cases gw g i with
 | some v=>simp
 | none=>
  intro z
  have:=congrArg List.length z
  simp only [yQ,List.length_nil] at this
  omega
theorem zlC {rm:List Int}{g:List (Int×Int)}:∀ c∈chs rm g,c.Pairwise (· < ·):=fun c hc=>by
 obtain ⟨i,hi,rfl⟩:=List.mem_map.mp hc
 unfold cho
 cases gw g i with
 | some v=>simp
 | none=>
  unfold zx
  rw [List.pairwise_map]
  exact List.pairwise_lt_range.imp fun h=>by omega
theorem zbQ {rm:List Int}{g:List (Int×Int)}:Up' (zW rm g):=zjG _ zlC
theorem zd3 {m:Int}(h:1<=m):(zx m).headD 0=0:=by
 unfold zx
 obtain ⟨n,e⟩:∃ n,m.toNat=n+1:=⟨m.toNat - 1,by omega⟩
 rw [e,List.range_succ_eq_map]
 rfl
theorem zd4 {m:Int}(h:1<=m):(zx m).getLastD 0=m - 1:=by
 unfold zx
 obtain ⟨n,e⟩:∃ n,m.toNat=n+1:=⟨m.toNat - 1,by omega⟩
 rw [e,List.range_succ,List.map_append]
 simp
 omega
def zlU (rm:List Int)(g:List (Int×Int)):List Int:=(List.range rm.length).map fun i=>(gw g i).getD 0
def zfw (rm:List Int)(g:List (Int×Int)):List Int:=(List.range rm.length).map fun i:Nat=>(gw g i).getD (zE rm i - 1)
theorem zgu {rm:List Int}{g:List (Int×Int)}(hR:RoomOk rm):(zW rm g)[0]?=some (zlU rm g):=by
 unfold zW
 rw [zfC _ (zje hR)]
 unfold chs zlU
 rw [List.map_map]
 congr 1
 refine List.map_congr_left fun i hi=>?_
 have hi':=List.mem_range.mp hi
 have hb:=hR.box _ (List.getElem_mem hi')
 have e:rm.getD i 0=rm[i]:=by simp [hi']
 show (cho rm g i).headD 0=_
 unfold cho
 cases gw g i with
 | some v=>rfl
 | none=>exact zd3 (by omega)
theorem zcF {rm:List Int}{g:List (Int×Int)}(hR:RoomOk rm):(zW rm g).getLast?=some (zfw rm g):=by
 unfold zW
 rw [zfD _ (zje hR)]
 unfold chs zfw
 rw [List.map_map]
 congr 1
 refine List.map_congr_left fun i hi=>?_
 have hi':=List.mem_range.mp hi
 have hb:=hR.box _ (List.getElem_mem hi')
 have e:rm.getD i 0=rm[i]:=by simp [hi']
 show (cho rm g i).getLastD 0=_
 unfold cho
 cases gw g i with
 | some v=>rfl
 | none=>rw [yj];exact zd4 (by omega)
theorem zaX {rm:List Int}{g:List (Int×Int)}(hg:Giv rm g){st:List Int}:st∈zW rm g↔st∈yO (rm.map zx)/\xL st g=true:=by
 rw [<- uv hg,List.mem_filter]
theorem yf {rm st:List Int}(hR:RoomOk rm)(h:st∈yO (rm.map zx)):yI rm st:=by
 rw [zcc] at h
 obtain ⟨k,_,rfl⟩:=List.mem_map.mp h
 have:=u7 (rr:=rm.reverse) k fun m hm=>by have:=hR.box m (List.mem_reverse.mp hm);omega
 rwa [List.reverse_reverse] at this
theorem zeg {rm st:List Int}(hR:RoomOk rm)(h:st∈yO (rm.map zx)):0<=yq 0 rm st/\(yO (rm.map zx))[(yq 0 rm st).toNat]?=some st:=by
 rw [zcc] at h ⊢
 obtain ⟨k,hk,rfl⟩:=List.mem_map.mp h
 have hk:=List.mem_range.mp hk
 have h1:∀ m∈rm.reverse,1<=m:=fun m hm=>by have:=hR.box m (List.mem_reverse.mp hm);omega
 have:=zcP h1 hk
 rw [List.reverse_reverse] at this
 rw [this]
 refine ⟨by omega,?_⟩
 rw [Int.toNat_natCast,List.getElem?_map,List.getElem?_range hk]
 rfl
theorem zir {rm s t:List Int}(hR:RoomOk rm)(hs:s∈yO (rm.map zx))(ht:t∈yO (rm.map zx))(h:yq 0 rm s=yq 0 rm t):s=t:=by
 have h1:=(zeg hR hs).2
 have h2:=(zeg hR ht).2
 rw [h,h2] at h1
 exact (Option.some.inj h1).symm
theorem zkr {rm s t:List Int}(hR:RoomOk rm)(hs:s∈yO (rm.map zx))(ht:t∈yO (rm.map zx))(h:HT.lexLt s t=true):yq 0 rm s<yq 0 rm t:=by
 apply Classical.byContradiction
 intro hn
 by_cases e:yq 0 rm s=yq 0 rm t
 ·have:=zir hR hs ht e
  subst this
  rw [z9] at h
  cases h
 ·have:=zew (yf hR ht) (yf hR hs) (by omega)
  have h3:=uN ((yf hR hs).len.trans (yf hR ht).len.symm) ((yf hR ht).len.trans (yf hR hs).len.symm) h this
  rw [z9] at h3
  cases h3
def zdf (g:List (Int×Int))(b w:Int):List (Int×Int):=g.filter (fun q=>decide (q.1<b))++[(b,w)]++g.filter fun q=>decide (b<q.1)
theorem xc {g:List (Int×Int)}{b w:Int}(hb:b∉g.map (·.1)){q:Int×Int}:q∈zdf g b w↔q=(b,w)\/q∈g:=by
 unfold zdf
 simp only [List.mem_append,List.mem_filter,List.mem_singleton,decide_eq_true_eq]
 constructor
 ·rintro ((⟨h,_⟩ | h) | ⟨h,_⟩)
  ·exact .inr h
  ·exact .inl h
  ·exact .inr h
 ·rintro (h | h)
  ·exact .inl (.inr h)
  ·by_cases h1:q.1<b
   ·exact .inl (.inl ⟨h,h1⟩)
   ·have:q.1≠b:=fun z=>hb (List.mem_map.mpr ⟨q,h,z⟩)
    exact .inr ⟨h,by omega⟩
theorem zaA {rm:List Int}{g:List (Int×Int)}{b w:Int}(hg:Giv rm g)(hb:b∉g.map (·.1))(h0:0<=b)(h1:b<rm.length)(h2:0<=w)(h3:w<zE rm b):Giv rm (zdf g b w):=by
 refine ⟨fun q hq=>?_,?_⟩
 ·rcases (xc hb).mp hq with rfl | hq
  ·exact ⟨h0,h1,h2,h3⟩
  ·exact hg.ok q hq
 ·unfold zdf
  rw [List.append_assoc,List.pairwise_append]
  refine ⟨hg.up.filter _,?_,fun a ha c hc=>?_⟩
  ·rw [List.singleton_append,List.pairwise_cons]
   exact ⟨fun c hc=>by simpa using (List.mem_filter.mp hc).2,hg.up.filter _⟩
  ·have h4:a.1<b:=by simpa using (List.mem_filter.mp ha).2
   rcases List.mem_append.mp hc with hc | hc
   ·rw [List.mem_singleton.mp hc];exact h4
   ·have:b<c.1:=by simpa using (List.mem_filter.mp hc).2
    omega
theorem zgv {rm:List Int}{g:List (Int×Int)}{b w:Int}(hg:Giv rm g)(hb:b∉g.map (·.1))(h0:0<=b)(h1:b<rm.length)(h2:0<=w)(h3:w<zE rm b):zW rm (zdf g b w)=(zW rm g).filter fun st=>decide (zE st b=w):=by
 rw [<- uv hg,<- uv (zaA hg hb h0 h1 h2 h3),List.filter_filter]
 refine List.filter_congr fun st _=>?_
 rw [Bool.eq_iff_iff,Bool.and_eq_true]
 unfold xL
 rw [List.all_eq_true,List.all_eq_true]
 constructor
 ·intro h
  exact ⟨h (b,w) ((xc hb).mpr (.inl rfl)),fun q hq=>h q ((xc hb).mpr (.inr hq))⟩
 ·rintro ⟨h4,h5⟩ q hq
  rcases (xc hb).mp hq with rfl | hq
  ·exact h4
  ·exact h5 q hq
theorem zeA {rm:List Int}{g:List (Int×Int)}{b w:Int}(hb:b∉g.map (·.1))(h0:0<=b):∀ k:Nat,zez rm (zdf g b w) k * (if b<k then zE rm b else 1)=zez rm g k
 | 0=>by
  rw [if_neg (by omega)]
  rfl
 | k+1=>by
  have ih:=zeA (rm:=rm) (w:=w) hb h0 k
  have hm:((k:Int)∈(zdf g b w).map (·.1))↔(k:Int)=b\/(k:Int)∈g.map (·.1):=by
   simp only [List.mem_map]
   constructor
   ·rintro ⟨q,hq,e⟩
    rcases (xc hb).mp hq with rfl | hq
    ·exact .inl e.symm
    ·exact .inr ⟨q,hq,e⟩
   ·rintro (e | ⟨q,hq,e⟩)
    ·exact ⟨(b,w),(xc hb).mpr (.inl rfl),e.symm⟩
    ·exact ⟨q,(xc hb).mpr (.inr hq),e⟩
  rw [zez,zez]
  by_cases e:(k:Int)=b
  ·rw [if_pos (hm.mpr (.inl e)),if_pos (by omega),if_neg (by rw [e];exact hb)]
   rw [if_neg (by omega),Int.mul_one] at ih
   rw [ih,e]
  ·by_cases z:(k:Int)∈g.map (·.1)
   ·rw [if_pos (hm.mpr (.inr z)),if_pos z,<- ih]
    congr 1
    by_cases hlt:b<k
    ·rw [if_pos hlt,if_pos (by omega)]
    ·rw [if_neg hlt,if_neg (by omega)]
   ·rw [if_neg fun y=>(hm.mp y).elim e z,if_neg z,<- ih]
    by_cases hlt:b<k
    ·rw [if_pos hlt,if_pos (by omega),Int.mul_assoc,Int.mul_assoc,Int.mul_comm (zE rm b)]
    ·rw [if_neg hlt,if_neg (by omega)]
     simp
theorem ze5 {rm:List Int}{g:List (Int×Int)}{b w:Int}(hR:RoomOk rm)(hg:Giv rm g)(hb:b∉g.map (·.1))(h0:0<=b)(h1:b<rm.length)(h2:0<=w)(h3:w<zE rm b):((zW rm (zdf g b w)).length:Int) * zE rm b=(zW rm g).length:=by
 rw [uu hR hg,uu hR (zaA hg hb h0 h1 h2 h3),<- zeA (w:=w) hb h0,if_pos (by omega)]
def evG (st:List Int):List (Int×Int):=(List.range st.length).map fun i:Nat=>((i:Int),st.getD i 0)
theorem zdy {rm st:List Int}(hv:yI rm st):Giv rm (evG st):=by
 refine ⟨fun q hq=>?_,?_⟩
 ·obtain ⟨i,hi,rfl⟩:=List.mem_map.mp hq
  have hi:=List.mem_range.mp hi
  have hl:=hv.len
  have:=hv.get i (by omega)
  exact ⟨by simp,by simp;omega,this.1,by rw [yj];exact this.2⟩
 ·unfold evG
  rw [List.pairwise_map]
  exact List.pairwise_lt_range.imp fun h=>by simpa using h
theorem zh4 {rm st:List Int}(hv:yI rm st):zW rm (evG st)=[st]:=by
 have hl:=hv.len
 have e:chs rm (evG st)=st.map fun x=>[x]:=by
  unfold chs
  apply List.ext_getElem
  ·simp [hl]
  ·intro i h1 h2
   simp at h1
   have:gw (evG st) i=some (st.getD i 0):=zlX (zdy hv) (List.mem_map.mpr ⟨i,List.mem_range.mpr (by omega),rfl⟩)
   simp [cho,this,show i<st.length by omega]
 unfold zW
 rw [e,zhR]
theorem zev {s:List Int}{i:Nat}(h:i<s.length):s.take (i+1)=s.take i++[zE s i]:=by
 rw [List.take_succ_eq_append_getElem h,yj]
 simp [h]
theorem zij {s f:List Int}{i:Nat}(h:i<s.length):chg (s.take i++f.drop i) i (zE s i)=s.take (i+1)++f.drop (i+1):=by
 unfold chg
 have hl:(s.take i).length=i:=by rw [List.length_take];omega
 rw [Int.toNat_natCast,List.take_left' hl,zev h,List.drop_append,hl,List.drop_eq_nil_of_le (by omega),List.nil_append,List.drop_drop]
 congr 2
 omega
theorem zii {s f:List Int}{i:Nat}(h:i<s.length)(hf:i<f.length)(e:zE f i=zE s i):s.take i++f.drop i=s.take (i+1)++f.drop (i+1):=by
 rw [zev h,<- e,yj,List.drop_eq_getElem_cons hf]
 simp [hf]
theorem za9 {P:Bool->Prop}{a:Dt}(h:a.eqOk)(q:P true):a.eqOk/\a.eqOk/\∀ r:Bool,(r=true↔a=a)->P r:=⟨h,h,fun r hr=>by rw [hr.mpr rfl];exact q⟩
def zgN (rm:List Int)(g:List (Int×Int))(b:Int)(k:Nat):List (List Int):=(List.range k).flatMap fun j:Nat=>(zW rm g).filter fun st=>decide (zE st b=(j:Int))
theorem zcZ {rm:List Int}{g:List (Int×Int)}{b:Int}{k:Nat}:zgN rm g b (k+1)=zgN rm g b k++(zW rm g).filter fun st=>decide (zE st b=(k:Int)):=by
 unfold zgN
 rw [List.range_succ,List.flatMap_append]
 simp
theorem zaC {rm:List Int}{g:List (Int×Int)}{b:Int}{k:Nat}{st:List Int}:st∈zgN rm g b k↔st∈zW rm g/\∃ j:Nat,j<k/\zE st b=(j:Int):=by
 unfold zgN
 simp only [List.mem_flatMap,List.mem_range,List.mem_filter,decide_eq_true_eq]
 constructor
 ·rintro ⟨j,hj,h1,h2⟩;exact ⟨h1,j,hj,h2⟩
 ·rintro ⟨h1,j,hj,h2⟩;exact ⟨j,hj,h1,h2⟩
theorem zdW {rm:List Int}{g:List (Int×Int)}{b:Int}:∀ k,(zgN rm g b k).Nodup
 | 0=>by simp [zgN]
 | k+1=>by
  rw [zcZ,List.nodup_append]
  refine ⟨zdW k,(zi2 zbQ).filter _,fun x hx y hy e=>?_⟩
  subst e
  obtain ⟨_,j,hj,e1⟩:=zaC.mp hx
  have e2:zE x b=(k:Int):=by simpa using (List.mem_filter.mp hy).2
  omega
theorem ziv {rm:List Int}{g:List (Int×Int)}{b:Int}(hR:RoomOk rm)(k:Nat):(zgN rm g b k).length<=65536:=Nat.le_trans (zcO (zdW k) fun x hx=>(zaC.mp hx).1) (uK hR)
theorem ziu {rm:List Int}{g:List (Int×Int)}{b:Int}(hR:RoomOk rm)(hG:Giv rm g)(b0:0<=b)(b1:b<rm.length){l:List (List Int)}(hp:l.Perm (zgN rm g b (zE rm b).toNat))(hu:Up' l):l=zW rm g:=by
 refine (zec (zaW hG) zbQ hu fun z=>?_).symm
 rw [hp.mem_iff,zaC]
 constructor
 ·intro h
  have hv:=yf hR ((zaX hG).mp h).1
  have:=hv.st b b0 b1
  exact ⟨h,(zE z b).toNat,by omega,by omega⟩
 ·exact fun h=>h.1
theorem zhS {rm:List Int}(hR:RoomOk rm):((yO (rm.map zx)).length:Int)=xm rm:=by
 have:=zbB (rr:=rm.reverse) fun m hm=>by have:=hR.box m (List.mem_reverse.mp hm);omega
 rw [zcc,List.length_map,List.length_range,this,List.reverse_reverse]
theorem zob {α:Type}{l:List α}{x:α}(h:l.getLast?=some x):atI l (-1)=some x:=by
 obtain ⟨r,rfl⟩:=List.getLast?_eq_some_iff.mp h
 unfold atI ixN
 rw [if_neg (by decide),if_pos (by rw [List.length_append];simp;omega)]
 have:(-1+((r++[x]).length:Int)).toNat=r.length:=by rw [List.length_append];simp;omega
 rw [this]
 simp
theorem zjl {g:List (Int×Int)}{i:Nat}{z:Int}:((gw g i).map Dt.int).getD (.int z) = .int ((gw g i).getD z):=by cases gw g i <;> rfl
end L3
local macro_rules | `(tactic| walk_at "st")=>`(tactic| ((try (with_reducible conv=>whnf));repeat (with_reducible refine L3.zlA ?_;try (with_reducible conv=>whnf)));try dsimp only)
local macro_rules | `(tactic| walk_at "ct")=>`(tactic| (with_reducible refine L3.zmq ?_ ?_;(first | decide | assumption | rfl));walk_at "st")
local macro_rules | `(tactic| walk_at "cf")=>`(tactic| (with_reducible refine L3.zkt ?_ ?_;(first | decide | assumption | rfl));walk_at "st")
namespace Law
open PySem L2 L3
def top (i:Nat):Stmt:=PySem.Challenge.pw_allelse_k06_whole_rooms_and_givens.main.body.getD i (.Pass ⟨0,0,0,0⟩)
abbrev yT:Stmt:=top 14
abbrev yS:Stmt:=top 24
abbrev yz:Stmt:=top 25
abbrev yB:Stmt:=top 26
abbrev yA:Stmt:=top 27
abbrev yn:Stmt:=top 30
abbrev xu:Stmt:=top 17
abbrev zaf:Stmt:=top 21
abbrev xx:Stmt:=top 22
abbrev yX:Stmt:=top 6
abbrev yo:Stmt:=top 7
abbrev yD:Stmt:=top 8
abbrev xw:Stmt:=top 9
abbrev yW:Stmt:=top 10
abbrev ud:Stmt:=top 11
abbrev yY:Stmt:=top 12
abbrev yb:Stmt:=top 13
abbrev yF:Stmt:=top 15
abbrev ue:Stmt:=top 16
abbrev yE:Stmt:=top 19
abbrev yU:Stmt:=top 20
abbrev yC:Stmt:=top 31
abbrev yR:Stmt:=top 32
abbrev zF:Stmt:=top 33
abbrev ya:Stmt:=top 34
abbrev zff:Stmt:=top 35
theorem xF:FnScope ["choices","rows","worths"] ["choices"] (za yT):=⟨rfl,rfl,rfl,by decide +kernel,rfl,by decide +kernel,by decide +kernel⟩
theorem zd6:FnScope ["_law_script"] ["_law_script"] (za yS):=⟨rfl,rfl,rfl,by decide +kernel,rfl,by decide +kernel,by decide +kernel⟩
theorem zO:FnScope ["_law_pen_here","_law_many","_law_found","_law_at","_law_cell","_law_prime","_law_mixed"] ["_law_pen_here","_law_many"] (za yz):=⟨rfl,rfl,rfl,by decide +kernel,rfl,by decide +kernel,by decide +kernel⟩
theorem xg:FnScope ["_law_room_here","_law_found","_law_many"] ["_law_room_here"] (za yB):=⟨rfl,rfl,rfl,by decide +kernel,rfl,by decide +kernel,by decide +kernel⟩
theorem z7:FnScope ["_law_pen_here","_law_most","_law_way","_law_many","_law_found","_law_k","_law_one"] ["_law_pen_here","_law_most"] (za yA):=⟨rfl,rfl,rfl,by decide +kernel,rfl,by decide +kernel,by decide +kernel⟩
theorem zK:FnScope ["_law_pen_here","_law_room_here","_law_apart","_law_way","_law_lone","_law_found","_law_box","_law_many","_law_worth","_law_some"] ["_law_pen_here","_law_room_here","_law_apart"] (za yn):=⟨rfl,rfl,rfl,by decide +kernel,rfl,by decide +kernel,by decide +kernel⟩
theorem zfg:FnScope ["standing","box","worth"] ["standing","box","worth"] (za xu):=⟨rfl,rfl,rfl,by decide +kernel,rfl,by decide +kernel,by decide +kernel⟩
theorem zcd:FnScope ["standing","given","box","worth"] ["standing","given"] (za zaf):=⟨rfl,rfl,rfl,by decide +kernel,rfl,by decide +kernel,by decide +kernel⟩
theorem zbA:FnScope ["room","given","fixed"] ["room","given"] (za xx):=⟨rfl,rfl,rfl,by decide +kernel,rfl,by decide +kernel,by decide +kernel⟩
theorem zd8:FnScope ["thing"] ["thing"] (za yX):=⟨rfl,rfl,rfl,by decide +kernel,rfl,by decide +kernel,by decide +kernel⟩
theorem yP:FnScope ["room","many","worths"] ["room"] (za yo):=⟨rfl,rfl,rfl,by decide +kernel,rfl,by decide +kernel,by decide +kernel⟩
theorem zao:FnScope ["thing","most","worths"] ["thing","most"] (za yD):=⟨rfl,rfl,rfl,by decide +kernel,rfl,by decide +kernel,by decide +kernel⟩
theorem zfh:FnScope ["thing"] ["thing"] (za xw):=⟨rfl,rfl,rfl,by decide +kernel,rfl,by decide +kernel,by decide +kernel⟩
theorem zd7:FnScope ["room"] ["room"] (za yW):=⟨rfl,rfl,rfl,by decide +kernel,rfl,by decide +kernel,by decide +kernel⟩
theorem zhe:FnScope ["room","thing"] ["room","thing"] (za ud):=⟨rfl,rfl,rfl,by decide +kernel,rfl,by decide +kernel,by decide +kernel⟩
theorem zd9:FnScope ["room","box","thing"] ["room","box","thing"] (za yY):=⟨rfl,rfl,rfl,by decide +kernel,rfl,by decide +kernel,by decide +kernel⟩
theorem xn:FnScope ["room","thing","box","worth"] ["room","thing"] (za yb):=⟨rfl,rfl,rfl,by decide +kernel,rfl,by decide +kernel,by decide +kernel⟩
theorem zc4:FnScope ["room"] ["room"] (za yF):=⟨rfl,rfl,rfl,by decide +kernel,rfl,by decide +kernel,by decide +kernel⟩
theorem x6:FnScope ["room","standing","place","worths","worth"] ["room","standing"] (za ue):=⟨rfl,rfl,rfl,by decide +kernel,rfl,by decide +kernel,by decide +kernel⟩
theorem x5:FnScope ["room","thing","box","worth"] ["room","thing"] (za yE):=⟨rfl,rfl,rfl,by decide +kernel,rfl,by decide +kernel,by decide +kernel⟩
theorem xG:FnScope ["room","thing","last","choice"] ["room","thing"] (za yU):=⟨rfl,rfl,rfl,by decide +kernel,rfl,by decide +kernel,by decide +kernel⟩
theorem zc3:FnScope ["_law_base","_law_box","_law_worth"] ["_law_base","_law_box","_law_worth"] (za yC):=⟨rfl,rfl,rfl,by decide +kernel,rfl,by decide +kernel,by decide +kernel⟩
theorem y9:FnScope ["_law_room_here","_law_base","_law_first","_law_standing_here","_law_found","_law_held","_law_box"] ["_law_room_here","_law_base","_law_first","_law_standing_here"] (za yR):=⟨rfl,rfl,rfl,by decide +kernel,rfl,by decide +kernel,by decide +kernel⟩
theorem zJ:FnScope ["_law_room_here","_law_base","_law_heard","_law_last","_law_standing_here","_law_place"] ["_law_room_here","_law_base","_law_heard"] (za zF):=⟨rfl,rfl,rfl,by decide +kernel,rfl,by decide +kernel,by decide +kernel⟩
theorem zV:FnScope ["_law_room_here","_law_base","_law_heard","_law_box","_law_parts","_law_worth","_law_more","_law_part"] ["_law_room_here","_law_base","_law_heard","_law_box"] (za ya):=⟨rfl,rfl,rfl,by decide +kernel,rfl,by decide +kernel,by decide +kernel⟩
theorem xh:FnScope ["_law_script","_law_pen_here","_law_k","_law_room_here","_law_base","_law_held","_law_heard","_law_many","_law_box","_law_worths","_law_first","_law_last","_law_every"] ["_law_script"] (za zff):=⟨rfl,rfl,rfl,by decide +kernel,rfl,by decide +kernel,by decide +kernel⟩
set_option genInjectivity false in
structure Ad where
 f0:Addr
 d0:FuncData
 f1:Addr
 d1:FuncData
 f2:Addr
 d2:FuncData
 f3:Addr
 d3:FuncData
 f4:Addr
 d4:FuncData
 f5:Addr
 d5:FuncData
 f6:Addr
 d6:FuncData
 f7:Addr
 d7:FuncData
 f8:Addr
 d8:FuncData
 f9:Addr
 d9:FuncData
 f10:Addr
 d10:FuncData
 f11:Addr
 d11:FuncData
 f12:Addr
 d12:FuncData
 f13:Addr
 d13:FuncData
 f14:Addr
 d14:FuncData
 f15:Addr
 d15:FuncData
 f16:Addr
 d16:FuncData
 f17:Addr
 d17:FuncData
 f18:Addr
 d18:FuncData
 f19:Addr
 d19:FuncData
 f20:Addr
 d20:FuncData
 f21:Addr
 d21:FuncData
 f22:Addr
 d22:FuncData
 f23:Addr
 d23:FuncData
 f24:Addr
 d24:FuncData
 f25:Addr
 d25:FuncData
structure Txt (K:PySem.W.Frag)(mg:Str->Option Value)(t:Ad):Prop where
 q0:Dfn K mg "combined" yT ["choices"] t.f0 t.d0
 q1:Dfn K mg "_law_pen" yS ["_law_script"] t.f1 t.d1
 q2:Dfn K mg "_law_draw" yz ["_law_pen_here","_law_many"] t.f2 t.d2
 q3:Dfn K mg "_law_size" yB ["_law_room_here"] t.f3 t.d3
 q4:Dfn K mg "_law_room" yA ["_law_pen_here","_law_most"] t.f4 t.d4
 q5:Dfn K mg "_law_given" yn ["_law_pen_here","_law_room_here","_law_apart"] t.f5 t.d5
 q6:Dfn K mg "changed" xu ["standing","box","worth"] t.f6 t.d6
 q7:Dfn K mg "keeps" zaf ["standing","given"] t.f7 t.d7
 q8:Dfn K mg "keeping" xx ["room","given"] t.f8 t.d8
 q9:Dfn K mg "is_whole" yX ["thing"] t.f9 t.d9
 q10:Dfn K mg "multiplied" yo ["room"] t.f10 t.d10
 q11:Dfn K mg "are_boxes" yD ["thing","most"] t.f11 t.d11
 q12:Dfn K mg "is_room" xw ["thing"] t.f12 t.d12
 q13:Dfn K mg "is_small" yW ["room"] t.f13 t.d13
 q14:Dfn K mg "is_box" ud ["room","thing"] t.f14 t.d14
 q15:Dfn K mg "is_worth" yY ["room","box","thing"] t.f15 t.d15
 q16:Dfn K mg "is_standing" yb ["room","thing"] t.f16 t.d16
 q17:Dfn K mg "standings" yF ["room"] t.f17 t.d17
 q18:Dfn K mg "number" ue ["room","standing"] t.f18 t.d18
 q19:Dfn K mg "is_choice" yE ["room","thing"] t.f19 t.d19
 q20:Dfn K mg "is_given" yU ["room","thing"] t.f20 t.d20
 q21:Dfn K mg "_law_with" yC ["_law_base","_law_box","_law_worth"] t.f21 t.d21
 q22:Dfn K mg "_law_led" yR ["_law_room_here","_law_base","_law_first","_law_standing_here"] t.f22 t.d22
 q23:Dfn K mg "_law_each_right" zF ["_law_room_here","_law_base","_law_heard"] t.f23 t.d23
 q24:Dfn K mg "_law_parted" ya ["_law_room_here","_law_base","_law_heard","_law_box"] t.f24 t.d24
 q25:Dfn K mg "law" zff ["_law_script"] t.f25 t.d25
 b_enumerate:mg "enumerate" = none
 b_zip:mg "zip" = none
 b_dict:mg "dict" = none
 b_range:mg "range" = none
 b_tuple:mg "tuple" = none
 b_isinstance:mg "isinstance" = none
 b_int:mg "int" = none
 b_len:mg "len" = none
 b_sorted:mg "sorted" = none
 b_bool:mg "bool" = none
 b_list:mg "list" = none
 b_abs:mg "abs" = none
 b_min:mg "min" = none
 c_MOST_BOXES:∃ u,zX (.int 8) u/\mg "MOST_BOXES" = some u
 c_LEAST_WORTHS:∃ u,zX (.int 2) u/\mg "LEAST_WORTHS" = some u
 c_MOST_WORTHS:∃ u,zX (.int 4) u/\mg "MOST_WORTHS" = some u
 c_MOST_STANDINGS:∃ u,zX (.int 256) u/\mg "MOST_STANDINGS" = some u
 c_MOST_OF_SMALL:∃ u,zX (.int 64) u/\mg "MOST_OF_SMALL" = some u
section
variable {P:Program}{w:World}{K:PySem.W.Frag}{mg:Str->Option Value}{base:Heap}{t:Ad}
theorem zdQ (T:Txt K mg t):FnOk P w K mg base CX0 1 t.f0 t.d0 ["choices"] (zbD K):=by
 refine T.q0.F.okQ xF (fun vs H Q E h=>?_) (fun cdv A outer s H vs Q E hr h=>?_)
 ·obtain ⟨ca,xs,cs,rfl,_⟩:=h
  rfl
 ·obtain ⟨ca,xs,cs,rfl,hca,hL,hc8,hc4,k⟩:=h
  have hall:=zbH hc8 hc4
  refine ⟨_,(zm (yd (i:=1) xF.nd rfl (Or.inl rfl) (zgV (zd (zdX zA) zA)))
   (zm (zc1 PassesOwn.never rfl (zdY (qv 0)) (x4 (i:=2) xF.nd rfl (Or.inr rfl)) (ye (ziM (ix:=1) xF.nd rfl rfl (N:=["row","worth","worths"]) (cix:=[none,none,some 2]) rfl ⟨rfl,by decide +kernel,rfl⟩ (zdY (qv 1)) (fun _ _ _ _=>(x4 (i:=0) (show (["row","worth","worths"]:List Str).Nodup by decide +kernel) rfl (Or.inl rfl))) (fun _ _ _ _=>zd0) (fun _ _ _ _=>(zeF K rfl (qv 2))) (fun _ _ _ _=>(x4 (i:=1) (show (["row","worth","worths"]:List Str).Nodup by decide +kernel) rfl (Or.inl rfl))) (fun _ _ _ _=>zd0) (fun _ _ _ _=>(z5 (zit K rfl) (qv 0) (zdX (zd (qv 1) zA)))))))
   (ye (uU (qv 1))))),?_⟩
  refine ⟨(by show 0<=sizeLine;decide),fun e0 H1 _ g1 S1=>⟨(by show 1<=sizeLine;decide),fun r0 H2 n2 g2 S2=>?_⟩⟩
  have S02:yL H H2:=fun b o e=>S2 _ _ (S1 _ _ e)
  have nr0:H r0=none:=by
   cases e:H r0 with
   | none=>rfl
   | some o=>rw [S1 _ _ e] at n2;cases n2
  refine ⟨_,rfl,ca,rfl,⟨xs,.of (S02 _ _ hca)⟩,zh9 (K:=K) (xs:=xs) (fun i σ H3=>∃ (ra:Addr) (ys:List V) (v2:Option V),σ=[some (.ref ca),some (.ref ra),v2]/\H ra=none/\H3 ra=some (.lst ys)/\IsL H3 ((yO (cs.take i)).map stD) ys/\yL H H3)
   ⟨r0,_,none,rfl,nr0,g2,⟨_,_,rfl,⟨e0,_,rfl,S2 _ _ g1,rfl⟩,rfl⟩,S02⟩ (fun i σ H3 _ ⟨_,_,_,_,_,_,_,S⟩=>.of (S _ _ hca)) ?_ ?_⟩
  ·rintro i x σ H3 hi ⟨ra,ys,v2,rfl,nra,hra,hys,S3⟩
   have hil:=(List.getElem?_eq_some_iff.mp hi).1
   have hicl:i<cs.length:=by rw [<- hL.1];exact hil
   obtain ⟨wa,hwa,hwl⟩:=hL.2 i cs[i] (List.getElem?_eq_getElem hicl)
   rw [hi] at hwa
   cases hwa
   have hws4:=hc4 cs[i] (List.getElem_mem hicl)
   have htk:cs.take (i+1)=cs.take i++[cs[i]]:=zv (List.getElem?_eq_getElem hicl)
   have hl1:=hall i
   have hl2:=hall (i+1)
   rw [htk,zR] at hl2
   have hyl:=hys.length
   rw [List.length_map] at hyl
   have hrow:∀ row∈yO (cs.take i),row.length<=8:=fun row hr=>by
    rw [zav _ _ hr,List.length_take]
    lia
   generalize cs[i]=ws at hwl hws4 htk hl2
   generalize hrows:yO (cs.take i)=rows at hys hl1 hl2 hyl hrow
   have hwl3:=S3 _ _ hwl
   refine ⟨_,rfl,ra,rfl,⟨_,.of hra⟩,fun acc hacc=>?_⟩
   refine zeW (xs:=ys) hacc (fun j σ' H'=>(∃ v0 v1,σ'=[v0,v1,some (.ref wa)])/\(∃ zs,H' acc=some (.lst zs)/\IsL H' ((yK (rows.take j) ws).map stD) zs)/\yL H3 H') (fun H' z1 z2=>⟨⟨_,_,rfl⟩,⟨[],z1,rfl⟩,z2⟩) (fun _ _ _ _ ⟨_,_,S⟩=>.of (S _ _ hra)) ?_ ?_
   ·rintro j y σ' H4 hy ⟨⟨v0,v1,rfl⟩,⟨zs,hac,hzs⟩,S4⟩
    obtain ⟨d,hd,his⟩:=(hys.stay (zu.same S4)).get hy
    rw [List.getElem?_map] at hd
    obtain ⟨row,hrw,rfl⟩:=Option.map_eq_some_iff.mp hd
    obtain ⟨rwa,rv,rfl,hrwa,hrv⟩:=his
    obtain rfl:=hrv.of_ints
    have hjl:=(List.getElem?_eq_some_iff.mp hrw).1
    have hr8:=hrow row (List.mem_of_getElem? hrw)
    show zfJ _ zag _ _ _ _ _ _ _ _ _
    refine zjs ?_
    refine ⟨_,rfl,wa,rfl,⟨_,.of (S4 _ _ hwl3)⟩,?_⟩
    refine ze3 (xs:=ws.map V.int) (fun m σ' H'=>(∃ v1,σ'=[some (.ref rwa),v1,some (.ref wa)])/\(∃ zs,H' acc=some (.lst zs)/\IsL H' ((yK (rows.take j) ws++(ws.take m).map fun w=>row++[w]).map stD) zs)/\yL H3 H'/\H' rwa=some (.tup (row.map V.int))) ⟨⟨_,rfl⟩,⟨zs,hac,by simpa using hzs⟩,S4,hrwa⟩ (fun _ _ _ _ ⟨_,_,S,_⟩=>.of (S _ _ hwl3)) ?_ ?_
    ·rintro m u σ' H5 hu ⟨⟨v1,rfl⟩,⟨zs,hac,hzs⟩,S5,hrw5⟩
     rw [List.getElem?_map] at hu
     obtain ⟨wv,hwv,rfl⟩:=Option.map_eq_some_iff.mp hu
     have hml:=(List.getElem?_eq_some_iff.mp hwv).1
     refine zlD ⟨_,rfl,_,rfl,(by show 1<=sizeLine;decide),fun t1 H6 _ g6 S6=>?_⟩
     refine ⟨rwa,t1,_,_,rfl,rfl,S6 _ _ hrw5,g6,Nat.le_of_lt (uV (by rw [List.length_map];show row.length+1<=1000;lia)),fun t2 H7 g7 S7=>?_⟩
     have S57:yL H5 H7:=fun b o e=>S7 _ _ (S6 _ _ e)
     have hzl:=hzs.length
     rw [List.length_map,List.length_append,x8,List.length_map,List.length_take,List.length_take] at hzl
     have hcr:=x8 rows ws
     have hprod:(min j rows.length) * ws.length<=65536 * 4:=Nat.mul_le_mul (by lia) hws4
     refine ⟨zs,S57 _ _ hac,Nat.lt_of_le_of_lt (show zs.length<=500000 by lia) (by decide),⟨_,rfl⟩,⟨_,zh,?_⟩,ziQ hacc fun b o e=>S57 _ _ (S5 _ _ e),?_⟩
     ·refine IsL.stayT (zeT.app (S57 _ _ hac)) (uQ _) ?_
      rw [zv hwv,List.map_append (l₁:=ws.take m),<- List.append_assoc,List.map_append]
      refine (hzs.stay (zu.same S57)).append (IsL.one ⟨t2,_,rfl,g7,?_⟩)
      rw [List.map_append]
      exact IsL.ints.append (IsL.ints (ns:=[wv]))
     ·rw [ze (zkp (S57 _ _ hrw5) (S57 _ _ hac) (by intro z;cases z))]
      exact S57 _ _ hrw5
    ·rintro σ' H5 ⟨⟨v1,rfl⟩,⟨zs,hac,hzs⟩,S5,hrw5⟩
     rw [List.length_map,List.take_length] at hzs
     refine ⟨⟨_,_,rfl⟩,⟨zs,hac,?_⟩,S5⟩
     rw [zv hrw,zaL]
     exact hzs
   ·rintro σ' H4 ⟨⟨v0,v1,rfl⟩,⟨zs,hac,hzs⟩,S4⟩
    rw [hyl,List.take_length] at hzs
    refine ⟨acc,zs,_,rfl,?_,hac,?_,fun b o e=>S4 _ _ (S3 _ _ e)⟩
    ·cases e:H acc with
     | none=>rfl
     | some o=>rw [S3 _ _ e] at hacc;cases hacc
    ·rw [htk,zR,hrows]
     exact hzs
  ·rintro σ H3 ⟨ra,ys,v2,rfl,nra,hra,hys,S3⟩
   rw [hL.1,List.take_length] at hys
   exact ⟨_,rfl,k ra ys H3 nra hra hys S3⟩
theorem zdP (T:Txt K mg t):FnOk P w K mg base CX0 1 t.f1 t.d1 ["_law_script"] (ziS K):=by
 refine T.q1.F.okQ zd6 (fun vs H Q E h=>?_) (fun cdv A outer s H vs Q E hr h=>?_)
 ·obtain ⟨a,ns,rfl,_⟩:=h
  rfl
 ·obtain ⟨a,ns,rfl,hS,hl,k⟩:=h
  refine ⟨_,(ye (uU (zk3 (zcb xf (zb9 zhi (qv 0) zgY (zgZ zl)) (zcb xf zl (zcb xf zl zk6))) rfl rfl (by simp) (by decide)))),?_⟩
  intro p hp
  refine ⟨_,rfl,_,rfl,a,_,rfl,(yL.upd hp).seq hS,fun c hc=>?_⟩
  have npc:p≠c:=fun e=>by subst e;rw [zh] at hc;cases hc
  have hc0:H c=none:=by rw [ze (Ne.symm npc)] at hc;exact hc
  refine ⟨by rw [ze npc,zh],uX c 0 0,rfl,(by show 3<=15;decide),?_⟩
  rw [zmN]
  have ecut:zbf (ns.map V.int) none (some 63)=ns.map V.int:=by
   unfold zbf
   rw [HT.sIx_none]
   have e63:HT.sIx (ns.map V.int).length (ns.map V.int).length (some 63)=(ns.map V.int).length:=by
    have:=HT.sIx_nat (ns.map V.int).length (ns.map V.int).length 63
    rw [List.length_map] at this ⊢
    rw [Nat.min_eq_right hl] at this
    exact this
   rw [e63,List.drop_zero,Nat.sub_zero,List.take_length]
  refine k p c _ ⟨⟨0,0,zh,by lia,by lia,by lia⟩,?_,hl⟩ ?_
  ·rw [ze (Ne.symm npc),zh]
   exact congrArg (fun z=>some (HO.lst z)) ecut
  ·intro b o e
   rw [ze (zb e hp),ze (zb e hc0),ze (zb e hp)]
   exact e
theorem xW (T:Txt K mg t):FnOk P w K mg base CX0 1 t.f2 t.d2 ["_law_pen_here","_law_many"] zeJ:=by
 refine T.q2.F.okQ zO (fun vs H Q E h=>?_) (fun cdv A outer s H vs Q E hr h=>?_)
 ·obtain ⟨p,c,ns,n,zE,rfl,_⟩:=h
  rfl
 ·obtain ⟨p,c,ns,n,zE,rfl,hP,hn,h1,h2,k⟩:=h
  have hu:=zgj hr
  obtain ⟨⟨a,l,hp,ha0,han,hl0⟩,hc,hlen⟩:=id hP
  have npc:c≠p:=zkp hc hp (by intro z;cases z)
  refine ⟨_,(zm (zfc (uA zmB (xE hu (qv 0) xf (fun _ _=>rfl)) zl (zD _)) (zm (yd (i:=2) zO.nd rfl (Or.inl rfl) (z5 uS (xE hu (qv 0) xf (fun _ _=>rfl)) (qv 1)))
   (zm (zdZ hu (qv 0) xf (z5 zdV (xE hu (qv 0) xf (fun _ _=>rfl)) (qv 1)) rfl)
   (ye (uU (qv 2))))) zae)
   (zm (yd (i:=3) zO.nd rfl (Or.inl rfl) (xE hu (qv 0) xf (fun _ _=>rfl)))
   (zm (zdZ hu (qv 0) xf (z5 xZ (qv 3) zl) rfl)
   (zm (yd (i:=4) zO.nd rfl (Or.inl rfl) (z5 xZ (z5 xO zl (qv 3)) zl))
   (zm (zfc (uA zmB (yH yJ (by rfl) T.b_len PySem.boot_len (zd (xE hu (qv 0) xf (fun _ _=>rfl)) zA)) zl (zD _)) (ye (yd (i:=4) zO.nd rfl (Or.inl rfl) (zfb xa (xE hu (qv 0) xf (fun _ _=>rfl)) (z5 uS (qv 3) (yH yJ (by rfl) T.b_len PySem.boot_len (zd (xE hu (qv 0) xf (fun _ _=>rfl)) zA))) (fun _ _=>rfl)))) zae)
   (zm (zfc (QW.pt (zjC (uA zky (qv 3) (yH yJ (by rfl) T.b_len PySem.boot_len (zd (xE hu (qv 0) xf (fun _ _=>rfl)) zA)) (zD _)) (zd1 (uA zo4 (yH zfM (by rfl) T.b_abs PyProof.Rows.boot_abs (zd (qv 4) zA)) (z5 zgM zl zl) (zD _))))) (zm (zdZ hu (qv 0) xf (z5 zdV (yH zfM (by rfl) T.b_abs PyProof.Rows.boot_abs (zd (qv 4) zA)) (qv 1)) rfl)
   (ye (uU (z5 uS (yH zfM (by rfl) T.b_abs PyProof.Rows.boot_abs (zd (qv 4) zA)) (qv 1))))) zae)
   (zm (yd (i:=5) zO.nd rfl (Or.inl rfl) (zfb xz (zeE (zd zl (zd zl (zd zl (zd zl (zd zl (zd zl (zd zl zA)))))))) (z5 uS (qv 3) zl) (fun _ _=>rfl)))
   (zm (yd (i:=6) zO.nd rfl (Or.inl rfl) (z5 uS (z5 zgM (z5 xZ (z5 xZ (z5 xZ (z5 uS (qv 4) zl) (z5 xO (z5 xO zl (qv 3)) (qv 3))) (z5 xO zl (qv 3))) zl) zl) (qv 5)))
   (zm (yd (i:=6) zO.nd rfl (Or.inl rfl) (z5 uS (z5 zgM (z5 xZ (z5 xZ (qv 6) (z5 xO zl (qv 3))) zl) zl) zl))
   (ye (uU (z5 uS (z5 zdV (z5 uS (z5 xO (qv 6) zl) zl) zl) (qv 1))))))))))))),?_⟩
  refine ⟨_,rfl,p,_,rfl,zgP hp,_,_,rfl,rfl,_,rfl,zj1 (fun hl=>?_) (fun hl=>?_)⟩
  ·have hl':0<l:=of_decide_eq_true hl
   refine ⟨_,rfl,p,_,rfl,zgP hp,_,rfl,_,_,rfl,rfl,(by show (0:Int)<zE;lia),?_⟩
   refine ⟨_,rfl,p,_,rfl,zgP hp,_,rfl,_,_,rfl,rfl,⟨by show (0:Int)<zE;lia,h2⟩,_,rfl,p,_,rfl,zjx hp _,?_⟩
   refine ⟨_,rfl,k _ _ (Int.emod_nonneg _ (by lia)) (Int.emod_lt_of_pos _ (by lia)) ⟨⟨a,_,zh,ha0,by lia,Int.ediv_nonneg hl0 (by lia)⟩,by rw [ze npc];exact hc,hlen⟩ (zcf hp)⟩
  ·refine ⟨_,rfl,p,_,rfl,zmM hp,?_⟩
   refine ⟨_,rfl,_,_,rfl,rfl,_,rfl,p,_,rfl,zmQ hp _,?_⟩
   have hp1:upd H p (.dK (uX c (a+1) l)) p=some (.dK (uX c (a+1) l)):=zh
   have hc1:upd H p (.dK (uX c (a+1) l)) c=some (.lst (ns.map V.int)):=by rw [ze npc];exact hc
   generalize hH1:upd H p (.dK (uX c (a+1) l))=H1 at hp1 hc1 ⊢
   have st1:zu H H1:=hH1 ▸ zcf hp
   refine ⟨_,rfl,_,_,rfl,rfl,.inl ⟨by lia,by lia⟩,_,_,rfl,rfl,?_⟩
   refine' meet (α:=Int) _ (fun z6=>?_) ?_
   rotate_left
   ·
    refine ⟨_,rfl,p,_,rfl,zeC hp1,_,_,rfl,.inl ⟨_,.of hc1,rfl⟩,_,_,rfl,rfl,_,rfl,zj1 (fun hz=>?_) (fun hz=>?_)⟩
    have hz':0<((ns.map V.int).length:Int):=of_decide_eq_true hz
    obtain ⟨cell,hget⟩:=zlz ns a hz'
    refine ⟨_,rfl,p,_,rfl,zeC hp1,_,rfl,_,rfl,p,_,rfl,zeC hp1,_,_,rfl,.inl ⟨_,.of hc1,rfl⟩,_,_,rfl,rfl,hz',c,_,_,_,rfl,rfl,.of hc1,hget,?_⟩
    exact z6 cell
    exact z6 (41 * a+13)
   ·intro cell
    have nqp:∀ {q:Addr},H1 q=none->p≠q:=fun hq=>zb hp1 hq
    refine' zoW _ (fun z6=>?_) ?_
    rotate_left
    ·refine ⟨_,rfl,_,rfl,p,_,rfl,zeC hp1,_,_,rfl,.inl ⟨_,.of hc1,rfl⟩,_,_,rfl,rfl,_,rfl,zj1 (fun h3=>?_) (fun h3=>?_)⟩
     rotate_left
     ·refine iteF ?_
      exact z6
     refine ⟨_,rfl,_,rfl,_,_,rfl,rfl,⟨by decide,by decide,by decide⟩,_,_,rfl,rfl,_,rfl,zj1 (fun h4=>?_) (fun h4=>?_)⟩
     rotate_left
     ·exact z6
     have ha:0<=(if cell<0 then -cell else cell):=by split <;> lia
     refine ⟨_,rfl,_,rfl,_,rfl,_,_,rfl,rfl,⟨by show (0:Int)<zE;lia,h2⟩,_,rfl,p,_,rfl,zjx hp1 _,?_⟩
     refine ⟨_,rfl,_,rfl,_,rfl,_,_,rfl,rfl,(by show (0:Int)<zE;lia),k _ _ (Int.emod_nonneg _ (by lia)) (Int.emod_lt_of_pos _ (by lia)) ⟨⟨a+1,_,zh,by lia,by lia,Int.ediv_nonneg ha (by lia)⟩,by rw [ze npc];exact hc1,hlen⟩ (st1.trans (zcf hp1))⟩
    ·obtain ⟨pr,hpr,hpr0,hpr1⟩:=zhT a
     obtain ⟨sq0,sq1⟩:=ziT ha0 han hn
     have mm0:=Int.emod_nonneg cell (show (2147483489:Int)≠0 by decide)
     have mm1:=Int.emod_lt_of_pos cell (show (0:Int)<2147483489 by decide)
     refine ⟨by decide,fun q hq=>⟨_,rfl,_,_,rfl,rfl,(by show (0:Int)<7;decide),q,_,_,_,rfl,rfl,SqT.of zh,hpr,?_⟩⟩
     refine ⟨_,rfl,_,_,rfl,rfl,(by show (0:Int)<2147483489;decide),_,rfl,_,_,rfl,rfl,.inl ⟨by lia,by lia⟩,_,rfl,_,_,rfl,rfl,.inl ⟨by lia,by lia⟩,_,_,rfl,rfl,_,rfl,_,_,rfl,rfl,.inl ⟨by lia,by lia⟩,_,_,rfl,rfl,_,_,rfl,rfl,_,_,rfl,rfl,⟨by decide,by decide,?_⟩,_,rfl,_,_,rfl,rfl,hpr0,?_⟩
     ·show (cell % 2147483489+60013 * a * a+40009 * a+733).natAbs<2 ^ 64
      lia
     ·generalize hw1:((cell % 2147483489+60013 * a * a+40009 * a+733) ^ (3:Int).toNat:Int)=w1
      have w0:=Int.emod_nonneg w1 (show pr≠0 by lia)
      have w2:=Int.emod_lt_of_pos w1 hpr0
      refine ⟨_,rfl,_,rfl,_,_,rfl,rfl,.inl ⟨by decide,by decide⟩,_,_,rfl,rfl,_,_,rfl,rfl,_,_,rfl,rfl,⟨by decide,by decide,?_⟩,_,_,rfl,rfl,(by show (0:Int)<2147483477;decide),?_⟩
      ·show (w1 % pr+17 * a+3).natAbs<2 ^ 64
       lia
      ·refine ⟨_,rfl,_,_,rfl,rfl,.inr ⟨by decide,by decide⟩,_,_,rfl,rfl,(by show (0:Int)<2147483423;decide),_,_,rfl,rfl,⟨by decide,by decide⟩,_,rfl,_,_,rfl,rfl,(by show (0:Int)<zE;lia),?_⟩
       refine k _ _ (Int.emod_nonneg _ (by lia)) (Int.emod_lt_of_pos _ (by lia)) ⟨⟨a+1,l,by rw [ze (nqp hq)];exact hp1,by lia,by lia,hl0⟩,by rw [ze (zb hc1 hq)];exact hc1,hlen⟩ (st1.trans (zu.upd hq))
theorem zai (T:Txt K mg t):FnOk P w K mg base CX0 1 t.f3 t.d3 ["_law_room_here"] zhh:=by
 refine T.q3.F.okQ xg (fun vs H Q E h=>?_) (fun cdv A outer s H vs Q E hr h=>?_)
 ·obtain ⟨a,ns,rfl,_⟩:=h
  rfl
 ·obtain ⟨a,ns,rfl,ha,hb,k⟩:=h
  refine ⟨_,(zm (yd (i:=1) xg.nd rfl (Or.inl rfl) zl)
   (zm (zc1 PassesOwn.never rfl (zjA (qv 0)) (x4 (i:=2) xg.nd rfl (Or.inl rfl)) (ye (yd (i:=1) xg.nd rfl (Or.inl rfl) (z5 xO (qv 1) (qv 2)))))
   (ye (uU (qv 1))))),?_⟩
  refine ⟨_,rfl,a,rfl,⟨_,.of ha⟩,zjX (K:=K) (xs:=ns.map V.int) (fun i σ H2=>H2=H/\∃ v,σ=[some (.ref a),some (.int (xm (ns.take i))),v]) ⟨rfl,none,rfl⟩ (fun i σ H2 _ ⟨e,_⟩=>e ▸ .of ha) ?_ ?_⟩
  ·rintro i y σ H2 hi ⟨rfl,v,rfl⟩
   rw [List.getElem?_map] at hi
   obtain ⟨z,hz,rfl⟩:=Option.map_eq_some_iff.mp hi
   have hm:=hb z (List.mem_of_getElem? hz)
   refine ⟨_,rfl,_,rfl,_,_,rfl,rfl,.inr ⟨by lia,by lia⟩,rfl,some (.int z),?_⟩
   rw [zv hz,uc]
   rfl
  ·rintro σ H2 ⟨rfl,v,rfl⟩
   refine ⟨_,rfl,?_⟩
   rw [List.length_map,List.take_length]
   exact k
theorem zcR (T:Txt K mg t):FnOk P w K mg base CX0 2 t.f4 t.d4 ["_law_pen_here","_law_most"] zeK:=by
 have G2:FnOk P w K mg base CX0 1 t.f2 t.d2 ["_law_pen_here","_law_many"] zeJ:=xW T
 have G3:FnOk P w K mg base CX0 1 t.f3 t.d3 ["_law_room_here"] zhh:=zai T
 refine T.q4.F.okQ z7 (fun vs H Q E h=>?_) (fun cdv A outer s H vs Q E hr h=>?_)
 ·obtain ⟨p,c,ns,n,most,rfl,_⟩:=h
  rfl
 ·obtain ⟨p,c,ns,n,most,rfl,hP,hn,hm4,hm256,k⟩:=h
  refine ⟨_,(zm (yd (i:=2) z7.nd rfl (Or.inl rfl) (zba T.q2 G2 hr (zd (qv 0) (zd zl zA))))
   (zm (yd (i:=3) z7.nd rfl (Or.inl rfl) (zfb xa (zeD (zd zl (zd zl (zd zl (zd zl (zd zl (zd (z5 xZ zl (zba T.q2 G2 hr (zd (qv 0) (zd zl zA)))) zA))))))) (qv 2) (fun _ _=>rfl)))
   (zm (yd (i:=4) z7.nd rfl (Or.inl rfl) (zeE zA))
   (zm (zc1 PassesOwn.never rfl (zc0 rfl T.b_range (zd (qv 3) zA)) (x4 (i:=5) z7.nd rfl (Or.inl rfl)) (zm (yd (i:=6) z7.nd rfl (Or.inl rfl) (zfb xa (zeD (zd zl (zd zl (zd (z5 xZ zl (zba T.q2 G2 hr (zd (qv 0) (zd zl zA)))) zA)))) (yH (zjN rfl) (by rfl) T.b_min PyProof.Rows.boot_min (zd (qv 2) (zd zl zA))) (fun _ _=>rfl)))
   (ye (zfc (uA zat (z5 xO (zba T.q3 G3 hr (zd (qv 4) zA)) (qv 6)) (qv 1) (zD _)) (ye (yd (i:=4) z7.nd rfl (Or.inl rfl) (z5 zb6 (qv 4) (zeE (zd (qv 6) zA))))) zae))))
   (ye (uU (qv 4))))))),?_⟩
  refine ⟨_,rfl,p,c,ns,n,6,rfl,hP,by lia,by decide,by decide,fun way H1 w0 w1 P1 S1=>?_⟩
  refine ⟨_,rfl,p,c,ns,n+1,8,rfl,P1,by lia,by decide,by decide,fun r H2 r0 r1 P2 S2=>⟨_,_,rfl,rfl,(by show 6<=sizeLine;decide),fun q hq=>?_⟩⟩
  obtain ⟨mv,hat,hmem⟩:=zdj (xs:=[.int 8,.int 4,.int 1,.int 8,.int 3,.int (1+r)]) (i:=way) w0 (by simpa using w1)
  obtain ⟨zE,rfl,m1,m8⟩:∃ zE:Int,mv = .int zE/\1<=zE/\zE<=8:=by
   simp at hmem
   rcases hmem with rfl | rfl | rfl | rfl | rfl | rfl
   all_goals exact ⟨_,rfl,by lia,by lia⟩
  refine ⟨_,rfl,q,_,_,_,rfl,rfl,SqL.of zh,hat,?_⟩
  have P3:=P2.same (yL.upd (o:=.lst [.int 8,.int 4,.int 1,.int 8,.int 3,.int (1+r)]) hq)
  have S3:zu H (upd H2 q (.lst [.int 8,.int 4,.int 1,.int 8,.int 3,.int (1+r)])):=(S1.trans S2).trans (zu.upd hq)
  generalize upd H2 q (.lst [.int 8,.int 4,.int 1,.int 8,.int 3,.int (1+r)])=H3 at P3 S3 ⊢
  refine ⟨by decide,fun q0 hq0=>?_⟩
  refine ⟨_,rfl,zE,rfl,by lia,by lia,zge (lo:=0) (n:=zE.toNat) (fun i σ H4=>∃ (a:Addr) (rm:List Int) (v1 v2:Option V),σ=[some (.ref p),some (.int most),some (.int way),some (.int zE),some (.ref a),v1,v2]/\
   H4 a=some (.tup (rm.map V.int))/\(∀ x∈rm,2<=x/\x<=4)/\xm rm<=most/\rm.length<=i/\(1<=i->rm≠[])/\Pen H4 p c ns (n+2+i)/\zu H H4)
   ⟨q0,[],none,none,rfl,zh,fun x hx=>by simp at hx,by show (1:Int)<=most;lia,Nat.le_refl _,fun z=>absurd z (by decide),P3.same (yL.upd hq0),S3.trans (zu.upd hq0)⟩ ?_ ?_⟩
  ·rintro i σ H4 hi ⟨a,rm,v1,v2,rfl,ha,hb,hp,hl,hne,P4,S4⟩
   have hi8:i<8:=by lia
   refine ⟨_,rfl,p,c,ns,n+2+i,3,rfl,P4,by lia,by decide,by decide,fun r' H5 r0' r1' P5 S5=>⟨_,_,rfl,rfl,(by show 3<=sizeLine;decide),fun q' hq'=>?_⟩⟩
   have hix:0<=(if (2:Int)<way then 2 else way)/\(if (2:Int)<way then 2 else way)<3:=by split <;> lia
   obtain ⟨ov,hat',hmem'⟩:=zdj (xs:=[.int 2,.int 4,.int (2+r')]) (i:=if (2:Int)<way then 2 else way) hix.1 (by simpa using hix.2)
   obtain ⟨one,rfl,o2,o4⟩:∃ one:Int,ov = .int one/\2<=one/\one<=4:=by
    simp at hmem'
    rcases hmem' with rfl | rfl | rfl
    all_goals exact ⟨_,rfl,by lia,by lia⟩
   refine ⟨_,rfl,_,_,rfl,q',_,_,_,rfl,rfl,SqL.of zh,hat',?_⟩
   have P6:=P5.same (yL.upd (o:=.lst [.int 2,.int 4,.int (2+r')]) hq')
   have S6:zu H4 (upd H5 q' (.lst [.int 2,.int 4,.int (2+r')])):=S5.trans (zu.upd hq')
   generalize upd H5 q' (.lst [.int 2,.int 4,.int (2+r')])=H6 at P6 S6 ⊢
   have ha6:=S6.tup ha
   refine ⟨_,rfl,a,rm,rfl,ha6,hb,_,rfl,_,_,rfl,rfl,.inr ⟨by lia,by lia⟩,_,rfl,_,_,rfl,rfl,_,rfl,zj1 (fun h1=>?_) (fun h1=>?_)⟩
   ·have h1':=of_decide_eq_true h1
    refine ⟨_,rfl,_,rfl,(by show 1<=sizeLine;decide),fun q7 hq7=>?_⟩
    refine ⟨a,q7,rm.map V.int,[.int one],rfl,rfl,by rw [ze (zb ha6 hq7)];exact ha6,zh,?_,fun a' H7 ha7 S7=>?_⟩
    ·rw [List.length_map]
     exact Nat.le_of_lt (uV (by simp only [List.length_singleton];lia))
    ·refine ⟨a',rm++[one],some (.int (0+(i:Int))),some (.int one),rfl,?_,?_,?_,?_,fun _=>by simp,?_,?_⟩
     ·rw [List.map_append]
      exact ha7
     ·intro x hx
      rcases List.mem_append.mp hx with z | z
      ·exact hb x z
      ·rw [List.mem_singleton.mp z]
       exact ⟨o2,o4⟩
     ·rw [uc]
      exact h1'
     ·rw [List.length_append]
      simp
      lia
     ·exact (P6.same fun b o e=>S7 b o (yL.upd hq7 b o e)).mono (by lia)
     ·exact S4.trans (S6.trans ((zu.upd hq7).trans (zu.same S7)))
   ·have h1':¬ (xm rm * one<=most):=fun z=>h1 (decide_eq_true z)
    refine ⟨a,rm,some (.int (0+(i:Int))),some (.int one),rfl,ha6,hb,hp,by lia,fun _ e=>?_,P6.mono (by lia),S4.trans S6⟩
    subst e
    have:xm []=1:=rfl
    rw [this] at h1'
    lia
  ·rintro σ H4 ⟨a,rm,v1,v2,rfl,ha,hb,hp,hl,hne,P4,S4⟩
   exact ⟨_,rfl,k a rm H4 ha (hne (by lia)) (by lia) hb hp (P4.mono (by lia)) S4⟩
theorem zbX (T:Txt K mg t):FnOk P w K mg base CX0 2 t.f5 t.d5 ["_law_pen_here","_law_room_here","_law_apart"] zc7:=by
 have G2:FnOk P w K mg base CX0 1 t.f2 t.d2 ["_law_pen_here","_law_many"] zeJ:=xW T
 refine T.q5.F.okQ zK (fun vs H Q E h=>?_) (fun cdv A outer s H vs Q E hr h=>?_)
 ·obtain ⟨p,c,ra,ns,rm,n,apart,rfl,_⟩:=h
  rfl
 ·obtain ⟨p,c,ra,ns,rm,n,apart,rfl,hP,hn,hR,k⟩:=h
  have hpos:=hR.pos
  have hfew:=hR.few
  refine ⟨_,(zm (yd (i:=3) zK.nd rfl (Or.inl rfl) (zba T.q2 G2 hr (zd (qv 0) (zd zl zA))))
   (zm (yd (i:=4) zK.nd rfl (Or.inl rfl) (zba T.q2 G2 hr (zd (qv 0) (zd (yH yJ (by rfl) T.b_len PySem.boot_len (zd (qv 1) zA)) zA))))
   (zm (yd (i:=5) zK.nd rfl (Or.inl rfl) (zeD zA))
   (zm (zc1 PassesOwn.never rfl (zgX rfl T.b_enumerate (zd (qv 1) zA)) (zjz rfl (zca (x4 (i:=6) zK.nd rfl (Or.inl rfl)) (zca (x4 (i:=7) zK.nd rfl (Or.inl rfl)) zgW))) (zm (yd (i:=8) zK.nd rfl (Or.inl rfl) (zba T.q2 G2 hr (zd (qv 0) (zd (qv 7) zA))))
   (zm (yd (i:=9) zK.nd rfl (Or.inl rfl) (zfb xa (zeD (zd zk0 (zd zk0 (zd (zb8 zkx (qv 6) (qv 4) (zD _)) (zd (zb8 zkx (zba T.q2 G2 hr (zd (qv 0) (zd zl zA))) zl (zD _)) (zd (zb8 zkx (zba T.q2 G2 hr (zd (qv 0) (zd zl zA))) zl (zD _)) zA)))))) (qv 3) (fun _ _=>rfl)))
   (ye (zfc (QW.pt (zjC (zjB (qv 9)) (zd1 (uA zcY (qv 6) (qv 2) (zD _))))) (ye (zk7 (zm5 (qv 5) (zd (zeE (zd (qv 6) (zd (qv 8) zA))) zA)))) zae)))))
   (ye (uU (uT zaK (by rfl) T.b_tuple PyProof.Rows.boot_tuple (zd (qv 5) zA)))))))),?_⟩
  refine ⟨_,rfl,p,c,ns,n,5,rfl,hP,by lia,by decide,by decide,fun way H1 w0 w1 P1 S1=>?_⟩
  have hR1:=hR.stay S1
  refine ⟨_,rfl,_,rfl,_,_,rfl,.inr ⟨_,.of hR1.at',rfl⟩,p,c,ns,n+1,_,rfl,P1,by lia,by rw [List.length_map];lia,by rw [List.length_map];lia,fun lone H2 l0 l1 P2 S2=>?_⟩
  refine ⟨by decide,fun fa hfa=>?_⟩
  have S12:=S1.trans S2
  have hfa0:∀ b o,H b=some o->(∀ kvs,o = .dK kvs->uY kvs (Sum.inr "at" : Key)=none)->b≠fa:=fun b o e nn=>zb (S12 b o e nn) hfa
  refine ⟨_,rfl,ra,rfl,⟨_,.of ((hR1.stay S2).stay (zu.upd hfa)).at'⟩,zh8 (K:=K) (xs:=rm.map V.int) (fun i σ H3=>∃ (g:List (Int×Int)) (gs:List V) (v1 v2 v3 v4:Option V),
   σ=[some (.ref p),some (.ref ra),some (.int apart),some (.int way),some (.int lone),some (.ref fa),v1,v2,v3,v4]/\H3 fa=some (.lst gs)/\IsL H3 (g.map yN) gs/\Giv rm g/\(∀ q∈g,q.1<i/\q.1≠apart)/\g.length<=i/\Pen H3 p c ns (n+2+3 * i)/\zu H H3)
   ⟨[],[],none,none,none,none,rfl,zh,rfl,⟨fun q hq=>by simp at hq,List.Pairwise.nil⟩,fun q hq=>by simp at hq,Nat.le_refl _,P2.same (yL.upd hfa),S12.trans (zu.upd hfa)⟩
   (fun i σ H3 _ ⟨g,gs,v1,v2,v3,v4,_,_,_,_,_,_,_,S3⟩=>.of (hR.stay S3).at') ?_ ?_⟩
  ·rintro i x TT σ H3 hi ⟨g,gs,v1,v2,v3,v4,rfl,hf3,hg3,hG,hq,hgl,P3,S3⟩ hTT
   rw [List.getElem?_map] at hi
   obtain ⟨mi,hmi,rfl⟩:=Option.map_eq_some_iff.mp hi
   have hil:i<rm.length:=(List.getElem?_eq_some_iff.mp hmi).1
   have hmb:=hR.box mi (List.mem_of_getElem? hmi)
   have hmany:zE rm (i:Int)=mi:=by unfold zE;simp [hmi]
   have P3':=P3.same (yL.upd (o:=.tup [.int (i:Int),.int mi]) hTT)
   have S34:zu H3 (upd H3 TT (.tup [.int (i:Int),.int mi])):=zu.upd hTT
   have hT4:upd H3 TT (.tup [.int (i:Int),.int mi]) TT=some (.tup [.int (i:Int),.int mi]):=zh
   generalize upd H3 TT (.tup [.int (i:Int),.int mi])=H4 at P3' S34 hT4 ⊢
   refine ⟨TT,_,rfl,.of hT4,rfl,_,_,rfl,_,_,rfl,rfl,?_⟩
   refine ⟨_,rfl,_,rfl,p,c,ns,n+2+3 * i,mi,rfl,P3',by lia,by lia,by lia,fun worth H5 wo0 wo1 P5 S5=>?_⟩
   refine ⟨_,rfl,_,rfl,rfl,?_⟩
   refine ⟨_,rfl,p,c,ns,n+2+3 * i+1,2,rfl,P5,by lia,by decide,by decide,fun r1 H6 _ _ P6 S6=>⟨rfl,?_⟩⟩
   refine ⟨_,rfl,p,c,ns,n+2+3 * i+2,4,rfl,P6,by lia,by decide,by decide,fun r2 H7 _ _ P7 S7=>⟨rfl,(by show 5<=sizeLine;decide),fun q hq7=>?_⟩⟩
   obtain ⟨v,hat,hmem⟩:=zdj (i:=way) (xs:=[.bl false,.bl true,.bl (decide (V.int i=V.int lone)),.bl (decide (V.int r1=V.int 0)),.bl (decide (V.int r2=V.int 0))]) w0 (by simpa using w1)
   have hb:∃ b,v = .bl b:=by
    simp only [List.mem_cons,List.not_mem_nil,or_false] at hmem
    rcases hmem with rfl | rfl | rfl | rfl | rfl <;> exact ⟨_,rfl⟩
   obtain ⟨b,rfl⟩:=hb
   have S8:yL H7 (upd H7 q (.lst [.bl false,.bl true,.bl (decide (V.int i=V.int lone)),.bl (decide (V.int r1=V.int 0)),.bl (decide (V.int r2=V.int 0))])):=yL.upd hq7
   refine ⟨_,rfl,q,_,_,_,rfl,rfl,SqL.of zh,hat,?_⟩
   generalize upd H7 q (.lst [.bl false,.bl true,.bl (decide (V.int i=V.int lone)),.bl (decide (V.int r1=V.int 0)),.bl (decide (V.int r2=V.int 0))])=H8 at S8 ⊢
   have P8:=P7.same S8
   have S38:zu H3 H8:=(S34.trans S5).trans ((S6.trans S7).trans (zu.same S8))
   have hf8:=S38.lst hf3
   have hg8:=hg3.stay S38
   have S8':=S3.trans S38
   have skip:∀ v1 v2 v3 v4:Option V,∃ (g':List (Int×Int)) (gs':List V) (u1 u2 u3 u4:Option V),[some (.ref p),some (.ref ra),some (.int apart),some (.int way),some (.int lone),some (.ref fa),v1,v2,v3,v4]=[some (.ref p),some (.ref ra),some (.int apart),some (.int way),some (.int lone),some (.ref fa),u1,u2,u3,u4]/\H8 fa=some (.lst gs')/\IsL H8 (g'.map yN) gs'/\Giv rm g'/\(∀ q∈g',q.1<((i+1:Nat):Int)/\q.1≠apart)/\g'.length<=i+1/\Pen H8 p c ns (n+2+3 * (i+1))/\zu H H8:=fun v1 v2 v3 v4=>
    ⟨g,gs,v1,v2,v3,v4,rfl,hf8,hg8,hG,fun q hq'=>⟨by have:=(hq q hq').1;lia,(hq q hq').2⟩,by lia,P8.mono (by lia),S8'⟩
   refine ⟨_,rfl,b,rfl,zj1 (fun h1=>?_) (fun h1=>?_)⟩
   ·refine ⟨_,rfl,_,rfl,rfl,_,rfl,zj1 (fun h2=>?_) (fun h2=>?_)⟩
    ·have h2':(i:Int)≠apart:=fun e=>by rw [e] at h2;simp at h2
     refine ⟨_,rfl,.inl ⟨rfl,_,SqL.of hf8⟩,_,rfl,_,rfl,(by show 2<=sizeLine;decide),fun T9 hT9=>?_⟩
     have hf9:upd H8 T9 (.tup [.int (i:Int),.int worth]) fa=some (.lst gs):=yL.upd hT9 _ _ hf8
     have hc:c≠fa:=hfa0 _ _ hP.ls (fun _ e=>by cases e)
     refine ⟨fa,gs,_,rfl,rfl,hf9,?_,?_⟩
     ·have e1:=hg3.length
      rw [List.length_map] at e1
      rw [e1]
      refine Nat.lt_of_lt_of_le (Nat.lt_of_le_of_lt hgl (Nat.lt_of_lt_of_le hil hfew)) ?_
      show 8<=sizeLine
      decide
     ·have S89:zu H8 (upd H8 T9 (.tup [.int (i:Int),.int worth])):=zu.upd hT9
      refine ⟨g++[((i:Int),worth)],gs++[.ref T9],_,_,_,_,rfl,zh,?_,hG.snoc (fun q hq'=>(hq q hq').1) (by lia) (by lia) wo0 (by rw [hmany];exact wo1),?_,by rw [List.length_append];show g.length+1<=i+1;lia,((P8.same (yL.upd hT9)).app hf9 hc).mono (by lia),ziU (S8'.trans S89) hfa0⟩
      ·rw [List.map_append]
       refine IsL.stayT (zeT.app hf9) ?_ ?_
       ·rw [<- List.map_append];exact zcM _
       ·exact (hg8.stay S89).append (IsL.one ⟨T9,_,rfl,zh,IsL.ints (ns:=[(i:Int),worth])⟩)
      ·intro q hq'
       rcases List.mem_append.mp hq' with z | z
       ·exact ⟨by have:=(hq q z).1;lia,(hq q z).2⟩
       ·rw [List.mem_singleton.mp z];exact ⟨by show (i:Int)<((i+1:Nat):Int);lia,h2'⟩
    ·exact skip _ _ _ _
   ·exact iteF (skip _ _ _ _)
  ·rintro σ H3 ⟨g,gs,v1,v2,v3,v4,rfl,hf3,hg3,hG,hq,hgl,P3,S3⟩
   rw [List.length_map] at hgl P3
   refine ⟨_,rfl,fa,gs,rfl,.inl ⟨.of hf3,fun l hl=>?_⟩⟩
   exact k l g _ ⟨l,gs,rfl,zh,hg3.stay (zu.upd hl)⟩ hG (fun q hq'=>(hq q hq').2) (by lia) ((P3.same (yL.upd hl)).mono (by lia)) (S3.trans (zu.upd hl))
theorem zaj (T:Txt K mg t):FnOk P w K mg base CX0 1 t.f0 t.d0 ["choices"] (spV 1 true zbl):=FnOk.lift (FnOk.mono (zdQ T) (by decide)) zbS
theorem zbY (T:Txt K mg t):FnOk P w K mg base CX0 1 t.f2 t.d2 ["_law_pen_here","_law_many"] (spV 2 false zi7):=FnOk.lift (FnOk.mono (xW T) (by decide)) zgA
theorem zis (T:Txt K mg t):FnOk P w K mg base CX0 1 t.f3 t.d3 ["_law_room_here"] (spV 1 false zi9):=FnOk.lift (FnOk.mono (zai T) (by decide)) zgB
theorem zbZ (T:Txt K mg t):FnOk P w K mg base CX0 2 t.f4 t.d4 ["_law_pen_here","_law_most"] (spV 2 false zee):=FnOk.lift (FnOk.mono (zcR T) (by decide)) zdL
theorem zbh (T:Txt K mg t):FnOk P w K mg base CX0 2 t.f5 t.d5 ["_law_pen_here","_law_room_here","_law_apart"] (spV 3 false zcp):=FnOk.lift (FnOk.mono (zbX T) (by decide)) zcJ
def zhH  : FV:=fun Pn ws n R=>∃ (st:List Int) (b x:Int),ws=[.d (stD st),.d (.int b),.d (.int x)]/\(0<=b)/\(st.length<=1000)/\(R (.d (stD (chg st b x))) n)
theorem zhH.i  {Pn:Option zj} {n:Nat} {R:W->Nat->Prop} {st:List Int} {b x:Int} (b0:0<=b) (hz:st.length<=1000) (h:R (.d (stD (chg st b x))) n)  : zhH Pn [.d (stD st),.d (.int b),.d (.int x)] n R:=⟨st,b,x,rfl,b0,hz,h⟩
theorem zdR (T:Txt K mg t):FnOk P w K mg base CX0 1 t.f6 t.d6 ["standing","box","worth"] (spV 3 false zhH):=by
 refine Fun.okW (k:=0) (fr:=false) [] 0 T.q6.F zfg rfl (by decide) rfl fun cdv A outer s H E Pn hr=>⟨_,(zg (zw (zfv zb6 zjD (JE.bo (zfv zb6 zjD (JE.bo (wE zgG <| zl4 (kb 0) zdI (wO zbU <| zdJ (kb 1)))) (JE.bo (zj9 (zc (kv 2) zn))))) (JE.bo (wE zgG <| zl4 (kb 0) (wO zbU <| zdJ (JE.bo (zfv xZ znK (kb 1) (JE.bo yh)))) zdI))))),fun ws n R hF=>?_⟩
 obtain ⟨st,b,x,rfl,b0,hz,r⟩:=hF
 walk_at "st"
 refine ⟨zhW hz,?_⟩
 walk_at "st"
 refine ⟨zhX hz,?_⟩
 rw [zjK b0 hz]
 exact r
def zhM  : FV:=fun Pn ws n R=>∃ (st:List Int) (g:List (Int×Int)),ws=[.d (stD st),.d (zar g)]/\(∀ q∈g,0<=q.1/\q.1<st.length)/\(R (.d (.bl (xL st g))) n)
theorem zhM.i  {Pn:Option zj} {n:Nat} {R:W->Nat->Prop} {st:List Int} {g:List (Int×Int)} (hg:∀ q∈g,0<=q.1/\q.1<st.length) (h:R (.d (.bl (xL st g))) n)  : zhM Pn [.d (stD st),.d (zar g)] n R:=⟨st,g,rfl,hg,h⟩
theorem zgJ (T:Txt K mg t):FnOk P w K mg base CX0 1 t.f7 t.d7 ["standing","given"] (spV 2 false zhM):=by
 refine Fun.okW (k:=0) (fr:=false) [] 2 T.q7.F zcd rfl (by decide) rfl fun cdv A outer s H E Pn hr=>⟨_,(zf (xT PassesOwn.never rfl (wI ux <| zaU K rfl (kv 1)) (wG zbq <| zbs (n:=2) K rfl rfl (wH xJ <| yi (wG yw <| zB (i:=2) zcd.nd rfl (Or.inl rfl)) (wH xJ <| yi (wG yw <| zB (i:=3) zcd.nd rfl (Or.inl rfl)) (wH zbp zaa)))) (zg (wS zM <| xt (wT zp <| yc zcY zlk (JE.bo (zbP xz zau (kb 0) (kb 2) (fun _ _=>rfl))) (kb 3) (zD _)) (zg (zw uH)) zL)))
   (zg (zw uH))),fun ws n R hF=>?_⟩
 obtain ⟨st,g,rfl,hg,r⟩:=hF
 walk_at "st"
 refine xB g (fun q=>.d (yN q)) (by rw [List.map_map];rfl) (fun i ρ m=>m=n/\(∃ v2 v3,ρ=[some (.d (stD st)),some (.d (zar g)),v2,v3])/\xL st (g.take i)=true) ⟨rfl,⟨_,_,rfl⟩,rfl⟩ ?_ ?_
 ·rintro i q ρ m hq ⟨rfl,⟨v2,v3,rfl⟩,hk⟩ C B E hC _ hE
  have hb:=hg q (List.mem_of_getElem? hq)
  walk_at "st"
  refine onA hb.1 hb.2 ?_
  walk_at "st"
  refine ze9 (fun h=>?_) (fun h=>?_)
  ·walk_at "st"
   refine hE ?_
   have e:xL st g=false:=by
    unfold xL
    exact List.all_eq_false.mpr ⟨q,List.mem_of_getElem? hq,fun z=>h (of_decide_eq_true z)⟩
   rw [e] at r
   exact r
  ·walk_at "st"
   refine hC ⟨rfl,⟨_,_,rfl⟩,?_⟩
   unfold xL at hk ⊢
   rw [zv hq,List.all_append,hk]
   simp [h]
 ·rintro ρ m ⟨rfl,⟨v2,v3,rfl⟩,hk⟩
  rw [List.take_length] at hk
  rw [hk] at r
  walk_at "st"
  exact r
def xo  : FV:=fun Pn ws n R=>∃ (rm:List Int) (g:List (Int×Int)),ws=[.d (stD rm),.d (zar g)]/\(RoomOk rm)/\(Giv rm g)/\(R (.d (zbj (zW rm g))) n)
theorem xo.i  {Pn:Option zj} {n:Nat} {R:W->Nat->Prop} {rm:List Int} {g:List (Int×Int)} (hR:RoomOk rm) (hG:Giv rm g) (h:R (.d (zbj (zW rm g))) n)  : xo Pn [.d (stD rm),.d (zar g)] n R:=⟨rm,g,rfl,hR,hG,h⟩
theorem za6 (T:Txt K mg t):FnOk P w K mg base CX0 2 t.f8 t.d8 ["room","given"] (spV 2 true xo):=by
 have G0:=zaj (P:=P) (w:=w) (base:=base) T
 refine Fun.okW (k:=1) (fr:=true) [] 1 T.q8.F zbA rfl (by decide) rfl fun cdv A outer s H E Pn hr=>⟨_,(zf (wS zz <| zS (i:=2) zbA.nd rfl (Or.inr rfl) (xC (zel rfl) zhw (by rfl) T.b_dict PyProof.Rows.boot_dict (zk (kb 1) zt)))
   (zg (zw (wE zC <| ug T.q0 G0 hr (zc (zbr (N:=["box","worths","fixed"]) (cix:=[none,none,some 2]) rfl ⟨rfl,by decide +kernel,rfl⟩ (wI zdM <| zdH rfl T.b_enumerate (zc (kv 0) zn)) (fun _ _ _ _=>(wG zbq <| zbs (n:=2) K rfl rfl (wH xJ <| yi (wG yw <| zB (i:=0) (show (["box","worths","fixed"]:List Str).Nodup by decide +kernel) rfl (Or.inl rfl)) (wH xJ <| yi (wG yw <| zB (i:=1) (show (["box","worths","fixed"]:List Str).Nodup by decide +kernel) rfl (Or.inl rfl)) (wH zbp zaa))))) (fun _ _ _ _=>ut) (fun _ _ _ _=>(wE zmi <| j_if (wT zin <| zl8 (zgj hr) (kb 0) (kb 2)) (zdG (zc (wE zil <| zl3 (zgj hr) (kb 2) (kb 0) (fun _ _=>rfl)) zn)) (wE za1 <| zcD T.b_list T.b_range (zk (kb 1) zt))))) zn))))),fun ws n R hF=>?_⟩
 obtain ⟨rm,g,rfl,hR,hG,r⟩:=hF
 walk_at "st"
 have hps:g.map yN=(g.map fun q=>(q.1,Dt.int q.2)).map prD:=by rw [List.map_map];rfl
 have hfew:=zdC hG hR.few
 have hnd:(g.map (·.1)).Nodup:=List.Pairwise.map (fun q:Int×Int=>q.1) (fun a b h e=>by lia) hG.up
 refine ⟨g.map fun q=>(q.1,Dt.int q.2),hps,?_,by rw [List.length_map];lia,?_⟩
 ·rw [List.map_map]
  exact hnd
 generalize hkv:List.map kvD (List.map (fun q:Int×Int=>(q.1,Dt.int q.2)) g)=kvs
 have hlook:∀ i:Nat,xl kvs (Sum.inl (i:Int))=(gw g i).map Dt.int:=fun i=>by
  rw [<- hkv]
  exact zgE g i
 walk_at "st"
 refine zaJ (List.range rm.length) (fun i=>W.d (.tup [.int (i:Int),.int (rm.getD i 0)])) (zdx rm) (fun ρ=>∃ a b,ρ=[a,b,some (.dk kvs)]) (fun i=>lsD (cho rm g i)) (Nat.le_trans (by rw [List.length_range];exact hR.few) (by decide)) ⟨_,_,rfl⟩ ?_ ?_
 ·rintro i hi ρ' ⟨a,b,rfl⟩ C hC
  have hi':=List.mem_range.mp hi
  have hb:=hR.box _ (List.getElem_mem hi')
  have e:rm.getD i 0=rm[i]:=by simp [hi']
  have hC':C [some (.d (.int (i:Int))),some (.d (.int (rm.getD i 0))),some (.dk kvs)] n (lsD (cho rm g i)):=hC ⟨_,_,rfl⟩
  unfold cho at hC'
  walk_at "st"
  cases hg:gw g i with
  | some v=>
   rw [hg] at hC'
   have hl:=hlook i
   rw [hg] at hl
   refine zmq (by rw [hl];rfl) ?_
   walk_at "st"
   exact zcW hl hC'
  | none=>
   rw [hg] at hC'
   have hl:=hlook i
   rw [hg] at hl
   refine zkt (by rw [hl];rfl) ?_
   walk_at "st"
   refine ⟨⟨by lia,by lia⟩,?_⟩
   have e2:lsD (zx (rm.getD i 0))=Dt.lst (zha (rm.getD i 0).toNat):=by unfold lsD zx zha;rw [List.map_map];rfl
   rw [<- e2]
   exact hC'
 ·walk_at "st"
  refine ⟨chs rm g,by unfold chs;rw [List.map_map];rfl,by unfold chs;rw [List.length_map,List.length_range];exact hR.few,fun c hc=>?_,r⟩
  obtain ⟨i,hi,rfl⟩:=List.mem_map.mp hc
  have hi':=List.mem_range.mp hi
  have hb:=hR.box _ (List.getElem_mem hi')
  have e:rm.getD i 0=rm[i]:=by simp [hi']
  unfold cho
  cases gw g i with
  | some v=>simp
  | none=>rw [yQ];lia
def zlr  : FV:=fun Pn ws n R=>∃ (i:Int),ws=[.d (.int i)]/\(R (.d (.bl true)) n)
theorem zlr.i  {Pn:Option zj} {n:Nat} {R:W->Nat->Prop} {i:Int}  (h:R (.d (.bl true)) n)  : zlr Pn [.d (.int i)] n R:=⟨i,rfl,h⟩
theorem xY (T:Txt K mg t):FnOk P w K mg base CX0 1 t.f9 t.d9 ["thing"] (spV 1 false zlr):=by
 refine Fun.okW (k:=0) (fr:=false) [] 0 T.q9.F zd8 rfl (by decide) rfl fun cdv A outer s H E Pn hr=>⟨_,(zg (zw (wE uO <| zgp (JE.bo (wE zab <| zcC (by rfl) T.b_isinstance T.b_int (kb 0))) (zgr (wE zim <| zoB (JE.bo (wE zab <| zbO (by rfl) T.b_isinstance T.b_bool (kb 0)))))))),fun ws n R hF=>?_⟩
 obtain ⟨i,rfl,r⟩:=hF
 walk_at "st"
 exact r
def zfz  : FV:=fun Pn ws n R=>∃ (rm:List Int),ws=[.d (stD rm)]/\(rm.length<=8)/\(∀ r∈rm,2<=r/\r<=4)/\(R (.d (.int (xm rm))) n)
theorem zfz.i  {Pn:Option zj} {n:Nat} {R:W->Nat->Prop} {rm:List Int} (h8:rm.length<=8) (hb:∀ r∈rm,2<=r/\r<=4) (h:R (.d (.int (xm rm))) n)  : zfz Pn [.d (stD rm)] n R:=⟨rm,rfl,h8,hb,h⟩
theorem uk (T:Txt K mg t):FnOk P w K mg base CX0 1 t.f10 t.d10 ["room"] (spV 1 false zfz):=by
 refine Fun.okW (k:=0) (fr:=false) [] 2 T.q10.F yP rfl (by decide) rfl fun cdv A outer s H E Pn hr=>⟨_,(zf (wS zz <| zS (i:=1) yP.nd rfl (Or.inl rfl) yh)
   (zf (xT PassesOwn.never rfl (wI ux <| zaU K rfl (kv 0)) (wG yw <| zB (i:=2) yP.nd rfl (Or.inl rfl)) (zg (wS zz <| zS (i:=1) yP.nd rfl (Or.inl rfl) (zfv xO zi1 (kb 1) (kb 2)))))
   (zg (zw (kv 1))))),fun ws n R hF=>?_⟩
 obtain ⟨rm,rfl,h8,hb,r⟩:=hF
 walk_at "st"
 refine xB rm (fun i=>.d (.int i)) (by rw [List.map_map];rfl) (fun i ρ m=>m=n/\∃ v,ρ=[some (.d (stD rm)),some (.d (.int (xm (rm.take i)))),v]) ⟨rfl,none,rfl⟩ ?_ ?_
 ·rintro i a ρ m ha ⟨rfl,v,rfl⟩ C B E hC _ _
  have hm:=hb a (List.mem_of_getElem? ha)
  walk_at "st"
  refine ⟨.inr ⟨by lia,by lia⟩,hC ⟨rfl,some (.d (.int a)),?_⟩⟩
  rw [zv ha,uc]
 ·rintro ρ m ⟨rfl,v,rfl⟩
  rw [List.take_length]
  walk_at "st"
  exact r
def zhG  : FV:=fun Pn ws n R=>∃ (rm:List Int),ws=[.d (stD rm),.d (.int 8)]/\(RoomOk rm)/\(R (.d (.bl true)) n)
theorem zhG.i  {Pn:Option zj} {n:Nat} {R:W->Nat->Prop} {rm:List Int} (hR:RoomOk rm) (h:R (.d (.bl true)) n)  : zhG Pn [.d (stD rm),.d (.int 8)] n R:=⟨rm,rfl,hR,h⟩
theorem zb1 (T:Txt K mg t):FnOk P w K mg base CX0 2 t.f11 t.d11 ["thing","most"] (spV 2 false zhG):=by
 have G9:=xY (P:=P) (w:=w) (base:=base) T
 refine Fun.okW (k:=1) (fr:=false) [] 1 T.q11.F zao rfl (by decide) rfl fun cdv A outer s H E Pn hr=>⟨_,(zf (wS zM <| xt (JW.t (wW xM <| zas (wT y4 <| xU (wT zp <| uI (JE.bo (wE zab <| yG (by rfl) T.b_isinstance T.b_tuple (kb 0))))) (xK (.inr rfl) (wT y4 <| xU (wT zey <| zes zat zat zhx zhx (JE.bo yh) (JE.bo (yk yJ zah (by rfl) T.b_len PySem.boot_len (zk (kb 0) zt))) (kb 1)))))) (zg (zw uH)) zL)
   (zf (xT PassesOwn.never rfl (wI ux <| zaU K rfl (kv 0)) (wG yw <| zB (i:=2) zao.nd rfl (Or.inl rfl)) (zg (wS zM <| xt (JW.t (wW xM <| zas (wT y4 <| xU (wT zp <| uI (JE.bo (wE zC <| ug T.q9 G9 hr (zc (kv 2) zn))))) (xK (.inr rfl) (wT y4 <| xU (wT zey <| zes zat zat zhx zhx (JE.bo (zaT rfl T.c_LEAST_WORTHS)) (kb 2) (JE.bo (zaT rfl T.c_MOST_WORTHS))))))) (zg (zw uH)) zL)))
   (zg (zw uH)))),fun ws n R hF=>?_⟩
 obtain ⟨rm,rfl,hR,r⟩:=hF
 walk_at "st"
 have h1:=hR.pos
 have h8:=hR.few
 refine zcV (fun h=>?_) (fun h=>absurd (by rw [List.length_map];lia) h)
 walk_at "st"
 refine zcV (fun h=>?_) (fun h=>absurd (by rw [List.length_map];lia) h)
 walk_at "st"
 refine xB rm (fun i=>.d (.int i)) (by rw [List.map_map];rfl) (fun i ρ m=>m=n/\∃ v,ρ=[some (.d (stD rm)),some (.d (.int 8)),v]) ⟨rfl,none,rfl⟩ ?_ ?_
 ·rintro i a ρ m ha ⟨rfl,v,rfl⟩ C B E hC _ _
  have hm:=hR.box a (List.mem_of_getElem? ha)
  walk_at "st"
  refine zlr.i ?_
  walk_at "st"
  refine zcV (fun h=>?_) (fun h=>absurd hm.1 h)
  walk_at "st"
  refine zcV (fun h=>?_) (fun h=>absurd hm.2 h)
  walk_at "st"
  exact hC ⟨rfl,_,rfl⟩
 ·rintro ρ m ⟨rfl,v,rfl⟩
  walk_at "st"
  exact r
def zhK  : FV:=fun Pn ws n R=>∃ (rm:List Int),ws=[.d (stD rm)]/\(RoomOk rm)/\(xm rm<=256)/\(R (.d (.bl true)) n)
theorem zhK.i  {Pn:Option zj} {n:Nat} {R:W->Nat->Prop} {rm:List Int} (hR:RoomOk rm) (hp:xm rm<=256) (h:R (.d (.bl true)) n)  : zhK Pn [.d (stD rm)] n R:=⟨rm,rfl,hR,hp,h⟩
theorem zdS (T:Txt K mg t):FnOk P w K mg base CX0 3 t.f12 t.d12 ["thing"] (spV 1 false zhK):=by
 have G10:=uk (P:=P) (w:=w) (base:=base) T
 have G11:=zb1 (P:=P) (w:=w) (base:=base) T
 refine Fun.okW (k:=2) (fr:=false) [] 0 T.q12.F zfh rfl (by decide) rfl fun cdv A outer s H E Pn hr=>⟨_,(zg (zw (wE uO <| zgp (JE.bo (wE zC <| ug T.q11 G11 hr (zc (kv 0) (zc (zaT rfl T.c_MOST_BOXES) zn)))) (zgr (zif zat zhx (JE.bo (wE zC <| ug T.q10 G10 hr (zc (kv 0) zn))) (JE.bo (zaT rfl T.c_MOST_STANDINGS)) (zD _)))))),fun ws n R hF=>?_⟩
 obtain ⟨rm,rfl,hR,hp,r⟩:=hF
 walk_at "st"
 refine zhG.i hR ?_
 walk_at "st"
 refine zfz.i hR.few hR.box ?_
 walk_at "st"
 rw [decide_eq_true hp]
 exact r
def zhQ  : FV:=fun Pn ws n R=>∃ (rm:List Int),ws=[.d (stD rm)]/\(RoomOk rm)/\(R (.d (.bl (decide (xm rm<=64)))) n)
theorem zhQ.i  {Pn:Option zj} {n:Nat} {R:W->Nat->Prop} {rm:List Int} (hR:RoomOk rm) (h:R (.d (.bl (decide (xm rm<=64)))) n)  : zhQ Pn [.d (stD rm)] n R:=⟨rm,rfl,hR,h⟩
theorem zcT (T:Txt K mg t):FnOk P w K mg base CX0 2 t.f13 t.d13 ["room"] (spV 1 false zhQ):=by
 have G10:=uk (P:=P) (w:=w) (base:=base) T
 refine Fun.okW (k:=1) (fr:=false) [] 0 T.q13.F zd7 rfl (by decide) rfl fun cdv A outer s H E Pn hr=>⟨_,(zg (zw (zif zat zhx (JE.bo (wE zC <| ug T.q10 G10 hr (zc (kv 0) zn))) (JE.bo (zaT rfl T.c_MOST_OF_SMALL)) (zD _)))),fun ws n R hF=>?_⟩
 obtain ⟨rm,rfl,hR,r⟩:=hF
 walk_at "st"
 refine zfz.i hR.few hR.box ?_
 walk_at "st"
 exact r
def zhI  : FV:=fun Pn ws n R=>∃ (rm:List Int) (b:Int),ws=[.d (stD rm),.d (.int b)]/\(0<=b)/\(b<rm.length)/\(R (.d (.bl true)) n)
theorem zhI.i  {Pn:Option zj} {n:Nat} {R:W->Nat->Prop} {rm:List Int} {b:Int} (b0:0<=b) (b1:b<rm.length) (h:R (.d (.bl true)) n)  : zhI Pn [.d (stD rm),.d (.int b)] n R:=⟨rm,b,rfl,b0,b1,h⟩
theorem ze7 (T:Txt K mg t):FnOk P w K mg base CX0 2 t.f14 t.d14 ["room","thing"] (spV 2 false zhI):=by
 have G9:=xY (P:=P) (w:=w) (base:=base) T
 refine Fun.okW (k:=1) (fr:=false) [] 0 T.q14.F zhe rfl (by decide) rfl fun cdv A outer s H E Pn hr=>⟨_,(zg (zw (wE uO <| zgp (JE.bo (wE zC <| ug T.q9 G9 hr (zc (kv 1) zn))) (zgr (wE za0 <| zgq zat zky zhx u_lt (JE.bo yh) (kb 1) (JE.bo (yk yJ zah (by rfl) T.b_len PySem.boot_len (zk (kb 0) zt)))))))),fun ws n R hF=>?_⟩
 obtain ⟨rm,b,rfl,b0,b1,r⟩:=hF
 walk_at "st"
 refine zlr.i ?_
 walk_at "st"
 refine zcV (fun h=>?_) (fun h=>absurd b0 h)
 walk_at "st"
 rw [List.length_map,decide_eq_true b1]
 exact r
def zfy  : FV:=fun Pn ws n R=>∃ (rm:List Int) (b x:Int),ws=[.d (stD rm),.d (.int b),.d (.int x)]/\(0<=b)/\(b<rm.length)/\(0<=x)/\(x<zE rm b)/\(R (.d (.bl true)) n)
theorem zfy.i  {Pn:Option zj} {n:Nat} {R:W->Nat->Prop} {rm:List Int} {b x:Int} (b0:0<=b) (b1:b<rm.length) (x0:0<=x) (x1:x<zE rm b) (h:R (.d (.bl true)) n)  : zfy Pn [.d (stD rm),.d (.int b),.d (.int x)] n R:=⟨rm,b,x,rfl,b0,b1,x0,x1,h⟩
theorem zal (T:Txt K mg t):FnOk P w K mg base CX0 2 t.f15 t.d15 ["room","box","thing"] (spV 3 false zfy):=by
 have G9:=xY (P:=P) (w:=w) (base:=base) T
 refine Fun.okW (k:=1) (fr:=false) [] 0 T.q15.F zd9 rfl (by decide) rfl fun cdv A outer s H E Pn hr=>⟨_,(zg (zw (wE uO <| zgp (JE.bo (wE zC <| ug T.q9 G9 hr (zc (kv 2) zn))) (zgr (wE za0 <| zgq zat zky zhx u_lt (JE.bo yh) (kb 2) (JE.bo (zbP xz zau (kb 0) (kb 1) (fun _ _=>rfl)))))))),fun ws n R hF=>?_⟩
 obtain ⟨rm,b,x,rfl,b0,b1,x0,x1,r⟩:=hF
 walk_at "st"
 refine zlr.i ?_
 walk_at "st"
 refine zcV (fun h=>?_) (fun h=>absurd x0 h)
 walk_at "st"
 refine onA b0 b1 ?_
 walk_at "st"
 rw [decide_eq_true x1]
 exact r
def zhL  : FV:=fun Pn ws n R=>∃ (rm st:List Int),ws=[.d (stD rm),.d (stD st)]/\(RoomOk rm)/\(yI rm st)/\(R (.d (.bl true)) n)
theorem zhL.i  {Pn:Option zj} {n:Nat} {R:W->Nat->Prop} {rm st:List Int} (hR:RoomOk rm) (hv:yI rm st) (h:R (.d (.bl true)) n)  : zhL Pn [.d (stD rm),.d (stD st)] n R:=⟨rm,st,rfl,hR,hv,h⟩
theorem za5 (T:Txt K mg t):FnOk P w K mg base CX0 3 t.f16 t.d16 ["room","thing"] (spV 2 false zhL):=by
 have G15:=zal (P:=P) (w:=w) (base:=base) T
 refine Fun.okW (k:=2) (fr:=false) [] 2 T.q16.F xn rfl (by decide) rfl fun cdv A outer s H E Pn hr=>⟨_,(zf (wS zM <| xt (JW.t (wW xM <| zas (wT y4 <| xU (wT zp <| uI (JE.bo (wE zab <| yG (by rfl) T.b_isinstance T.b_tuple (kb 1))))) (xK (.inr rfl) (wT zp <| yc zcY zlk (JE.bo (yk yJ zah (by rfl) T.b_len PySem.boot_len (zk (kb 1) zt))) (JE.bo (yk yJ zah (by rfl) T.b_len PySem.boot_len (zk (kb 0) zt))) (zD _))))) (zg (zw uH)) zL)
   (zf (xT PassesOwn.never rfl (wI zdM <| zdH rfl T.b_enumerate (zc (kv 1) zn)) (wG zbq <| zbs (n:=2) K rfl rfl (wH xJ <| yi (wG yw <| zB (i:=2) xn.nd rfl (Or.inl rfl)) (wH xJ <| yi (wG yw <| zB (i:=3) xn.nd rfl (Or.inl rfl)) (wH zbp zaa)))) (zg (wS zM <| xt (wT y4 <| xU (wT zp <| uI (JE.bo (wE zC <| ug T.q15 G15 hr (zc (kv 0) (zc (kv 2) (zc (kv 3) zn))))))) (zg (zw uH)) zL)))
   (zg (zw uH)))),fun ws n R hF=>?_⟩
 obtain ⟨rm,st,rfl,hR,hv,r⟩:=hF
 walk_at "st"
 have hl:=hv.len
 refine ze9 (fun h=>absurd (by rw [List.length_map,List.length_map,hl]) h) (fun h=>?_)
 walk_at "st"
 refine xB (List.range st.length) (fun i=>W.d (.tup [.int (i:Int),.int (st.getD i 0)])) (zdx st) (fun i ρ m=>m=n/\∃ v2 v3,ρ=[some (.d (stD rm)),some (.d (stD st)),v2,v3]) ⟨rfl,_,_,rfl⟩ ?_ ?_
 ·rintro i a ρ m ha ⟨rfl,v2,v3,rfl⟩ C B E hC _ _
  have hi:=List.mem_range.mp (List.mem_of_getElem? ha)
  have hb:=hv.get a (by lia)
  walk_at "st"
  refine zfy.i (Int.natCast_nonneg a) (by lia) hb.1 (by unfold zE;rw [Int.toNat_natCast];exact hb.2) ?_
  walk_at "st"
  exact hC ⟨rfl,_,_,rfl⟩
 ·rintro ρ m ⟨rfl,v2,v3,rfl⟩
  walk_at "st"
  exact r
def zfA  : FV:=fun Pn ws n R=>∃ (rm:List Int),ws=[.d (stD rm)]/\(RoomOk rm)/\(R (.d (zbj (yO (rm.map zx)))) n)
theorem zfA.i  {Pn:Option zj} {n:Nat} {R:W->Nat->Prop} {rm:List Int} (hR:RoomOk rm) (h:R (.d (zbj (yO (rm.map zx)))) n)  : zfA Pn [.d (stD rm)] n R:=⟨rm,rfl,hR,h⟩
theorem uR (T:Txt K mg t):FnOk P w K mg base CX0 2 t.f17 t.d17 ["room"] (spV 1 true zfA):=by
 have G0:=zaj (P:=P) (w:=w) (base:=base) T
 refine Fun.okW (k:=1) (fr:=true) [] 0 T.q17.F zc4 rfl (by decide) rfl fun cdv A outer s H E Pn hr=>⟨_,(zg (zw (wE zC <| ug T.q0 G0 hr (zc (zbr (N:=["worths"]) (cix:=[none]) rfl ⟨rfl,by decide +kernel,rfl⟩ (wI ux <| zaU K rfl (kv 0)) (fun _ _ _ _=>(wG yw <| zB (i:=0) (show (["worths"]:List Str).Nodup by decide +kernel) rfl (Or.inl rfl))) (fun _ _ _ _=>ut) (fun _ _ _ _=>(wE za1 <| zcD T.b_list T.b_range (zk (kb 0) zt)))) zn)))),fun ws n R hF=>?_⟩
 obtain ⟨rm,rfl,hR,r⟩:=hF
 walk_at "st"
 refine zaJ rm (fun i=>.d (.int i)) (by rw [List.map_map];rfl) (fun ρ=>∃ a,ρ=[a]) (fun i=>lsD (zx i)) (Nat.le_trans hR.few (by decide)) ⟨_,rfl⟩ ?_ ?_
 ·rintro i hi ρ' ⟨a,rfl⟩ C hC
  have hb:=hR.box i hi
  walk_at "st"
  refine ⟨⟨by lia,by lia⟩,?_⟩
  have e2:lsD (zx i)=Dt.lst (zha i.toNat):=by unfold lsD zx zha;rw [List.map_map];rfl
  rw [<- e2]
  exact hC ⟨_,rfl⟩
 ·walk_at "st"
  refine ⟨rm.map zx,by rw [List.map_map];rfl,by rw [List.length_map];exact hR.few,fun c hc=>?_,r⟩
  obtain ⟨i,hi,rfl⟩:=List.mem_map.mp hc
  have hb:=hR.box i hi
  rw [yQ]
  lia
def zhO  : FV:=fun Pn ws n R=>∃ (rm st:List Int),ws=[.d (stD rm),.d (stD st)]/\(RoomOk rm)/\(yI rm st)/\(R (.d (.int (yq 0 rm st))) n)
theorem zhO.i  {Pn:Option zj} {n:Nat} {R:W->Nat->Prop} {rm st:List Int} (hR:RoomOk rm) (hv:yI rm st) (h:R (.d (.int (yq 0 rm st))) n)  : zhO Pn [.d (stD rm),.d (stD st)] n R:=⟨rm,st,rfl,hR,hv,h⟩
theorem ze8 (T:Txt K mg t):FnOk P w K mg base CX0 1 t.f18 t.d18 ["room","standing"] (spV 2 false zhO):=by
 refine Fun.okW (k:=0) (fr:=false) [] 3 T.q18.F x6 rfl (by decide) rfl fun cdv A outer s H E Pn hr=>⟨_,(zf (wS zz <| zS (i:=2) x6.nd rfl (Or.inl rfl) yh)
   (zf (xT PassesOwn.never rfl (wI zkj <| zl6 rfl T.b_zip (zc (kv 0) (zc (kv 1) zn))) (wG zbq <| zbs (n:=2) K rfl rfl (wH xJ <| yi (wG yw <| zB (i:=3) x6.nd rfl (Or.inl rfl)) (wH xJ <| yi (wG yw <| zB (i:=4) x6.nd rfl (Or.inl rfl)) (wH zbp zaa)))) (zg (wS zz <| zS (i:=2) x6.nd rfl (Or.inl rfl) (zfv xZ znK (JE.bo (zfv xO zi1 (kb 2) (kb 3))) (kb 4)))))
   (zg (zw (kv 2))))),fun ws n R hF=>?_⟩
 obtain ⟨rm,st,rfl,hR,hv,r⟩:=hF
 walk_at "st"
 have hl:=hv.len
 refine ⟨by rw [List.length_map,List.length_map,hl],?_⟩
 refine xB (rm.zip st) (fun q=>.d (yN q)) (zeP rm st) (fun i ρ m=>m=n/\∃ v3 v4,ρ=[some (.d (stD rm)),some (.d (stD st)),some (.d (.int (yq 0 (rm.take i) (st.take i)))),v3,v4]) ⟨rfl,_,_,rfl⟩ ?_ ?_
 ·rintro i q ρ m hq ⟨rfl,v3,v4,rfl⟩ C B E hC _ _
  rw [List.getElem?_zip_eq_some] at hq
  have hb:=hR.box q.1 (List.mem_of_getElem? hq.1)
  walk_at "st"
  refine ⟨.inr ⟨by lia,by lia⟩,?_⟩
  walk_at "st"
  refine hC ⟨rfl,some (.d (.int q.1)),some (.d (.int q.2)),?_⟩
  rw [zv hq.1,zv hq.2,zad (by rw [List.length_take,List.length_take,hl])]
 ·rintro ρ m ⟨rfl,v3,v4,rfl⟩
  have e:(rm.zip st).length=rm.length:=by rw [List.length_zip,hl];lia
  rw [e,List.take_length,<- hl,List.take_length]
  walk_at "st"
  exact r
def zhJ  : FV:=fun Pn ws n R=>∃ (rm:List Int) (q:Int×Int),ws=[.d (stD rm),.d (yN q)]/\(0<=q.1)/\(q.1<rm.length)/\(0<=q.2)/\(q.2<zE rm q.1)/\(R (.d (.bl true)) n)
theorem zhJ.i  {Pn:Option zj} {n:Nat} {R:W->Nat->Prop} {rm:List Int} {q:Int×Int} (h0:0<=q.1) (h1:q.1<rm.length) (h2:0<=q.2) (h3:q.2<zE rm q.1) (h:R (.d (.bl true)) n)  : zhJ Pn [.d (stD rm),.d (yN q)] n R:=⟨rm,q,rfl,h0,h1,h2,h3,h⟩
theorem zb2 (T:Txt K mg t):FnOk P w K mg base CX0 3 t.f19 t.d19 ["room","thing"] (spV 2 false zhJ):=by
 have G14:=ze7 (P:=P) (w:=w) (base:=base) T
 have G15:=zal (P:=P) (w:=w) (base:=base) T
 refine Fun.okW (k:=2) (fr:=false) [] 2 T.q19.F x5 rfl (by decide) rfl fun cdv A outer s H E Pn hr=>⟨_,(zf (wS zM <| xt (JW.t (wW xM <| zas (wT y4 <| xU (wT zp <| uI (JE.bo (wE zab <| yG (by rfl) T.b_isinstance T.b_tuple (kb 1))))) (xK (.inr rfl) (wT zp <| yc zcY zlk (JE.bo (yk yJ zah (by rfl) T.b_len PySem.boot_len (zk (kb 1) zt))) (JE.bo yh) (zD _))))) (zg (zw uH)) zL)
   (zf (zl7 (kv 1) (wG zbq <| zbs (n:=2) K rfl rfl (wH xJ <| yi (wG yw <| zB (i:=2) x5.nd rfl (Or.inl rfl)) (wH xJ <| yi (wG yw <| zB (i:=3) x5.nd rfl (Or.inl rfl)) (wH zbp zaa)))))
   (zg (zw (wE uO <| zgp (JE.bo (wE zC <| ug T.q14 G14 hr (zc (kv 0) (zc (kv 2) zn)))) (zgr (wE zC <| ug T.q15 G15 hr (zc (kv 0) (zc (kv 2) (zc (kv 3) zn)))))))))),fun ws n R hF=>?_⟩
 obtain ⟨rm,q,rfl,h0,h1,h2,h3,r⟩:=hF
 walk_at "st"
 walk_at "st"
 with_reducible refine zkt ?_ ?_
 ·rfl
 walk_at "st"
 refine zhI.i h0 h1 ?_
 walk_at "st"
 refine zfy.i h0 h1 h2 h3 ?_
 walk_at "st"
 exact r
def zfx  : FV:=fun Pn ws n R=>∃ (rm:List Int) (g:List (Int×Int)),ws=[.d (stD rm),.d (zar g)]/\(Giv rm g)/\(R (.d (.bl true)) n)
theorem zfx.i  {Pn:Option zj} {n:Nat} {R:W->Nat->Prop} {rm:List Int} {g:List (Int×Int)} (hG:Giv rm g) (h:R (.d (.bl true)) n)  : zfx Pn [.d (stD rm),.d (zar g)] n R:=⟨rm,g,rfl,hG,h⟩
theorem zak (T:Txt K mg t):FnOk P w K mg base CX0 4 t.f20 t.d20 ["room","thing"] (spV 2 false zfx):=by
 have G19:=zb2 (P:=P) (w:=w) (base:=base) T
 refine Fun.okW (k:=3) (fr:=false) [] 2 T.q20.F xG rfl (by decide) rfl fun cdv A outer s H E Pn hr=>⟨_,(zf (wS zM <| xt (wT y4 <| xU (wT zp <| uI (JE.bo (wE zab <| yG (by rfl) T.b_isinstance T.b_tuple (kb 1))))) (zg (zw uH)) zL)
   (zf (wS zz <| zS (i:=2) xG.nd rfl (Or.inl rfl) (zl5 zdb zhy (JE.bo yh)))
   (zf (xT PassesOwn.never rfl (wI ux <| zaU K rfl (kv 1)) (wG yw <| zB (i:=3) xG.nd rfl (Or.inl rfl)) (zf (wS zM <| xt (JW.t (wW xM <| zas (wT y4 <| xU (wT zp <| uI (JE.bo (wE zC <| ug T.q19 G19 hr (zc (kv 0) (zc (kv 3) zn)))))) (xK (.inr rfl) (wT zp <| yc zat zhx (JE.bo (zbP xz zau (kb 3) (JE.bo yh) (fun _ _=>rfl))) (kb 2) (zD _))))) (zg (zw uH)) zL)
   (zg (wS zz <| zS (i:=2) xG.nd rfl (Or.inl rfl) (zbP xz zau (kb 3) (JE.bo yh) (fun _ _=>rfl))))))
   (zg (zw uH))))),fun ws n R hF=>?_⟩
 obtain ⟨rm,g,rfl,hG,r⟩:=hF
 walk_at "st"
 refine xB g (fun q=>.d (yN q)) (by rw [List.map_map];rfl) (fun i ρ m=>m=n/\∃ l v3,(∀ k q,i<=k->g[k]?=some q->l<q.1)/\ρ=[some (.d (stD rm)),some (.d (zar g)),some (.d (.int l)),v3]) ⟨rfl,-1,_,fun k q _ hq=>?_,rfl⟩ ?_ ?_
 ·have:=hG.ok q (List.mem_of_getElem? hq)
  lia
 ·rintro i q ρ m hq ⟨rfl,l,v3,hlt,rfl⟩ C B E hC _ _
  have hb:=hG.ok q (List.mem_of_getElem? hq)
  have h4:=hlt i q (Nat.le_refl _) hq
  walk_at "st"
  refine zhJ.i hb.1 hb.2.1 hb.2.2.1 hb.2.2.2 ?_
  walk_at "st"
  refine zcV (fun h=>absurd h (by lia)) (fun h=>?_)
  walk_at "st"
  refine hC ⟨rfl,q.1,_,fun k q' hk hq'=>?_,rfl⟩
  obtain ⟨hi1,e1⟩:=List.getElem?_eq_some_iff.mp hq
  obtain ⟨hk1,e2⟩:=List.getElem?_eq_some_iff.mp hq'
  have:=List.pairwise_iff_getElem.mp hG.up i k hi1 hk1 (by lia)
  rw [e1,e2] at this
  exact this
 ·rintro ρ m ⟨rfl,l,v3,_,rfl⟩
  walk_at "st"
  exact r
def zef  : FV:=fun Pn ws n R=>∃ (rm:List Int) (g:List (Int×Int)) (b x:Int),ws=[.d (zar g),.d (.int b),.d (.int x)]/\(RoomOk rm)/\(Giv rm g)/\(b∉g.map (·.1))/\(0<=b)/\(b<rm.length)/\(0<=x)/\(x<zE rm b)/\(R (.d (zar (zdf g b x))) n)
theorem zef.i  {Pn:Option zj} {n:Nat} {R:W->Nat->Prop} {rm:List Int} {g:List (Int×Int)} {b x:Int} (hR:RoomOk rm) (hG:Giv rm g) (hb:b∉g.map (·.1)) (b0:0<=b) (b1:b<rm.length) (x0:0<=x) (x1:x<zE rm b) (h:R (.d (zar (zdf g b x))) n)  : zef Pn [.d (zar g),.d (.int b),.d (.int x)] n R:=⟨rm,g,b,x,rfl,hR,hG,hb,b0,b1,x0,x1,h⟩
theorem zb0 (T:Txt K mg t):FnOk P w K mg base CX0 1 t.f21 t.d21 ["_law_base","_law_box","_law_worth"] (spV 3 false zef):=by
 refine Fun.okW (k:=0) (fr:=false) [] 0 T.q21.F zc3 rfl (by decide) rfl fun cdv A outer s H E Pn hr=>⟨_,(zg (zw (xC xb zck (by rfl) T.b_tuple PyProof.Rows.boot_tuple (zk (JE.bo (yk zfO zhz (by rfl) T.b_sorted PyProof.Rows.boot_sorted (zk (JE.bo (zfv zdU zhv (JE.bo (xC zdn znL (by rfl) T.b_list PyProof.Rows.boot_list (zk (kb 0) zt))) (JE.bo (zdG (zc (zj9 (zc (kv 1) (zc (kv 2) zn))) zn))))) zt))) zt)))),fun ws n R hF=>?_⟩
 obtain ⟨rm,g,b,x,rfl,hR,hG,hb,b0,b1,x0,x1,r⟩:=hF
 walk_at "st"
 have hfew:=zdC hG hR.few
 refine ⟨by rw [List.length_map];exact Nat.le_trans (by simp;lia:_<=1000) (by decide),?_⟩
 walk_at "st"
 have e:g.map yN++[Dt.tup [.int b,.int x]]=((g++[(b,x)]).map fun q=>[q.1,q.2]).map stD:=by rw [List.map_append,List.map_append,List.map_map];rfl
 have h2:∀ l:List (Int×Int),∀ y∈l.map (fun q=>[q.1,q.2]),y.length=2:=fun l y hy=>by
  obtain ⟨q,_,rfl⟩:=List.mem_map.mp hy
  rfl
 have hm:∀ z,z∈(zdf g b x).map (fun q=>[q.1,q.2])↔z∈(g++[(b,x)]).map (fun q=>[q.1,q.2]):=fun z=>by
  simp only [List.mem_map,xc hb,List.mem_append,List.mem_singleton,or_comm]
 have hup:Up' ((zdf g b x).map fun q=>[q.1,q.2]):=by
  unfold Up'
  rw [List.pairwise_map]
  refine (zaA hG hb b0 b1 x0 x1).up.imp fun {a c} h=>?_
  show (if a.1=c.1 then HT.lexLt [a.2] [c.2] else decide (a.1<c.1))=true
  rw [if_neg (by lia),decide_eq_true h]
 refine ⟨(g++[(b,x)]).map fun q=>[q.1,q.2],2,e,by decide,h2 _,?_,fun sts' hp hu=>?_⟩
 ·unfold List.Nodup
  rw [List.pairwise_map,List.pairwise_append]
  refine ⟨hG.up.imp fun {a c} h e=>?_,by simp,fun a ha c hc e=>?_⟩
  ·have:=(List.cons.inj e).1
   lia
  ·rw [List.mem_singleton.mp hc] at e
   exact hb (List.mem_map.mpr ⟨a,ha,(List.cons.inj e).1⟩)
 ·rw [<- zec (h2 _) hup hu fun z=>(hm z).trans hp.mem_iff.symm]
  walk_at "st"
  have e2:((zdf g b x).map fun q=>[q.1,q.2]).map stD=(zdf g b x).map yN:=by rw [List.map_map];rfl
  rw [e2]
  exact r
def zhN  : FV:=fun Pn ws n R=>∃ (rm:List Int) (g:List (Int×Int)) (f s:List Int),ws=[.d (stD rm),.d (zar g),.d (stD f),.d (stD s)]/\(RoomOk rm)/\(Giv rm g)/\(f.length=rm.length)/\(s.length=rm.length)/\(∀ q∈g,zE f q.1=zE s q.1)/\(R (.d (stD s)) n)
theorem zhN.i  {Pn:Option zj} {n:Nat} {R:W->Nat->Prop} {rm:List Int} {g:List (Int×Int)} {f s:List Int} (hR:RoomOk rm) (hG:Giv rm g) (hf:f.length=rm.length) (hs:s.length=rm.length) (he:∀ q∈g,zE f q.1=zE s q.1) (h:R (.d (stD s)) n)  : zhN Pn [.d (stD rm),.d (zar g),.d (stD f),.d (stD s)] n R:=⟨rm,g,f,s,rfl,hR,hG,hf,hs,he,h⟩
theorem zcS (T:Txt K mg t):FnOk P w K mg base CX0 2 t.f22 t.d22 ["_law_room_here","_law_base","_law_first","_law_standing_here"] (spV 4 false zhN):=by
 have G6:=zdR (P:=P) (w:=w) (base:=base) T
 refine Fun.okW (k:=1) (fr:=false) [] 3 T.q22.F y9 rfl (by decide) rfl fun cdv A outer s H E Pn hr=>⟨_,(zf (wS zz <| zS (i:=4) y9.nd rfl (Or.inl rfl) (kv 2))
   (zf (wS zz <| zgt (i:=5) (zer (ix:=5) y9.nd rfl rfl (N:=["_law_one"]) (cix:=[none]) rfl ⟨rfl,by decide +kernel,rfl⟩ (wI ux <| zaU K rfl (kv 1)) (fun _ _ _ _=>(wG yw <| zB (i:=0) (show (["_law_one"]:List Str).Nodup by decide +kernel) rfl (Or.inl rfl))) (fun _ _ _ _=>ut) (fun _ _ _ _=>(zbP xz zau (kb 0) (JE.bo yh) (fun _ _=>rfl)))))
   (zf (xT PassesOwn.never rfl (wI zac <| xq rfl T.b_range (zk (JE.bo (yk yJ zah (by rfl) T.b_len PySem.boot_len (zk (kb 0) zt))) zt)) (wG yw <| zB (i:=6) y9.nd rfl (Or.inl rfl)) (zg (wS zM <| xt (wT zp <| yc zan zeM (kb 6) (kb 5) (by with_unfolding_all rfl)) (zg (wS zz <| zS (i:=4) y9.nd rfl (Or.inl rfl) (wE zC <| ug T.q6 G6 hr (zc (kv 4) (zc (kv 6) (zc (zbP xz zau (kb 3) (kb 6) (fun _ _=>rfl)) zn)))))) zL)))
   (zg (zw (kv 4)))))),fun ws n R hF=>?_⟩
 obtain ⟨rm,g,f,s,rfl,hR,hG,hf,hs,he,r⟩:=hF
 walk_at "st"
 have h8:=hR.few
 have hfew:=zdC hG h8
 refine zaJ g (fun q=>.d (yN q)) (by rw [List.map_map];rfl) (fun ρ=>∃ a,ρ=[a]) (fun q=>.int q.1) (Nat.le_trans hfew (by decide)) ⟨_,rfl⟩ ?_ ?_
 ·rintro q hq ρ' ⟨a,rfl⟩ C hC
  walk_at "st"
  exact hC ⟨_,rfl⟩
 ·walk_at "st"
  have e0:(g.map fun q=>Dt.int q.1)=(g.map (·.1)).map Dt.int:=by rw [List.map_map];rfl
  rw [e0,List.length_map]
  refine ⟨⟨by lia,by lia⟩,zep (fun i ρ m=>m=n/\i<=rm.length/\∃ v,ρ=[some (.d (stD rm)),some (.d (zar g)),some (.d (stD f)),some (.d (stD s)),some (.d (stD (s.take i++f.drop i))),some (.d (.lst ((g.map (·.1)).map Dt.int))),v]) ⟨rfl,Nat.zero_le _,_,by rw [List.take_zero,List.drop_zero,List.nil_append]⟩ ?_ ?_⟩
  ·rintro i ρ m hi ⟨rfl,hil,v,rfl⟩ C B E hC _ _
   walk_at "st"
   refine ⟨_,rfl,?_⟩
   walk_at "st"
   have hi:i<rm.length:=by lia
   refine zjt (fun hh=>?_) (fun hh=>?_)
   ·walk_at "st"
    refine onA (Int.natCast_nonneg i) (by lia) ?_
    walk_at "st"
    refine zhH.i (Int.natCast_nonneg i) (by rw [List.length_append,List.length_take,List.length_drop];lia) ?_
    walk_at "st"
    exact hC ⟨rfl,hi,_,by rw [zij (by lia)]⟩
   ·walk_at "st"
    obtain ⟨q,hq,e⟩:=List.mem_map.mp (List.contains_iff_mem.mp hh)
    have:=he q hq
    rw [e] at this
    exact hC ⟨rfl,hi,_,by rw [zii (by lia) (by lia) this]⟩
  ·rintro ρ m ⟨rfl,hil,v,rfl⟩
   walk_at "st"
   rw [show ((rm.length:Int)).toNat=s.length by lia,List.take_length,List.drop_eq_nil_of_le (by lia),List.append_nil]
   exact r
def zed  : FV:=fun Pn ws n R=>∃ (rm:List Int) (g:List (Int×Int)) (hs:List (List Int)),ws=[.d (stD rm),.d (zar g),.d (zbj hs)]/\(RoomOk rm)/\(Giv rm g)/\(∀ st∈hs,st∈zW rm g)/\(Up' hs)/\(R (.d (.bl true)) n)
theorem zed.i  {Pn:Option zj} {n:Nat} {R:W->Nat->Prop} {rm:List Int} {g:List (Int×Int)} {hs:List (List Int)} (hR:RoomOk rm) (hG:Giv rm g) (hm:∀ st∈hs,st∈zW rm g) (hu:Up' hs) (h:R (.d (.bl true)) n)  : zed Pn [.d (stD rm),.d (zar g),.d (zbj hs)] n R:=⟨rm,g,hs,rfl,hR,hG,hm,hu,h⟩
theorem uz (T:Txt K mg t):FnOk P w K mg base CX0 4 t.f23 t.d23 ["_law_room_here","_law_base","_law_heard"] (spV 3 false zed):=by
 have G16:=za5 (P:=P) (w:=w) (base:=base) T
 have G17:=uR (P:=P) (w:=w) (base:=base) T
 have G18:=ze8 (P:=P) (w:=w) (base:=base) T
 have G7:=zgJ (P:=P) (w:=w) (base:=base) T
 have G22:=zcS (P:=P) (w:=w) (base:=base) T
 refine Fun.okW (k:=3) (fr:=false) [] 3 T.q23.F zJ rfl (by decide) rfl fun cdv A outer s H E Pn hr=>⟨_,(zf (wS zz <| zS (i:=3) zJ.nd rfl (Or.inl rfl) (zl5 zdb zhy (JE.bo yh)))
   (zf (xT PassesOwn.never rfl (wI zgF <| zgs K rfl (kv 2)) (wG yw <| zB (i:=4) zJ.nd rfl (Or.inl rfl)) (zf (wS zM <| xt (JW.t (wW xM <| zas (wT zp <| yc y8 xy (JE.bo (wE zC <| ug T.q16 G16 hr (zc (kv 0) (zc (kv 4) zn)))) (JE.bo uH) (zD _)) (xK (.inr rfl) (wT zp <| yc y8 xy (JE.bo (wE zC <| ug T.q7 G7 hr (zc (kv 4) (zc (kv 1) zn)))) (JE.bo uH) (zD _))))) (zg (zw uH)) zL)
   (zf (wS zz <| zS (i:=5) zJ.nd rfl (Or.inl rfl) (wE zC <| ug T.q18 G18 hr (zc (kv 0) (zc (kv 4) zn))))
   (zf (wS zM <| xt (JW.t (wW xM <| zas (wT zp <| yc zat zhx (kb 5) (kb 3) (zD _)) (xK (.inr rfl) (wT zp <| yc (zby hr.units) zfs (JE.bo (zbP xa zeb (JE.bo (wE zC <| ug T.q17 G17 hr (zc (kv 0) zn))) (kb 5) (fun _ _=>rfl))) (kb 4) (zD _))))) (zg (zw uH)) zL)
   (zf (wS zM <| xt (wT zp <| yc (zby hr.units) zfs (JE.bo (wE zC <| ug T.q22 G22 hr (zc (kv 0) (zc (kv 1) (zc (zbP xa zeb (kb 2) (JE.bo yh) (fun _ _=>rfl)) (zc (kv 4) zn)))))) (kb 4) (zD _)) (zg (zw uH)) zL)
   (zg (wS zz <| zS (i:=3) zJ.nd rfl (Or.inl rfl) (kv 5))))))))
   (zg (zw uH)))),fun ws n R hF=>?_⟩
 obtain ⟨rm,g,hs,rfl,hR,hG,hm,hu,r⟩:=hF
 walk_at "st"
 have h8:=hR.few
 have hall:=fun st hst=>((zaX hG).mp (hm st hst))
 refine xB hs (fun st=>.d (stD st)) (by rw [List.map_map];rfl) (fun i ρ m=>m=n/\∃ l v4 v5,(∀ k q,i<=k->hs[k]?=some q->l<yq 0 rm q)/\ρ=[some (.d (stD rm)),some (.d (zar g)),some (.d (zbj hs)),some (.d (.int l)),v4,v5]) ⟨rfl,-1,_,_,fun k q _ hq=>?_,rfl⟩ ?_ ?_
 ·have:=zeg hR (hall q (List.mem_of_getElem? hq)).1
  lia
 ·rintro i q ρ m hq ⟨rfl,l,v4,v5,hlt,rfl⟩ C B E hC _ _
  have hin:=List.mem_of_getElem? hq
  have ha:=hall q hin
  have hv:=yf hR ha.1
  have hl:=hv.len
  have hk:∀ p∈g,0<=p.1/\p.1<q.length:=fun p hp=>by
   have:=hG.ok p hp
   rw [hl]
   exact ⟨this.1,this.2.1⟩
  have h4:=hlt i q (Nat.le_refl _) hq
  have h5:=zeg hR ha.1
  walk_at "st"
  refine zhL.i hR hv ?_
  walk_at "st"
  refine zhM.i hk ?_
  rw [ha.2]
  walk_at "st"
  walk_at "cf"
  refine zhO.i hR hv ?_
  walk_at "st"
  refine zcV (fun h=>absurd h (by lia)) (fun h=>?_)
  walk_at "st"
  refine zfA.i hR ?_
  walk_at "st"
  refine zcW (a:=stD q) ?_ ?_
  ·have:=zcq (l:=(yO (rm.map zx)).map stD) (i:=(yq 0 rm q).toNat) (x:=stD q) (by rw [List.getElem?_map,h5.2];rfl)
   rwa [Int.toNat_of_nonneg h5.1] at this
  walk_at "st"
  refine za9 uE ?_
  walk_at "st"
  walk_at "cf"
  have h0:0<hs.length:=by
   have:=(List.getElem?_eq_some_iff.mp hq).1
   lia
  have hf:=hall _ (List.getElem_mem h0)
  have hf2:=(yf hR hf.1).len
  refine zcW (a:=stD hs[0]) (zcq (i:=0) (by rw [List.getElem?_map,List.getElem?_eq_getElem h0];rfl)) ?_
  walk_at "st"
  refine zhN.i hR hG hf2 hl (fun p hp=>?_) ?_
  ·have e1:=List.all_eq_true.mp hf.2 p hp
   have e2:=List.all_eq_true.mp ha.2 p hp
   rw [of_decide_eq_true e1,of_decide_eq_true e2]
  walk_at "st"
  refine za9 uE ?_
  walk_at "st"
  walk_at "cf"
  refine hC ⟨rfl,_,_,_,fun k q' hk hq'=>?_,rfl⟩
  obtain ⟨hi1,e1⟩:=List.getElem?_eq_some_iff.mp hq
  obtain ⟨hk1,e2⟩:=List.getElem?_eq_some_iff.mp hq'
  have:=List.pairwise_iff_getElem.mp hu i k hi1 hk1 (by lia)
  rw [e1,e2] at this
  exact zkr hR ha.1 (hall q' (List.mem_of_getElem? hq')).1 this
 ·rintro ρ m ⟨rfl,l,v4,v5,_,rfl⟩
  walk_at "st"
  exact r
def zhP  : FV:=fun Pn ws n R=>∃ (rm:List Int) (g:List (Int×Int)) (b:Int),ws=[.d (stD rm),.d (zar g),.d (zbj (zW rm g)),.d (.int b)]/\(RoomOk rm)/\(Giv rm g)/\(b∉g.map (·.1))/\(0<=b)/\(b<rm.length)/\(R (.d (.bl true)) n)
theorem zhP.i  {Pn:Option zj} {n:Nat} {R:W->Nat->Prop} {rm:List Int} {g:List (Int×Int)} {b:Int} (hR:RoomOk rm) (hG:Giv rm g) (hb:b∉g.map (·.1)) (b0:0<=b) (b1:b<rm.length) (h:R (.d (.bl true)) n)  : zhP Pn [.d (stD rm),.d (zar g),.d (zbj (zW rm g)),.d (.int b)] n R:=⟨rm,g,b,rfl,hR,hG,hb,b0,b1,h⟩
theorem za4 (T:Txt K mg t):FnOk P w K mg base CX0 5 t.f24 t.d24 ["_law_room_here","_law_base","_law_heard","_law_box"] (spV 4 false zhP):=by
 have G20:=zak (P:=P) (w:=w) (base:=base) T
 have G8:=za6 (P:=P) (w:=w) (base:=base) T
 have G21:=zb0 (P:=P) (w:=w) (base:=base) T
 refine Fun.okW (k:=4) (fr:=false) [] 4 T.q24.F zV rfl (by decide) rfl fun cdv A outer s H E Pn hr=>⟨_,(zf (wS zz <| zS (i:=4) zV.nd rfl (Or.inl rfl) (zdG zn))
   (zf (xT PassesOwn.never rfl (wI zac <| xq rfl T.b_range (zk (JE.bo (zbP xz zau (kb 0) (kb 3) (fun _ _=>rfl))) zt)) (wG yw <| zB (i:=5) zV.nd rfl (Or.inr rfl)) (zf (wS zz <| zS (i:=6) zV.nd rfl (Or.inl rfl) (wE zC <| ug T.q21 G21 hr (zc (kv 1) (zc (kv 3) (zc (kv 5) zn)))))
   (zf (wS zM <| xt (wT zp <| yc y8 xy (JE.bo (wE zC <| ug T.q20 G20 hr (zc (kv 0) (zc (kv 6) zn)))) (JE.bo uH) (zD _)) (zg (zw uH)) zL)
   (zf (wS zz <| zS (i:=7) zV.nd rfl (Or.inl rfl) (wE zC <| ug T.q8 G8 hr (zc (kv 0) (zc (kv 6) zn))))
   (zf (wS zM <| xt (JW.t (wW xM <| zas (wT zp <| yc zcY zlk (JE.bo (zfv xO zi1 (JE.bo (yk yJ zah (by rfl) T.b_len PySem.boot_len (zk (kb 7) zt))) (JE.bo (zbP xz zau (kb 0) (kb 3) (fun _ _=>rfl))))) (JE.bo (yk yJ zah (by rfl) T.b_len PySem.boot_len (zk (kb 2) zt))) (zD _)) (xK (.inr rfl) (wT zp <| yc (zby hr.units) zfs (JE.bo (zbr (N:=["_law_one","_law_worth","_law_box"]) (cix:=[none,some 5,some 3]) rfl ⟨rfl,by decide +kernel,rfl⟩ (wI zgF <| zgs K rfl (kv 7)) (fun _ _ _ _=>(wG yw <| zB (i:=0) (show (["_law_one","_law_worth","_law_box"]:List Str).Nodup by decide +kernel) rfl (Or.inl rfl))) (fun _ _ _ _=>(zka (wT zp <| yc zcY zlk (JE.bo (zbP xz zau (kb 0) (kb 2) (fun _ _=>rfl))) (kb 1) (zD _)))) (fun _ _ _ _=>(kv 0)))) (JE.bo (zdG zn)) (zD _))))) (zg (zw uH)) zL)
   (zg (wS zz <| zS (i:=4) zV.nd rfl (Or.inl rfl) (zfv zdU zhv (kb 4) (kb 7)))))))))
   (zg (zw (zif (zmA hr.units) zpw (JE.bo (yk zfO zhz (by rfl) T.b_sorted PyProof.Rows.boot_sorted (zk (kb 4) zt))) (kb 2) (zD _)))))),fun ws n R hF=>?_⟩
 obtain ⟨rm,g,b,rfl,hR,hG,hb,b0,b1,r⟩:=hF
 walk_at "st"
 have h8:=hR.few
 have hm:=zc2 hR.box b0 b1
 refine onA b0 b1 ?_
 walk_at "st"
 refine ⟨⟨by lia,by lia⟩,zep (fun i ρ m=>m=n/\i<=(zE rm b).toNat/\∃ v5 v6 v7,ρ=[some (.d (stD rm)),some (.d (zar g)),some (.d (zbj (zW rm g))),some (.d (.int b)),some (.d (zbj (zgN rm g b i))),v5,v6,v7]) ⟨rfl,Nat.zero_le _,_,_,_,rfl⟩ ?_ ?_⟩
 ·rintro i ρ m hi ⟨rfl,hil,v5,v6,v7,rfl⟩ C B E hC _ _
  have i1:(i:Int)<zE rm b:=by lia
  have hI:=zaA (w:=(i:Int)) hG hb b0 b1 (Int.natCast_nonneg i) i1
  have hk:=zgv (w:=(i:Int)) hG hb b0 b1 (Int.natCast_nonneg i) i1
  walk_at "st"
  refine zef.i hR hG hb b0 b1 (Int.natCast_nonneg i) i1 ?_
  walk_at "st"
  refine zfx.i hI ?_
  walk_at "st"
  walk_at "cf"
  refine xo.i hR hI ?_
  walk_at "st"
  refine onA b0 b1 ?_
  walk_at "st"
  refine ⟨.inr ⟨by lia,by lia⟩,?_⟩
  walk_at "st"
  rw [List.length_map,List.length_map,ze5 hR hG hb b0 b1 (Int.natCast_nonneg i) i1]
  refine ze9 (fun h=>absurd rfl h) (fun h=>?_)
  walk_at "st"
  refine zjM (zW rm (zdf g b i)) (fun st=>.d (stD st)) (by rw [List.map_map];rfl) (fun ρ=>∃ v,ρ=[v,some (.d (.int i)),some (.d (.int b))]) (fun st=>!decide (zE st b=(i:Int))) stD (Nat.le_trans (uK hR) (by decide)) ⟨_,rfl⟩ ?_ ?_
  ·rintro st hst ρ' ⟨v,rfl⟩ D hY hN
   have hl:=zaW hI st hst
   walk_at "st"
   refine onA b0 (by lia) ?_
   walk_at "st"
   refine ze9 (fun h=>hY (by rw [decide_eq_false h];rfl) ⟨_,rfl⟩) (fun h=>hN (by rw [decide_eq_true h];rfl) ⟨_,rfl⟩)
  rw [List.filter_eq_nil_iff.mpr fun st hst=>?_]
  ·walk_at "st"
   refine za9 (zdK []) ?_
   walk_at "st"
   walk_at "cf"
   refine ⟨?_,?_⟩
   ·have h1:=ziv (g:=g) (b:=b) hR i
    have h2:=uK (g:=zdf g b i) hR
    rw [List.length_map,List.length_map]
    exact Nat.le_trans (by lia:_<=131072) (by decide)
   ·rw [hk,<- List.map_append,<- zcZ]
    exact hC ⟨rfl,by lia,_,_,_,rfl⟩
  ·rw [hk] at hst
   have:=(List.mem_filter.mp hst).2
   rw [this]
   decide
 ·rintro ρ m ⟨rfl,hil,v5,v6,v7,rfl⟩
  walk_at "st"
  refine ⟨zgN rm g b (zE rm b).toNat,rm.length,rfl,hR.pos,fun st hst=>zaW hG st (zaC.mp hst).1,zdW _,fun sts' hp hu=>?_⟩
  rw [ziu hR hG b0 b1 hp hu]
  walk_at "st"
  exact za9 (zdK _) r
theorem zmn (T:Txt K mg t):FnOk P w K mg base CX0 6 t.f25 t.d25 ["_law_script"] (zhg K):=by
 have G12:=zdS (P:=P) (w:=w) (base:=base) T
 have G13:=zcT (P:=P) (w:=w) (base:=base) T
 have G17:=uR (P:=P) (w:=w) (base:=base) T
 have G20:=zak (P:=P) (w:=w) (base:=base) T
 have G8:=za6 (P:=P) (w:=w) (base:=base) T
 have G1:FnOk P w K mg base CX0 1 t.f1 t.d1 ["_law_script"] (ziS K):=zdP T
 have G2:=zbY (P:=P) (w:=w) (base:=base) T
 have G4:=zbZ (P:=P) (w:=w) (base:=base) T
 have G5:=zbh (P:=P) (w:=w) (base:=base) T
 have G23:=uz (P:=P) (w:=w) (base:=base) T
 have G24:=za4 (P:=P) (w:=w) (base:=base) T
 refine zoX (k:=5) (r:=11) [] T.q25.F xh rfl rfl (by decide) fun cdv A outer s H E Pn hr=>⟨_,_,_,rfl,(yd (i:=1) xh.nd rfl (Or.inl rfl) (zba T.q1 G1 hr (zd (qv 0) zA))),(zf (xT PassesOwn.never rfl (wI zac <| xq rfl T.b_range (zk (JE.bo yh) zt)) (wG yw <| zB (i:=2) xh.nd rfl (Or.inl rfl)) (zf (wS zz <| zS (i:=3) xh.nd rfl (Or.inr rfl) (wE zC <| ug T.q4 G4 hr (zc (kv 1) (zc (zbP xa zeb (JE.bo (zdG (zc yh (zc yh (zc yh zn))))) (JE.bo (wE zC <| ug T.q2 G2 hr (zc (kv 1) (zc yh zn)))) (fun _ _=>rfl)) zn))))
   (zf (wS zM <| xt (JW.t (wW xM <| zas (wT zp <| yc y8 xy (JE.bo (wE zC <| ug T.q12 G12 hr (zc (kv 3) zn))) (JE.bo uH) (zD _)) (xK (.inr rfl) (wT zp <| yc zcY zlk (JE.bo (wE zC <| ug T.q13 G13 hr (zc (kv 3) zn))) (JE.bo (zif zat zhx (JE.bo (yk yJ zah (by rfl) T.b_len PySem.boot_len (zk (JE.bo (wE zC <| ug T.q17 G17 hr (zc (kv 3) zn))) zt))) (JE.bo yh) (zD _))) (zD _))))) (zg (zw uH)) zL)
   (zf (wS zz <| zS (i:=4) xh.nd rfl (Or.inl rfl) (wE zC <| ug T.q5 G5 hr (zc (kv 1) (zc (kv 3) (zc (zbP xa zeb (JE.bo (zdG (zc (zl5 zdb zhy (JE.bo yh)) (zc yh zn)))) (JE.bo (wE zC <| ug T.q2 G2 hr (zc (kv 1) (zc yh zn)))) (fun _ _=>rfl)) zn)))))
   (zf (wS zz <| zgt (i:=5) (zer (ix:=5) xh.nd rfl rfl (N:=["_law_one"]) (cix:=[none]) rfl ⟨rfl,by decide +kernel,rfl⟩ (wI ux <| zaU K rfl (kv 4)) (fun _ _ _ _=>(wG yw <| zB (i:=0) (show (["_law_one"]:List Str).Nodup by decide +kernel) rfl (Or.inl rfl))) (fun _ _ _ _=>ut) (fun _ _ _ _=>(zbP xz zau (kb 0) (JE.bo yh) (fun _ _=>rfl)))))
   (zf (wS zz <| zS (i:=6) xh.nd rfl (Or.inl rfl) (wE zC <| ug T.q8 G8 hr (zc (kv 3) (zc (kv 4) zn))))
   (zf (wS zz <| zS (i:=7) xh.nd rfl (Or.inl rfl) yh)
   (zf (xT PassesOwn.never rfl (wI zac <| xq rfl T.b_range (zk (JE.bo (yk yJ zah (by rfl) T.b_len PySem.boot_len (zk (kb 3) zt))) zt)) (wG yw <| zB (i:=8) xh.nd rfl (Or.inl rfl)) (zg (wS zM <| xt (wT zp <| yc zan zeM (kb 8) (kb 5) (by with_unfolding_all rfl)) (zf (wS zz <| zS (i:=7) xh.nd rfl (Or.inl rfl) (zfv xO zi1 (kb 7) (JE.bo (zbP xz zau (kb 3) (kb 8) (fun _ _=>rfl)))))
   (zg (wS zM <| xt (wT y4 <| xU (wT zp <| uI (JE.bo (wE zC <| ug T.q24 G24 hr (zc (kv 3) (zc (kv 4) (zc (kv 6) (zc (kv 8) zn)))))))) (zg (zw uH)) zL))) zL)))
   (zf (wS zM <| xt (JW.t (wW xM <| zas (wT zp <| yc zcY zlk (JE.bo (yk yJ zah (by rfl) T.b_len PySem.boot_len (zk (kb 6) zt))) (kb 7) (zD _)) (xK (.inr rfl) (wT y4 <| xU (wT zp <| uI (JE.bo (wE zC <| ug T.q23 G23 hr (zc (kv 3) (zc (kv 4) (zc (zfv zdU zhv (JE.bo (wE zkn <| zoC (kb 6) zdI (wO zbU <| zdJ (JE.bo yh)))) (JE.bo (zj7 (kb 6) (JE.bo yh) (JE.bo yh)))) zn)))))))))) (zg (zw uH)) zL)
   (zf (wS zz <| zS (i:=9) xh.nd rfl (Or.inr rfl) (xC (zel rfl) zhw (by rfl) T.b_dict PyProof.Rows.boot_dict (zk (kb 4) zt)))
   (zf (wS zz <| zS (i:=10) xh.nd rfl (Or.inl rfl) (xC xb zck (by rfl) T.b_tuple PyProof.Rows.boot_tuple (zk (JE.bo (zbr (N:=["_law_box","_law_worths"]) (cix:=[none,some 9]) rfl ⟨rfl,by decide +kernel,rfl⟩ (wI zac <| xq rfl T.b_range (zk (JE.bo (yk yJ zah (by rfl) T.b_len PySem.boot_len (zk (kb 3) zt))) zt)) (fun _ _ _ _=>(wG yw <| zB (i:=0) (show (["_law_box","_law_worths"]:List Str).Nodup by decide +kernel) rfl (Or.inl rfl))) (fun _ _ _ _=>ut) (fun _ _ _ _=>(zjr (zgj hr) (kb 1) (kb 0) (JE.bo yh))))) zt)))
   (zf (wS zz <| zS (i:=11) xh.nd rfl (Or.inl rfl) (xC xb zck (by rfl) T.b_tuple PyProof.Rows.boot_tuple (zk (JE.bo (zbr (N:=["_law_box","_law_worths","_law_room_here"]) (cix:=[none,some 9,some 3]) rfl ⟨rfl,by decide +kernel,rfl⟩ (wI zac <| xq rfl T.b_range (zk (JE.bo (yk yJ zah (by rfl) T.b_len PySem.boot_len (zk (kb 3) zt))) zt)) (fun _ _ _ _=>(wG yw <| zB (i:=0) (show (["_law_box","_law_worths","_law_room_here"]:List Str).Nodup by decide +kernel) rfl (Or.inl rfl))) (fun _ _ _ _=>ut) (fun _ _ _ _=>(zjr (zgj hr) (kb 1) (kb 0) (JE.bo (zfv zmC zpx (JE.bo (zbP xz zau (kb 2) (kb 0) (fun _ _=>rfl))) (JE.bo yh))))))) zt)))
   (zf (wS zM <| xt (JW.t (wW xM <| zas (wT zp <| yc (zby hr.units) zfs (JE.bo (zbP xa zeb (kb 6) (JE.bo yh) (fun _ _=>rfl))) (kb 10) (zD _)) (xK (.inr rfl) (wT zp <| yc (zby hr.units) zfs (JE.bo (zbP xa zeb (kb 6) (JE.bo (zl5 zdb zhy (JE.bo yh))) (fun _ _=>rfl))) (kb 11) (zD _))))) (zg (zw uH)) zL)
   (zf (wS zz <| zS (i:=12) xh.nd rfl (Or.inl rfl) (xC xb zck (by rfl) T.b_tuple PyProof.Rows.boot_tuple (zk (JE.bo (zbr (N:=["_law_box","_law_worth"]) (cix:=[none,none]) rfl ⟨rfl,by decide +kernel,rfl⟩ (wI zdM <| zdH rfl T.b_enumerate (zc (zbP xa zeb (kb 6) (JE.bo (zl5 zdb zhy (JE.bo yh))) (fun _ _=>rfl)) zn)) (fun _ _ _ _=>(wG zbq <| zbs (n:=2) K rfl rfl (wH xJ <| yi (wG yw <| zB (i:=0) (show (["_law_box","_law_worth"]:List Str).Nodup by decide +kernel) rfl (Or.inl rfl)) (wH xJ <| yi (wG yw <| zB (i:=1) (show (["_law_box","_law_worth"]:List Str).Nodup by decide +kernel) rfl (Or.inl rfl)) (wH zbp zaa))))) (fun _ _ _ _=>ut) (fun _ _ _ _=>(zj9 (zc (kv 0) (zc (kv 1) zn)))))) zt)))
   (zg (wS zM <| xt (JW.t (wW xM <| zas (wT zp <| yc y8 xy (JE.bo (wE zC <| ug T.q20 G20 hr (zc (kv 3) (zc (kv 12) zn)))) (JE.bo uH) (zD _)) (xK (.inr rfl) (wT zp <| yc (zby hr.units) zfs (JE.bo (wE zC <| ug T.q8 G8 hr (zc (kv 3) (zc (kv 12) zn)))) (JE.bo (zdG (zc (kv 11) zn))) (zD _))))) (zg (zw uH)) zL))))))))))))))))
   (zg (zw uH))),fun p c ns hPn=>?_⟩
 subst hPn
 refine znj ?_
 walk_at "st"
 refine ⟨⟨by decide,by decide⟩,zep (fun i ρ n=>n<=2000 * i/\∃ v2 v3 v4 v5 v6 v7 v8 v9 v10 v11 v12,ρ=[none,some (.pen p),v2,v3,v4,v5,v6,v7,v8,v9,v10,v11,v12]) ⟨Nat.le_refl _,none,none,none,none,none,none,none,none,none,none,none,rfl⟩ ?_ ?_⟩
 ·rintro i ρ n hi ⟨hn,v2,v3,v4,v5,v6,v7,v8,v9,v10,v11,v12,rfl⟩ C B E hC _ _
  have hi:i<3:=hi
  walk_at "st"
  refine ⟨p,c,ns,3,rfl,rfl,by lia,by decide,by decide,fun r r0 r1=>?_⟩
  walk_at "st"
  refine zmp r0 r1 fun x hx=>?_
  obtain ⟨most,rfl,m1,m2⟩:∃ most,x = .int most/\4<=most/\most<=256:=by
   simp at hx
   rcases hx with rfl | rfl | rfl
   all_goals exact ⟨_,rfl,by lia,by lia⟩
  walk_at "st"
  refine ⟨p,c,ns,most,rfl,rfl,by lia,m1,m2,fun rm hR hp=>?_⟩
  have h8:=hR.few
  walk_at "st"
  refine zhK.i hR (by lia) ?_
  walk_at "st"
  walk_at "cf"
  refine zhQ.i hR ?_
  walk_at "st"
  refine zfA.i hR ?_
  walk_at "st"
  rw [List.length_map,zhS hR]
  refine ze9 (fun h=>absurd rfl h) (fun _=>?_)
  walk_at "st"
  refine ⟨p,c,ns,2,rfl,rfl,by lia,by decide,by decide,fun q q0 q1=>?_⟩
  walk_at "st"
  refine zmp q0 q1 fun y hy=>?_
  obtain ⟨ap,rfl⟩:∃ ap,y = .int ap:=by
   simp at hy
   rcases hy with rfl | rfl
   all_goals exact ⟨_,rfl⟩
  walk_at "st"
  refine ⟨p,c,ns,rm,ap,rfl,rfl,by lia,hR,fun g hG _ hg8=>?_⟩
  walk_at "st"
  refine zaJ g (fun q=>.d (yN q)) (by rw [List.map_map];rfl) (fun ρ=>∃ a,ρ=[a]) (fun q=>.int q.1) (Nat.le_trans (by lia:_<=100) (by decide)) ⟨_,rfl⟩ ?_ ?_
  ·rintro q hq ρ' ⟨a,rfl⟩ D hD
   walk_at "st"
   exact hD ⟨_,rfl⟩
  have e0:(g.map fun q=>Dt.int q.1)=(g.map (·.1)).map Dt.int:=by rw [List.map_map];rfl
  rw [e0]
  walk_at "st"
  refine xo.i hR hG ?_
  walk_at "st"
  rw [List.length_map]
  refine ⟨⟨by lia,by lia⟩,zep (fun j ρ m=>m<=n+100/\j<=rm.length/\∃ v8,ρ=[none,some (.pen p),some (.d (.int (i:Int))),some (.d (stD rm)),some (.d (zar g)),some (.d (.lst ((g.map (·.1)).map Dt.int))),some (.d (zbj (zW rm g))),some (.d (.int (zez rm g j))),v8,v9,v10,v11,v12]) ⟨by lia,Nat.zero_le _,_,rfl⟩ ?_ ?_⟩
  ·rintro j ρ m hj ⟨hm,hjl,v8,rfl⟩ C' B' E' hC' _ _
   have hj:j<rm.length:=by lia
   have hmu:=zko hR hG hjl
   have hmm:=zc2 hR.box (Int.natCast_nonneg j) (by lia)
   walk_at "st"
   refine ⟨_,rfl,?_⟩
   walk_at "st"
   refine zjt (fun hh=>?_) (fun hh=>?_)
   ·have hh':(j:Int)∉g.map (·.1):=fun z=>by rw [List.contains_iff_mem.mpr z] at hh;cases hh
    walk_at "st"
    refine onA (Int.natCast_nonneg j) (by lia) ?_
    walk_at "st"
    refine ⟨.inr ⟨by lia,by lia⟩,?_⟩
    walk_at "st"
    refine zhP.i hR hG hh' (Int.natCast_nonneg j) (by lia) ?_
    walk_at "st"
    refine hC' ⟨hm,hj,some (.d (.int (j:Int))),?_⟩
    rw [zez,if_neg hh']
   ·have hh':(j:Int)∈g.map (·.1):=List.contains_iff_mem.mp hh
    walk_at "st"
    refine hC' ⟨hm,hj,some (.d (.int (j:Int))),?_⟩
    rw [zez,if_pos hh']
  ·rintro ρ m ⟨hm,hjl,v8,rfl⟩
   walk_at "st"
   rw [show ((rm.length:Int)).toNat=rm.length by lia,List.length_map,uu hR hG]
   refine ze9 (fun h=>absurd rfl h) (fun _=>?_)
   walk_at "st"
   rw [zaO,show (3:Int)=((3:Nat):Int) from rfl,L3.uD]
   refine ⟨⟨by decide,by decide⟩,fun ys hys=>?_⟩
   rw [<- List.map_drop] at hys
   obtain ⟨zs,hzs,rfl⟩:=List.sublist_map_iff.mp hys
   have hsub:((zW rm g).take 3++zs).Sublist (zW rm g):=by
    have:=(List.Sublist.refl ((zW rm g).take 3)).append hzs
    rwa [Int.toNat_natCast,List.take_append_drop] at this
   walk_at "st"
   refine ⟨?_,?_⟩
   ·have h1:=hsub.length_le
    have h2:=uK (g:=g) hR
    rw [<- List.length_append,<- List.map_append,List.length_map]
    exact Nat.le_trans (Nat.le_trans h1 h2) (by decide)
   rw [<- List.map_append]
   walk_at "st"
   refine zed.i hR hG (fun st hst=>hsub.subset hst) (List.Pairwise.sublist hsub zbQ) ?_
   walk_at "st"
   have hps:g.map yN=(g.map fun q=>(q.1,Dt.int q.2)).map prD:=by rw [List.map_map];rfl
   have hnd:(g.map (·.1)).Nodup:=List.Pairwise.map (fun q:Int×Int=>q.1) (fun a b h e=>by lia) hG.up
   refine ⟨g.map fun q=>(q.1,Dt.int q.2),hps,by rw [List.map_map];exact hnd,by rw [List.length_map];lia,?_⟩
   generalize hkv:List.map kvD (List.map (fun q:Int×Int=>(q.1,Dt.int q.2)) g)=kvs
   have hlook:∀ i:Nat,xl kvs (Sum.inl (i:Int))=(gw g i).map Dt.int:=fun i=>by
    rw [<- hkv]
    exact zgE g i
   walk_at "st"
   rw [List.length_map]
   refine ⟨⟨by lia,by lia⟩,?_⟩
   rw [zeH,show ((rm.length:Int)).toNat=rm.length by lia]
   refine zaJ (List.range rm.length) (fun k:Nat=>W.d (.int (k:Int))) rfl (fun ρ=>∃ a,ρ=[a,some (.dk kvs)]) (fun k:Nat=>.int ((gw g k).getD 0)) (Nat.le_trans (by rw [List.length_range];lia:_<=100) (by decide)) ⟨_,rfl⟩ ?_ ?_
   ·rintro k hk ρ' ⟨a,rfl⟩ D hD
    walk_at "st"
    rw [hlook,zjl]
    exact hD ⟨_,rfl⟩
   have e1:((List.range rm.length).map fun k:Nat=>Dt.int ((gw g k).getD 0))=(zlU rm g).map Dt.int:=by unfold zlU;rw [List.map_map];rfl
   rw [e1]
   walk_at "st"
   rw [List.length_map]
   refine ⟨⟨by lia,by lia⟩,?_⟩
   rw [zeH,show ((rm.length:Int)).toNat=rm.length by lia]
   refine zaJ (List.range rm.length) (fun k:Nat=>W.d (.int (k:Int))) rfl (fun ρ=>∃ a,ρ=[a,some (.dk kvs),some (.d (stD rm))]) (fun k:Nat=>.int ((gw g k).getD (zE rm k - 1))) (Nat.le_trans (by rw [List.length_range];lia:_<=100) (by decide)) ⟨_,rfl⟩ ?_ ?_
   ·rintro k hk ρ' ⟨a,rfl⟩ D hD
    have hk':=List.mem_range.mp hk
    walk_at "st"
    refine onA (Int.natCast_nonneg k) (by lia) ?_
    walk_at "st"
    rw [hlook,zjl]
    exact hD ⟨_,rfl⟩
   have e2:((List.range rm.length).map fun k:Nat=>Dt.int ((gw g k).getD (zE rm k - 1)))=(zfw rm g).map Dt.int:=by unfold zfw;rw [List.map_map];rfl
   rw [e2]
   walk_at "st"
   refine zcW (a:=stD (zlU rm g)) (zcq (i:=0) (by rw [List.getElem?_map,zgu hR];rfl)) ?_
   walk_at "st"
   refine za9 uE ?_
   walk_at "st"
   walk_at "cf"
   have hlast:atI ((zW rm g).map stD) (-1)=some (stD (zfw rm g)):=zob (by rw [List.getLast?_map,zcF hR];rfl)
   have hlv:yI rm (zfw rm g):=yf hR ((zaX hG).mp (List.mem_of_getLast? (zcF hR))).1
   have hll:=hlv.len
   refine zcW hlast ?_
   walk_at "st"
   refine za9 uE ?_
   walk_at "st"
   walk_at "cf"
   refine zcW hlast ?_
   walk_at "st"
   refine zaJ (List.range (zfw rm g).length) (fun i=>W.d (.tup [.int (i:Int),.int ((zfw rm g).getD i 0)])) (zdx _) (fun ρ=>∃ a b,ρ=[a,b]) (fun i:Nat=>yN ((i:Int),(zfw rm g).getD i 0)) (Nat.le_trans (by rw [List.length_range];lia:_<=100) (by decide)) ⟨_,_,rfl⟩ ?_ ?_
   ·rintro k hk ρ' ⟨a,b,rfl⟩ D hD
    walk_at "st"
    exact hD ⟨_,_,rfl⟩
   have e3:((List.range (zfw rm g).length).map fun i:Nat=>yN ((i:Int),(zfw rm g).getD i 0))=(evG (zfw rm g)).map yN:=by unfold evG;rw [List.map_map];rfl
   rw [e3]
   walk_at "st"
   refine zfx.i (zdy hlv) ?_
   walk_at "st"
   walk_at "cf"
   refine xo.i hR (zdy hlv) ?_
   walk_at "st"
   rw [zh4 hlv]
   refine za9 (zdK [_]) ?_
   walk_at "st"
   walk_at "cf"
   exact hC ⟨by lia,_,_,_,_,_,_,_,_,_,_,_,rfl⟩
 ·rintro ρ n ⟨hn,v2,v3,v4,v5,v6,v7,v8,v9,v10,v11,v12,rfl⟩
  walk_at "st"
end
theorem zlw {l:PySem.W.OpenLaw}{w:World}{K:PySem.W.Frag}{h:Heap}{mg:Str->Option Value}{fa f0 f1 f2 f3 f4 f5 f6 f7 f8 f9 f10 f11 f12 f13 f14 f15 f16 f17 f18 f19 f20 f21 f22 f23 f24 f25:Addr}(X:K.In h)(G:h.Ns mainGlobals mg)(hfa:mg "law" = some (.ref fa))
  {od0 an0 od1 an1 od2 an2 od3 an3 od4 an4 od5 an5 od6 an6 od7 an7 od8 an8 od9 an9 od10 an10 od11 an11 od12 an12 od13 an13 od14 an14 od15 an15 od16 an16 od17 an17 od18 an18 od19 an19 od20 an20 od21 an21 od22 an22 od23 an23 od24 an24 od25 an25:Option Addr} {sl0 sl1 sl2 sl3 sl4 sl5 sl6 sl7 sl8 sl9 sl10 sl11 sl12 sl13 sl14 sl15 sl16 sl17 sl18 sl19 sl20 sl21 sl22 sl23 sl24 sl25:Array (Option Value)} {oc0 kV0 dc0 pm0 cd0 ct0 oc1 kV1 dc1 pm1 cd1 ct1 oc2 kV2 dc2 pm2 cd2 ct2 oc3 kV3 dc3 pm3 cd3 ct3 oc4 kV4 dc4 pm4 cd4 ct4 oc5 kV5 dc5 pm5 cd5 ct5 oc6 kV6 dc6 pm6 cd6 ct6 oc7 kV7 dc7 pm7 cd7 ct7 oc8 kV8 dc8 pm8 cd8 ct8 oc9 kV9 dc9 pm9 cd9 ct9 oc10 kV10 dc10 pm10 cd10 ct10 oc11 kV11 dc11 pm11 cd11 ct11 oc12 kV12 dc12 pm12 cd12 ct12 oc13 kV13 dc13 pm13 cd13 ct13 oc14 kV14 dc14 pm14 cd14 ct14 oc15 kV15 dc15 pm15 cd15 ct15 oc16 kV16 dc16 pm16 cd16 ct16 oc17 kV17 dc17 pm17 cd17 ct17 oc18 kV18 dc18 pm18 cd18 ct18 oc19 kV19 dc19 pm19 cd19 ct19 oc20 kV20 dc20 pm20 cd20 ct20 oc21 kV21 dc21 pm21 cd21 ct21 oc22 kV22 dc22 pm22 cd22 ct22 oc23 kV23 dc23 pm23 cd23 ct23 oc24 kV24 dc24 pm24 cd24 ct24 oc25 kV25 dc25 pm25 cd25 ct25:Value}
  (a0:PySem.W.nsIn K mainGlobals "combined" = some (some (.ref f0))) (l0:K.lookup f0=some ⟨oc0,od0,.func (PySem.W.fnOf "combined" "combined" (zr yT) (zi yT) (za yT) .none kV0 dc0 pm0 an0 cd0 ct0),sl0⟩) (c0:PySem.W.codeIn K cd0 "combined" = true) (k0:PySem.W.keepIn K (.ref f0)=true)
  (a1:PySem.W.nsIn K mainGlobals "_law_pen" = some (some (.ref f1))) (l1:K.lookup f1=some ⟨oc1,od1,.func (PySem.W.fnOf "_law_pen" "_law_pen" (zr yS) (zi yS) (za yS) .none kV1 dc1 pm1 an1 cd1 ct1),sl1⟩) (c1:PySem.W.codeIn K cd1 "_law_pen" = true) (k1:PySem.W.keepIn K (.ref f1)=true)
  (a2:PySem.W.nsIn K mainGlobals "_law_draw" = some (some (.ref f2))) (l2:K.lookup f2=some ⟨oc2,od2,.func (PySem.W.fnOf "_law_draw" "_law_draw" (zr yz) (zi yz) (za yz) .none kV2 dc2 pm2 an2 cd2 ct2),sl2⟩) (c2:PySem.W.codeIn K cd2 "_law_draw" = true) (k2:PySem.W.keepIn K (.ref f2)=true)
  (a3:PySem.W.nsIn K mainGlobals "_law_size" = some (some (.ref f3))) (l3:K.lookup f3=some ⟨oc3,od3,.func (PySem.W.fnOf "_law_size" "_law_size" (zr yB) (zi yB) (za yB) .none kV3 dc3 pm3 an3 cd3 ct3),sl3⟩) (c3:PySem.W.codeIn K cd3 "_law_size" = true) (k3:PySem.W.keepIn K (.ref f3)=true)
  (a4:PySem.W.nsIn K mainGlobals "_law_room" = some (some (.ref f4))) (l4:K.lookup f4=some ⟨oc4,od4,.func (PySem.W.fnOf "_law_room" "_law_room" (zr yA) (zi yA) (za yA) .none kV4 dc4 pm4 an4 cd4 ct4),sl4⟩) (c4:PySem.W.codeIn K cd4 "_law_room" = true) (k4:PySem.W.keepIn K (.ref f4)=true)
  (a5:PySem.W.nsIn K mainGlobals "_law_given" = some (some (.ref f5))) (l5:K.lookup f5=some ⟨oc5,od5,.func (PySem.W.fnOf "_law_given" "_law_given" (zr yn) (zi yn) (za yn) .none kV5 dc5 pm5 an5 cd5 ct5),sl5⟩) (c5:PySem.W.codeIn K cd5 "_law_given" = true) (k5:PySem.W.keepIn K (.ref f5)=true)
  (a6:PySem.W.nsIn K mainGlobals "changed" = some (some (.ref f6))) (l6:K.lookup f6=some ⟨oc6,od6,.func (PySem.W.fnOf "changed" "changed" (zr xu) (zi xu) (za xu) .none kV6 dc6 pm6 an6 cd6 ct6),sl6⟩) (c6:PySem.W.codeIn K cd6 "changed" = true) (k6:PySem.W.keepIn K (.ref f6)=true)
  (a7:PySem.W.nsIn K mainGlobals "keeps" = some (some (.ref f7))) (l7:K.lookup f7=some ⟨oc7,od7,.func (PySem.W.fnOf "keeps" "keeps" (zr zaf) (zi zaf) (za zaf) .none kV7 dc7 pm7 an7 cd7 ct7),sl7⟩) (c7:PySem.W.codeIn K cd7 "keeps" = true) (k7:PySem.W.keepIn K (.ref f7)=true)
  (a8:PySem.W.nsIn K mainGlobals "keeping" = some (some (.ref f8))) (l8:K.lookup f8=some ⟨oc8,od8,.func (PySem.W.fnOf "keeping" "keeping" (zr xx) (zi xx) (za xx) .none kV8 dc8 pm8 an8 cd8 ct8),sl8⟩) (c8:PySem.W.codeIn K cd8 "keeping" = true) (k8:PySem.W.keepIn K (.ref f8)=true)
  (a9:PySem.W.nsIn K mainGlobals "is_whole" = some (some (.ref f9))) (l9:K.lookup f9=some ⟨oc9,od9,.func (PySem.W.fnOf "is_whole" "is_whole" (zr yX) (zi yX) (za yX) .none kV9 dc9 pm9 an9 cd9 ct9),sl9⟩) (c9:PySem.W.codeIn K cd9 "is_whole" = true) (k9:PySem.W.keepIn K (.ref f9)=true)
  (a10:PySem.W.nsIn K mainGlobals "multiplied" = some (some (.ref f10))) (l10:K.lookup f10=some ⟨oc10,od10,.func (PySem.W.fnOf "multiplied" "multiplied" (zr yo) (zi yo) (za yo) .none kV10 dc10 pm10 an10 cd10 ct10),sl10⟩) (c10:PySem.W.codeIn K cd10 "multiplied" = true) (k10:PySem.W.keepIn K (.ref f10)=true)
  (a11:PySem.W.nsIn K mainGlobals "are_boxes" = some (some (.ref f11))) (l11:K.lookup f11=some ⟨oc11,od11,.func (PySem.W.fnOf "are_boxes" "are_boxes" (zr yD) (zi yD) (za yD) .none kV11 dc11 pm11 an11 cd11 ct11),sl11⟩) (c11:PySem.W.codeIn K cd11 "are_boxes" = true) (k11:PySem.W.keepIn K (.ref f11)=true)
  (a12:PySem.W.nsIn K mainGlobals "is_room" = some (some (.ref f12))) (l12:K.lookup f12=some ⟨oc12,od12,.func (PySem.W.fnOf "is_room" "is_room" (zr xw) (zi xw) (za xw) .none kV12 dc12 pm12 an12 cd12 ct12),sl12⟩) (c12:PySem.W.codeIn K cd12 "is_room" = true) (k12:PySem.W.keepIn K (.ref f12)=true)
  (a13:PySem.W.nsIn K mainGlobals "is_small" = some (some (.ref f13))) (l13:K.lookup f13=some ⟨oc13,od13,.func (PySem.W.fnOf "is_small" "is_small" (zr yW) (zi yW) (za yW) .none kV13 dc13 pm13 an13 cd13 ct13),sl13⟩) (c13:PySem.W.codeIn K cd13 "is_small" = true) (k13:PySem.W.keepIn K (.ref f13)=true)
  (a14:PySem.W.nsIn K mainGlobals "is_box" = some (some (.ref f14))) (l14:K.lookup f14=some ⟨oc14,od14,.func (PySem.W.fnOf "is_box" "is_box" (zr ud) (zi ud) (za ud) .none kV14 dc14 pm14 an14 cd14 ct14),sl14⟩) (c14:PySem.W.codeIn K cd14 "is_box" = true) (k14:PySem.W.keepIn K (.ref f14)=true)
  (a15:PySem.W.nsIn K mainGlobals "is_worth" = some (some (.ref f15))) (l15:K.lookup f15=some ⟨oc15,od15,.func (PySem.W.fnOf "is_worth" "is_worth" (zr yY) (zi yY) (za yY) .none kV15 dc15 pm15 an15 cd15 ct15),sl15⟩) (c15:PySem.W.codeIn K cd15 "is_worth" = true) (k15:PySem.W.keepIn K (.ref f15)=true)
  (a16:PySem.W.nsIn K mainGlobals "is_standing" = some (some (.ref f16))) (l16:K.lookup f16=some ⟨oc16,od16,.func (PySem.W.fnOf "is_standing" "is_standing" (zr yb) (zi yb) (za yb) .none kV16 dc16 pm16 an16 cd16 ct16),sl16⟩) (c16:PySem.W.codeIn K cd16 "is_standing" = true) (k16:PySem.W.keepIn K (.ref f16)=true)
  (a17:PySem.W.nsIn K mainGlobals "standings" = some (some (.ref f17))) (l17:K.lookup f17=some ⟨oc17,od17,.func (PySem.W.fnOf "standings" "standings" (zr yF) (zi yF) (za yF) .none kV17 dc17 pm17 an17 cd17 ct17),sl17⟩) (c17:PySem.W.codeIn K cd17 "standings" = true) (k17:PySem.W.keepIn K (.ref f17)=true)
  (a18:PySem.W.nsIn K mainGlobals "number" = some (some (.ref f18))) (l18:K.lookup f18=some ⟨oc18,od18,.func (PySem.W.fnOf "number" "number" (zr ue) (zi ue) (za ue) .none kV18 dc18 pm18 an18 cd18 ct18),sl18⟩) (c18:PySem.W.codeIn K cd18 "number" = true) (k18:PySem.W.keepIn K (.ref f18)=true)
  (a19:PySem.W.nsIn K mainGlobals "is_choice" = some (some (.ref f19))) (l19:K.lookup f19=some ⟨oc19,od19,.func (PySem.W.fnOf "is_choice" "is_choice" (zr yE) (zi yE) (za yE) .none kV19 dc19 pm19 an19 cd19 ct19),sl19⟩) (c19:PySem.W.codeIn K cd19 "is_choice" = true) (k19:PySem.W.keepIn K (.ref f19)=true)
  (a20:PySem.W.nsIn K mainGlobals "is_given" = some (some (.ref f20))) (l20:K.lookup f20=some ⟨oc20,od20,.func (PySem.W.fnOf "is_given" "is_given" (zr yU) (zi yU) (za yU) .none kV20 dc20 pm20 an20 cd20 ct20),sl20⟩) (c20:PySem.W.codeIn K cd20 "is_given" = true) (k20:PySem.W.keepIn K (.ref f20)=true)
  (a21:PySem.W.nsIn K mainGlobals "_law_with" = some (some (.ref f21))) (l21:K.lookup f21=some ⟨oc21,od21,.func (PySem.W.fnOf "_law_with" "_law_with" (zr yC) (zi yC) (za yC) .none kV21 dc21 pm21 an21 cd21 ct21),sl21⟩) (c21:PySem.W.codeIn K cd21 "_law_with" = true) (k21:PySem.W.keepIn K (.ref f21)=true)
  (a22:PySem.W.nsIn K mainGlobals "_law_led" = some (some (.ref f22))) (l22:K.lookup f22=some ⟨oc22,od22,.func (PySem.W.fnOf "_law_led" "_law_led" (zr yR) (zi yR) (za yR) .none kV22 dc22 pm22 an22 cd22 ct22),sl22⟩) (c22:PySem.W.codeIn K cd22 "_law_led" = true) (k22:PySem.W.keepIn K (.ref f22)=true)
  (a23:PySem.W.nsIn K mainGlobals "_law_each_right" = some (some (.ref f23))) (l23:K.lookup f23=some ⟨oc23,od23,.func (PySem.W.fnOf "_law_each_right" "_law_each_right" (zr zF) (zi zF) (za zF) .none kV23 dc23 pm23 an23 cd23 ct23),sl23⟩) (c23:PySem.W.codeIn K cd23 "_law_each_right" = true) (k23:PySem.W.keepIn K (.ref f23)=true)
  (a24:PySem.W.nsIn K mainGlobals "_law_parted" = some (some (.ref f24))) (l24:K.lookup f24=some ⟨oc24,od24,.func (PySem.W.fnOf "_law_parted" "_law_parted" (zr ya) (zi ya) (za ya) .none kV24 dc24 pm24 an24 cd24 ct24),sl24⟩) (c24:PySem.W.codeIn K cd24 "_law_parted" = true) (k24:PySem.W.keepIn K (.ref f24)=true)
  (a25:PySem.W.nsIn K mainGlobals "law" = some (some (.ref f25))) (l25:K.lookup f25=some ⟨oc25,od25,.func (PySem.W.fnOf "law" "law" (zr zff) (zi zff) (za zff) .none kV25 dc25 pm25 an25 cd25 ct25),sl25⟩) (c25:PySem.W.codeIn K cd25 "law" = true) (k25:PySem.W.keepIn K (.ref f25)=true)
  (z_enumerate:PySem.W.nsIn K mainGlobals "enumerate" = some none)
  (z_zip:PySem.W.nsIn K mainGlobals "zip" = some none)
  (z_dict:PySem.W.nsIn K mainGlobals "dict" = some none)
  (z_range:PySem.W.nsIn K mainGlobals "range" = some none)
  (z_tuple:PySem.W.nsIn K mainGlobals "tuple" = some none)
  (z_isinstance:PySem.W.nsIn K mainGlobals "isinstance" = some none)
  (z_int:PySem.W.nsIn K mainGlobals "int" = some none)
  (z_len:PySem.W.nsIn K mainGlobals "len" = some none)
  (z_sorted:PySem.W.nsIn K mainGlobals "sorted" = some none)
  (z_bool:PySem.W.nsIn K mainGlobals "bool" = some none)
  (z_list:PySem.W.nsIn K mainGlobals "list" = some none)
  (z_abs:PySem.W.nsIn K mainGlobals "abs" = some none)
  (z_min:PySem.W.nsIn K mainGlobals "min" = some none)
  {tk_MOST_BOXES:Tok} (y_MOST_BOXES:PySem.W.nsIn K mainGlobals "MOST_BOXES" = some (some (.int 8 tk_MOST_BOXES)))
  {tk_LEAST_WORTHS:Tok} (y_LEAST_WORTHS:PySem.W.nsIn K mainGlobals "LEAST_WORTHS" = some (some (.int 2 tk_LEAST_WORTHS)))
  {tk_MOST_WORTHS:Tok} (y_MOST_WORTHS:PySem.W.nsIn K mainGlobals "MOST_WORTHS" = some (some (.int 4 tk_MOST_WORTHS)))
  {tk_MOST_STANDINGS:Tok} (y_MOST_STANDINGS:PySem.W.nsIn K mainGlobals "MOST_STANDINGS" = some (some (.int 256 tk_MOST_STANDINGS)))
  {tk_MOST_OF_SMALL:Tok} (y_MOST_OF_SMALL:PySem.W.nsIn K mainGlobals "MOST_OF_SMALL" = some (some (.int 64 tk_MOST_OF_SMALL)))
  : ∃ fd:FuncData,(∀ (s:Shared) (v:Value),BindsTo s fd ⟨[v],[]⟩ [("_law_script",v)])/\∀ base:Heap,K.In base->base.Ns mainGlobals mg->FnOk l.prog w K mg base CX0 6 fa fd ["_law_script"] (zhg K):=by
 have e:=hfa.symm.trans (PySem.W.mg_of X G a25)
 cases e
 have F0:=zN (st:=yT) l0 c0 k0
 have b0:=F0.binds (ps:=["choices"]) fun _ _ _ _ _ _ us hl=>match us,hl with | [_],_=>rfl
 have F1:=zN (st:=yS) l1 c1 k1
 have b1:=F1.binds (ps:=["_law_script"]) fun _ _ _ _ _ _ us hl=>match us,hl with | [_],_=>rfl
 have F2:=zN (st:=yz) l2 c2 k2
 have b2:=F2.binds (ps:=["_law_pen_here","_law_many"]) fun _ _ _ _ _ _ us hl=>match us,hl with | [_,_],_=>rfl
 have F3:=zN (st:=yB) l3 c3 k3
 have b3:=F3.binds (ps:=["_law_room_here"]) fun _ _ _ _ _ _ us hl=>match us,hl with | [_],_=>rfl
 have F4:=zN (st:=yA) l4 c4 k4
 have b4:=F4.binds (ps:=["_law_pen_here","_law_most"]) fun _ _ _ _ _ _ us hl=>match us,hl with | [_,_],_=>rfl
 have F5:=zN (st:=yn) l5 c5 k5
 have b5:=F5.binds (ps:=["_law_pen_here","_law_room_here","_law_apart"]) fun _ _ _ _ _ _ us hl=>match us,hl with | [_,_,_],_=>rfl
 have F6:=zN (st:=xu) l6 c6 k6
 have b6:=F6.binds (ps:=["standing","box","worth"]) fun _ _ _ _ _ _ us hl=>match us,hl with | [_,_,_],_=>rfl
 have F7:=zN (st:=zaf) l7 c7 k7
 have b7:=F7.binds (ps:=["standing","given"]) fun _ _ _ _ _ _ us hl=>match us,hl with | [_,_],_=>rfl
 have F8:=zN (st:=xx) l8 c8 k8
 have b8:=F8.binds (ps:=["room","given"]) fun _ _ _ _ _ _ us hl=>match us,hl with | [_,_],_=>rfl
 have F9:=zN (st:=yX) l9 c9 k9
 have b9:=F9.binds (ps:=["thing"]) fun _ _ _ _ _ _ us hl=>match us,hl with | [_],_=>rfl
 have F10:=zN (st:=yo) l10 c10 k10
 have b10:=F10.binds (ps:=["room"]) fun _ _ _ _ _ _ us hl=>match us,hl with | [_],_=>rfl
 have F11:=zN (st:=yD) l11 c11 k11
 have b11:=F11.binds (ps:=["thing","most"]) fun _ _ _ _ _ _ us hl=>match us,hl with | [_,_],_=>rfl
 have F12:=zN (st:=xw) l12 c12 k12
 have b12:=F12.binds (ps:=["thing"]) fun _ _ _ _ _ _ us hl=>match us,hl with | [_],_=>rfl
 have F13:=zN (st:=yW) l13 c13 k13
 have b13:=F13.binds (ps:=["room"]) fun _ _ _ _ _ _ us hl=>match us,hl with | [_],_=>rfl
 have F14:=zN (st:=ud) l14 c14 k14
 have b14:=F14.binds (ps:=["room","thing"]) fun _ _ _ _ _ _ us hl=>match us,hl with | [_,_],_=>rfl
 have F15:=zN (st:=yY) l15 c15 k15
 have b15:=F15.binds (ps:=["room","box","thing"]) fun _ _ _ _ _ _ us hl=>match us,hl with | [_,_,_],_=>rfl
 have F16:=zN (st:=yb) l16 c16 k16
 have b16:=F16.binds (ps:=["room","thing"]) fun _ _ _ _ _ _ us hl=>match us,hl with | [_,_],_=>rfl
 have F17:=zN (st:=yF) l17 c17 k17
 have b17:=F17.binds (ps:=["room"]) fun _ _ _ _ _ _ us hl=>match us,hl with | [_],_=>rfl
 have F18:=zN (st:=ue) l18 c18 k18
 have b18:=F18.binds (ps:=["room","standing"]) fun _ _ _ _ _ _ us hl=>match us,hl with | [_,_],_=>rfl
 have F19:=zN (st:=yE) l19 c19 k19
 have b19:=F19.binds (ps:=["room","thing"]) fun _ _ _ _ _ _ us hl=>match us,hl with | [_,_],_=>rfl
 have F20:=zN (st:=yU) l20 c20 k20
 have b20:=F20.binds (ps:=["room","thing"]) fun _ _ _ _ _ _ us hl=>match us,hl with | [_,_],_=>rfl
 have F21:=zN (st:=yC) l21 c21 k21
 have b21:=F21.binds (ps:=["_law_base","_law_box","_law_worth"]) fun _ _ _ _ _ _ us hl=>match us,hl with | [_,_,_],_=>rfl
 have F22:=zN (st:=yR) l22 c22 k22
 have b22:=F22.binds (ps:=["_law_room_here","_law_base","_law_first","_law_standing_here"]) fun _ _ _ _ _ _ us hl=>match us,hl with | [_,_,_,_],_=>rfl
 have F23:=zN (st:=zF) l23 c23 k23
 have b23:=F23.binds (ps:=["_law_room_here","_law_base","_law_heard"]) fun _ _ _ _ _ _ us hl=>match us,hl with | [_,_,_],_=>rfl
 have F24:=zN (st:=ya) l24 c24 k24
 have b24:=F24.binds (ps:=["_law_room_here","_law_base","_law_heard","_law_box"]) fun _ _ _ _ _ _ us hl=>match us,hl with | [_,_,_,_],_=>rfl
 have F25:=zN (st:=zff) l25 c25 k25
 have b25:=F25.binds (ps:=["_law_script"]) fun _ _ _ _ _ _ us hl=>match us,hl with | [_],_=>rfl
 have T:Txt K mg ⟨f0,_,f1,_,f2,_,f3,_,f4,_,f5,_,f6,_,f7,_,f8,_,f9,_,f10,_,f11,_,f12,_,f13,_,f14,_,f15,_,f16,_,f17,_,f18,_,f19,_,f20,_,f21,_,f22,_,f23,_,f24,_,fa,_⟩:=⟨⟨F0,b0,PySem.W.mg_of X G a0⟩,⟨F1,b1,PySem.W.mg_of X G a1⟩,⟨F2,b2,PySem.W.mg_of X G a2⟩,⟨F3,b3,PySem.W.mg_of X G a3⟩,⟨F4,b4,PySem.W.mg_of X G a4⟩,⟨F5,b5,PySem.W.mg_of X G a5⟩,⟨F6,b6,PySem.W.mg_of X G a6⟩,⟨F7,b7,PySem.W.mg_of X G a7⟩,⟨F8,b8,PySem.W.mg_of X G a8⟩,⟨F9,b9,PySem.W.mg_of X G a9⟩,⟨F10,b10,PySem.W.mg_of X G a10⟩,⟨F11,b11,PySem.W.mg_of X G a11⟩,⟨F12,b12,PySem.W.mg_of X G a12⟩,⟨F13,b13,PySem.W.mg_of X G a13⟩,⟨F14,b14,PySem.W.mg_of X G a14⟩,⟨F15,b15,PySem.W.mg_of X G a15⟩,⟨F16,b16,PySem.W.mg_of X G a16⟩,⟨F17,b17,PySem.W.mg_of X G a17⟩,⟨F18,b18,PySem.W.mg_of X G a18⟩,⟨F19,b19,PySem.W.mg_of X G a19⟩,⟨F20,b20,PySem.W.mg_of X G a20⟩,⟨F21,b21,PySem.W.mg_of X G a21⟩,⟨F22,b22,PySem.W.mg_of X G a22⟩,⟨F23,b23,PySem.W.mg_of X G a23⟩,⟨F24,b24,PySem.W.mg_of X G a24⟩,⟨F25,b25,PySem.W.mg_of X G a25⟩,PySem.W.mg_none_of X G z_enumerate,PySem.W.mg_none_of X G z_zip,PySem.W.mg_none_of X G z_dict,PySem.W.mg_none_of X G z_range,PySem.W.mg_none_of X G z_tuple,PySem.W.mg_none_of X G z_isinstance,PySem.W.mg_none_of X G z_int,PySem.W.mg_none_of X G z_len,PySem.W.mg_none_of X G z_sorted,PySem.W.mg_none_of X G z_bool,PySem.W.mg_none_of X G z_list,PySem.W.mg_none_of X G z_abs,PySem.W.mg_none_of X G z_min,⟨_,⟨_,rfl⟩,PySem.W.mg_of X G y_MOST_BOXES⟩,⟨_,⟨_,rfl⟩,PySem.W.mg_of X G y_LEAST_WORTHS⟩,⟨_,⟨_,rfl⟩,PySem.W.mg_of X G y_MOST_WORTHS⟩,⟨_,⟨_,rfl⟩,PySem.W.mg_of X G y_MOST_STANDINGS⟩,⟨_,⟨_,rfl⟩,PySem.W.mg_of X G y_MOST_OF_SMALL⟩⟩
 exact ⟨_,fun s v=>.of_eq rfl,fun base _ _=>zmn T⟩
theorem walk {l:PySem.W.OpenLaw}{q:Program}{loose:List Str}{XP:(Str->Option Value)->Heap->Prop}{YP:World->Heap->Prop}{d:DefRec}{K:Params->PySem.W.Frag}(hn:l.most=some 63)(hdf:d.params.defaults=[])
  (hY:∀ (w:World) (h:Heap),YP w h->(K w.params).In h)
  (F:∀ (w:World) (mg:Str->Option Value) (fa:Addr) (h:Heap),(K w.params).In h->h.Ns mainGlobals mg->mg d.name=some (.ref fa)->
   ∃ fd:FuncData,(∀ (s:Shared) (u:Value),BindsTo s fd ⟨[u],[]⟩ [("_law_script",u)])/\∀ base:Heap,(K w.params).In base->base.Ns mainGlobals mg->FnOk l.prog w (K w.params) mg base CX0 6 fa fd ["_law_script"] (zhg (K w.params))) :
  PySem.W.WalkO q loose XP YP l.row.toRowW d [] (fun f vs=>PySem.call f vs):=
 L2.zlq (n:=63) (k:=6) (x := "_law_script") (CX:=fun _=>CX0) (sp:=fun w=>zhg (K w.params)) hn (by decide) hdf ⟨rfl,by decide,by decide⟩ hY F (fun _ _ a ns hl _ hS=>⟨a,ns,rfl,hS,hl,fun _=>rfl⟩) fun _ _ _ _ _ z=>z
end Law
open PySem PySem.W PyProof.Rows
set_option maxRecDepth 100000 in
set_option maxHeartbeats 0 in
theorem PySem.Challenge.cw_allelse_k06_whole_rooms_and_givens_holds : PySem.Challenge.rw_allelse_k06_whole_rooms_and_givens.Holds := by
 w_on;o_law;k_head;(case hw=>w_witness2)
 k_fill
 refine Law.walk (l:=PySem.Challenge.rw_allelse_k06_whole_rooms_and_givens) rfl rfl (fun w h Y=>PySem.W.kIn_of Y) ?F
 case F=>
  intro w mg fa h KX G hmg
  refine' Law.zlw KX G hmg ?a0 ?l0 ?c0 ?k0 ?a1 ?l1 ?c1 ?k1 ?a2 ?l2 ?c2 ?k2 ?a3 ?l3 ?c3 ?k3 ?a4 ?l4 ?c4 ?k4 ?a5 ?l5 ?c5 ?k5 ?a6 ?l6 ?c6 ?k6 ?a7 ?l7 ?c7 ?k7 ?a8 ?l8 ?c8 ?k8 ?a9 ?l9 ?c9 ?k9 ?a10 ?l10 ?c10 ?k10 ?a11 ?l11 ?c11 ?k11 ?a12 ?l12 ?c12 ?k12 ?a13 ?l13 ?c13 ?k13 ?a14 ?l14 ?c14 ?k14 ?a15 ?l15 ?c15 ?k15 ?a16 ?l16 ?c16 ?k16 ?a17 ?l17 ?c17 ?k17 ?a18 ?l18 ?c18 ?k18 ?a19 ?l19 ?c19 ?k19 ?a20 ?l20 ?c20 ?k20 ?a21 ?l21 ?c21 ?k21 ?a22 ?l22 ?c22 ?k22 ?a23 ?l23 ?c23 ?k23 ?a24 ?l24 ?c24 ?k24 ?a25 ?l25 ?c25 ?k25 ?z_enumerate ?z_zip ?z_dict ?z_range ?z_tuple ?z_isinstance ?z_int ?z_len ?z_sorted ?z_bool ?z_list ?z_abs ?z_min ?y_MOST_BOXES ?y_LEAST_WORTHS ?y_MOST_WORTHS ?y_MOST_STANDINGS ?y_MOST_OF_SMALL
  (case a0=>k_is);(case l0=>k_is);(case c0=>k_is);(case k0=>k_is)
  (case a1=>k_is);(case l1=>k_is);(case c1=>k_is);(case k1=>k_is)
  (case a2=>k_is);(case l2=>k_is);(case c2=>k_is);(case k2=>k_is)
  (case a3=>k_is);(case l3=>k_is);(case c3=>k_is);(case k3=>k_is)
  (case a4=>k_is);(case l4=>k_is);(case c4=>k_is);(case k4=>k_is)
  (case a5=>k_is);(case l5=>k_is);(case c5=>k_is);(case k5=>k_is)
  (case a6=>k_is);(case l6=>k_is);(case c6=>k_is);(case k6=>k_is)
  (case a7=>k_is);(case l7=>k_is);(case c7=>k_is);(case k7=>k_is)
  (case a8=>k_is);(case l8=>k_is);(case c8=>k_is);(case k8=>k_is)
  (case a9=>k_is);(case l9=>k_is);(case c9=>k_is);(case k9=>k_is)
  (case a10=>k_is);(case l10=>k_is);(case c10=>k_is);(case k10=>k_is)
  (case a11=>k_is);(case l11=>k_is);(case c11=>k_is);(case k11=>k_is)
  (case a12=>k_is);(case l12=>k_is);(case c12=>k_is);(case k12=>k_is)
  (case a13=>k_is);(case l13=>k_is);(case c13=>k_is);(case k13=>k_is)
  (case a14=>k_is);(case l14=>k_is);(case c14=>k_is);(case k14=>k_is)
  (case a15=>k_is);(case l15=>k_is);(case c15=>k_is);(case k15=>k_is)
  (case a16=>k_is);(case l16=>k_is);(case c16=>k_is);(case k16=>k_is)
  (case a17=>k_is);(case l17=>k_is);(case c17=>k_is);(case k17=>k_is)
  (case a18=>k_is);(case l18=>k_is);(case c18=>k_is);(case k18=>k_is)
  (case a19=>k_is);(case l19=>k_is);(case c19=>k_is);(case k19=>k_is)
  (case a20=>k_is);(case l20=>k_is);(case c20=>k_is);(case k20=>k_is)
  (case a21=>k_is);(case l21=>k_is);(case c21=>k_is);(case k21=>k_is)
  (case a22=>k_is);(case l22=>k_is);(case c22=>k_is);(case k22=>k_is)
  (case a23=>k_is);(case l23=>k_is);(case c23=>k_is);(case k23=>k_is)
  (case a24=>k_is);(case l24=>k_is);(case c24=>k_is);(case k24=>k_is)
  (case a25=>k_is);(case l25=>k_is);(case c25=>k_is);(case k25=>k_is)
  (case z_enumerate=>k_is)
  (case z_zip=>k_is)
  (case z_dict=>k_is)
  (case z_range=>k_is)
  (case z_tuple=>k_is)
  (case z_isinstance=>k_is)
  (case z_int=>k_is)
  (case z_len=>k_is)
  (case z_sorted=>k_is)
  (case z_bool=>k_is)
  (case z_list=>k_is)
  (case z_abs=>k_is)
  (case z_min=>k_is)
  (case y_MOST_BOXES=>k_is)
  (case y_LEAST_WORTHS=>k_is)
  (case y_MOST_WORTHS=>k_is)
  (case y_MOST_STANDINGS=>k_is)
  (case y_MOST_OF_SMALL=>k_is)
