import PyProof.Rows.All
import Wide.All
import OpenK.AllK
import Wide.FinOn
import Lean
import PyProof.EqAt
import PyProof.EqKinds
import PyProof.TupleCall
import PySem.Challenge.RW_allelse_k34_bests_of_any_book
set_option Elab.async false
set_option linter.all false
set_option maxRecDepth 100000
set_option maxHeartbeats 4000000
namespace L2
open PySem PySem.Spec PyProof.Rows
abbrev Key:=Sum Int Str
def zeQ:Key->Value->Bool
 | .inl k,v=>Value.isInt k v
 | .inr x,v=>Value.isStrOf x v
def keyH (w:World):Key->Int
 | .inl k=>hashInt k
 | .inr x=>hashStr w x
theorem zQ:∀ {k:Key} {v:Value},zeQ k v=true->(∃ i t,k=Sum.inl i/\v=Value.int i t)\/(∃ x t,k=Sum.inr x/\v=Value.str x t)
 | .inl i,v,h=>by
  obtain ⟨t,e⟩:=Value.isInt_shape (k:=i) (v:=v) h
  exact .inl ⟨i,t,rfl,e⟩
 | .inr x,v,h=>by
  obtain ⟨t,e⟩:=Value.isStrOf_shape (x:=x) (v:=v) h
  exact .inr ⟨x,t,rfl,e⟩
theorem zdY (i:Int)(t:Tok):zeQ (.inl i) (.int i t)=true:=by simp [zeQ,Value.isInt]
theorem zhq (x:Str)(t:Tok):zeQ (.inr x) (.str x t)=true:=by simp [zeQ,Value.isStrOf]
theorem zos (a b:Int):decide ((Sum.inl a:Key)=Sum.inl b)=(a==b):=by
 by_cases e:a=b
 ·subst e;simp
 ·have h:¬ (Sum.inl a:Key)=Sum.inl b:=fun q=>e (Sum.inl.inj q)
  rw [decide_eq_false h]
  exact (beq_eq_false_iff_ne.mpr e).symm
theorem zov (a b:Str):decide ((Sum.inr a:Key)=Sum.inr b)=decide (a=b):=by
 by_cases e:a=b
 ·subst e;simp
 ·have h:¬ (Sum.inr a:Key)=Sum.inr b:=fun q=>e (Sum.inr.inj q)
  rw [decide_eq_false h,decide_eq_false e]
theorem zot (a:Int)(b:Str):decide ((Sum.inl a:Key)=Sum.inr b)=false:=decide_eq_false (fun q=>nomatch q)
theorem zou (a:Str)(b:Int):decide ((Sum.inr a:Key)=Sum.inl b)=false:=decide_eq_false (fun q=>nomatch q)
def zL (prog:Program)(w:World):PySem.KeyKind prog w Key where
 is:=zeQ
 hash:=keyH w
 inj:=fun v a b ha hb=>by
  rcases zQ ha with ⟨i,t,rfl,rfl⟩ | ⟨x,t,rfl,rfl⟩
  ·rcases zQ hb with ⟨j,u,rfl,e⟩ | ⟨y,u,rfl,e⟩
   ·injection e with e1 _;rw [e1]
   ·exact nomatch e
  ·rcases zQ hb with ⟨j,u,rfl,e⟩ | ⟨y,u,rfl,e⟩
   ·exact nomatch e
   ·injection e with e1 _;rw [e1]
 byValue:=fun k v h=>by
  rcases zQ h with ⟨i,t,rfl,rfl⟩ | ⟨x,t,rfl,rfl⟩ <;> rfl
 pyHash:=fun hv h=>by
  rcases zQ hv with ⟨i,t,rfl,rfl⟩ | ⟨x,t,rfl,rfl⟩
  ·exact wpAny_pyHash_int h
  ·exact wpAny_pyHash_str h
 eqBool:=fun hu hv h=>by
  rcases zQ hu with ⟨i,t,rfl,rfl⟩ | ⟨x,t,rfl,rfl⟩
  ·rcases zQ hv with ⟨j,u,rfl,rfl⟩ | ⟨y,u,rfl,rfl⟩
   ·rw [zos] at h;exact wpAny_eqBool_int h
   ·rw [zot] at h;exact SeqAt.EqAt.int_str i t y u _ _ _ _ h
  ·rcases zQ hv with ⟨j,u,rfl,rfl⟩ | ⟨y,u,rfl,rfl⟩
   ·rw [zou] at h;exact SeqAt.EqAt.str_int x t j u _ _ _ _ h
   ·rw [zov] at h;exact wpAny_eqBool_str h
 «strs»:=fun k x t v h=>by
  rcases zQ h with ⟨i,u,rfl,e⟩ | ⟨y,u,rfl,e⟩
  ·exact nomatch e
  ·injection e with e1 _
   subst e1
   cases v <;> rfl
theorem zbU (prog:Program)(w:World)(i:Int)(t:Tok):(zL prog w).is (.inl i) (.int i t)=true:=zdY i t
theorem zeT (prog:Program)(w:World)(x:Str)(t:Tok):(zL prog w).is (.inr x) (.str x t)=true:=zhq x t
inductive V where
 | non | bl (b:Bool) | int (i:Int) | str (x:Str) | byt (b:Array UInt8) | flt (b:UInt64) | ref (a:Addr) | ty (n:String)
 deriving DecidableEq
def yu:V->Value->Prop
 | .non,u=>u=Value.none
 | .bl b,u=>u=Value.bool b
 | .int i,u=>∃ t,u=Value.int i t
 | .str x,u=>∃ t,u=Value.str x t
 | .byt b,u=>∃ t,u=Value.bytes b t
 | .flt b,u=>∃ t,u=Value.float b t
 | .ref a,u=>u=Value.ref a
 | .ty n,u=>u=Value.type n
abbrev z0:List V->List Value->Prop:=Paired yu
theorem z0.length {xs:List V}{us:List Value}(r:z0 xs us):xs.length=us.length:=Paired.length r
theorem z0.get:∀ {xs:List V} {us:List Value} {i:Nat} {x:V},z0 xs us->xs[i]?=some x->∃ u,us[i]?=some u/\yu x u
 | _,_,_,_,.nil,e=>by simp at e
 | _,_,0,_,.cons r _,e=>by simp at e;subst e;exact ⟨_,rfl,r⟩
 | _,_,i+1,x,.cons _ t,e=>by
  obtain ⟨u,h1,h2⟩:=z0.get (i:=i) (x:=x) t (by simpa using e)
  exact ⟨u,by simpa using h1,h2⟩
theorem z0.set {x:V}{u:Value}(r:yu x u):∀ {xs:List V} {us:List Value} (i:Nat),z0 xs us->z0 (xs.set i x) (us.set i u)
 | _,_,_,.nil=>.nil
 | _,_,0,.cons _ t=>.cons r t
 | _,_,i+1,.cons q t=>.cons q (z0.set r i t)
theorem z0.append:∀ {xs ys:List V} {us ws:List Value},z0 xs us->z0 ys ws->z0 (xs++ys) (us++ws)
 | _,_,_,_,.nil,s=>s
 | _,_,_,_,.cons r t,s=>.cons r (z0.append t s)
theorem z0.take:∀ {xs:List V} {us:List Value} (n:Nat),z0 xs us->z0 (xs.take n) (us.take n)
 | _,_,0,_=>.nil
 | _,_,_+1,.nil=>.nil
 | _,_,n+1,.cons r t=>.cons r (z0.take n t)
theorem z0.drop:∀ {xs:List V} {us:List Value} (n:Nat),z0 xs us->z0 (xs.drop n) (us.drop n)
 | _,_,0,r=>r
 | _,_,_+1,.nil=>.nil
 | _,_,n+1,.cons _ t=>z0.drop n t
def zgq:Option V->Option Value->Prop
 | some v,some u=>yu v u
 | none,none=>True
 | _,_=>False
def KV {κ:Type}:List (κ×V)->List (κ×Value)->Prop:=Paired fun (p:κ×V) (q:κ×Value)=>p.1=q.1/\yu p.2 q.2
def kV:Key->V
 | .inl i=>.int i
 | .inr x=>.str x
inductive HO where
  | lst (xs:List V)
  | tup (xs:List V)
  | dK (kvs:List (Key×V)) | dT (kvs:List (List Key×V))
  | set (S:Int->Bool) (n:Nat)
  | ins (C dx:Addr) (fs:List (Str×V))
  | own (x:Addr)
  | xd (fs:List (Str×V))
  | met (f x:Addr)
  | rng (lo hi:Int)
  | frz (o:Obj) (u:HO)
  | tbl (ps:Array Value)
  | ext (φ:Heap->Prop)
abbrev Hp:=Addr->Option HO
def upd (H:Hp)(a:Addr)(o:HO):Hp:=fun b=>if b=a then some o else H b
theorem zo {H:Hp}{a:Addr}{o:HO}:upd H a o a=some o:=by unfold upd;rw [if_pos rfl]
theorem zf {H:Hp}{a b:Addr}{o:HO}(h:b≠a):upd H a o b=H b:=by unfold upd;rw [if_neg h]
theorem zeU {H:Hp}{a b:Addr}{o u:HO}(h:H a=some o)(h':H b=some u)(d:o≠u):a≠b:=by
 intro e;subst e;rw [h] at h';exact d (Option.some.inj h')
theorem zb {H:Hp}{a b:Addr}{o:HO}(h:H a=some o)(h':H b=none):a≠b:=by
 intro e;subst e;rw [h] at h';cases h'
def zab (h:Heap)(a:Addr)(items:Array Value):Prop:=∃ o,h.get? a=some o/\o.cls = .type "tuple" /\ (∃ n,o.data = .seq items n)/\o.dict=none
theorem zab.tup {h:Heap}{a:Addr}{items:Array Value}(x:zab h a items):IsTup h a items:=let ⟨o,h1,h2,h3,_⟩:=x;⟨o,h1,h2,h3⟩
theorem zab.lt {h:Heap}{a:Addr}{items:Array Value}(x:zab h a items):a<h.objs.size:=x.tup.lt
theorem zab.new (h:Heap)(items:Array Value):zab (h.push { cls:=.type "tuple",data:=.seq items }) h.objs.size items:=⟨_,Heap.get?_push_size _ rfl,rfl,⟨_,rfl⟩,rfl⟩
section
variable (P:Program)(w:World)
def yh (H:Hp)(h:Heap)(a:Addr):HO->Prop
 | .lst xs=>xs.length<=sizeLine/\∃ (its:List Value) (n:Nat),z0 xs its/\h.get? a=some { cls:=.type "list",data:=.seq its.toArray n }
 | .tup xs=>xs.length<=sizeLine/\∃ its:List Value,z0 xs its/\zab h a its.toArray
 | .dK b=>b.length<=sizeLine/\(a==sysModules)=false/\∃ vs,KV b vs/\h.DictOf (zL P w) a vs
 | .dT b=>b.length<=sizeLine/\(a==sysModules)=false/\∃ xs:List (List Key×Addr×Value),
   Paired (fun (p:List Key×V) (q:List Key×Addr×Value)=>p.1=q.1/\H q.2.1=some (.tup (p.1.map kV))/\yu p.2 q.2.2) b xs/\
   ∃ o es ep,h.get? a=some o/\o.ExactDict/\o.data = .dict es ep/\es.toList=xs.map (entryOfKey (tupleKind (zL P w)))/\(xs.map (·.1)).Nodup
 | .set S n=>h.SetOf (intKind P w) a S n
 | .ins C dx fs=>H dx=some (.own a)/\fs.length<=1000/\dx≠a/\h.get? a=some (PySem.W.instObj C dx)/\
   ∃ mA,h.Ns1 dx mA/\(∀ f,zgq (fs.lookup f) (mA f))/\PySem.Within mA (fs.map (·.1))
 | .own _=>∃ o,h.get? a=some o
 | .xd fs=>∃ mA,h.Ns1 a mA/\∀ f,zgq (fs.lookup f) (mA f)
 | .rng lo hi=>∃ t u v,h.get? a=some { cls:=.type "range",data:=.fields #[.int lo t,.int hi u,.int 1 v] }
 | .frz o u=>h.get? a=some o/\yh H h a u
 | .tbl ps=>h.get? a=some { cls:=.none,data:=.fields ps }
 | .met f x=>h.get? a=some (PySem.W.methodObj (.ref f) (.ref x))
 | .ext φ=>φ h/\(∃ o,h.get? a=some o)/\∀ h1 h2:Heap,φ h1->(∀ o,h1.get? a=some o->h2.get? a=some o)->φ h2
def HOk (H:Hp)(h:Heap):Prop:=∀ a o,H a=some o->yh P w H h a o
end
section
variable {P:Program}{w:World}{H H':Hp}{h h':Heap}{a:Addr}{o:HO}
theorem yh.lt (x:yh P w H h a o):a<h.objs.size:=by
 cases o with
 | lst xs=>obtain ⟨_,_,_,_,e⟩:=x;exact Heap.lt_size e
 | tup xs=>obtain ⟨_,_,_,p⟩:=x;exact p.lt
 | dK b=>obtain ⟨_,_,_,_,o,_,_,e,_⟩:=x;exact Heap.lt_size e
 | dT b=>obtain ⟨_,_,_,_,o,_,_,e,_⟩:=x;exact Heap.lt_size e
 | set S n=>obtain ⟨o,_,_,_,e,_⟩:=x;exact Heap.lt_size e
 | ins C dx fs=>obtain ⟨_,_,_,e,_⟩:=x;exact Heap.lt_size e
 | own y=>obtain ⟨_,e⟩:=x;exact Heap.lt_size e
 | xd fs=>obtain ⟨_,⟨_,_,_,e,_⟩,_⟩:=x;exact Heap.lt_size e
 | rng lo hi=>obtain ⟨_,_,_,e⟩:=x;exact Heap.lt_size e
 | frz ob u=>obtain ⟨e,_⟩:=x;exact Heap.lt_size e
 | tbl ps=>exact Heap.lt_size (show h.get? a=some _ from x)
 | met f y=>exact Heap.lt_size (show h.get? a=some _ from x)
 | ext φ=>obtain ⟨_,⟨_,e⟩,_⟩:=x;exact Heap.lt_size e
theorem Paired.mapP {α β:Type}{F G:α->β->Prop}:∀ {l₁:List α} {l₂:List β},Paired F l₁ l₂->(∀ a b,F a b->G a b)->Paired G l₁ l₂
 | _,_,.nil,_=>.nil
 | _,_,.cons r t,f=>.cons (f _ _ r) (Paired.mapP t f)
theorem yh.stay (x:yh P w H h a o)(k:∀ b u,(b=a\/H b=some (.own a))->h.get? b=some u->h'.get? b=some u)
  (ho:∀ b,H b=some (.own a)->H' b=some (.own a)) (ht:∀ b xs,H b=some (.tup xs)->H' b=some (.tup xs)):yh P w H' h' a o:=by
 induction o with
 | lst xs=>obtain ⟨z,its,n,r,e⟩:=x;exact ⟨z,its,n,r,k _ _ (.inl rfl) e⟩
 | tup xs=>obtain ⟨z,its,r,ob,e,c⟩:=x;exact ⟨z,its,r,ob,k _ _ (.inl rfl) e,c⟩
 | dK g=>obtain ⟨z,y,vs,r,ob,es,ep,e,c⟩:=x;exact ⟨z,y,vs,r,ob,es,ep,k _ _ (.inl rfl) e,c⟩
 | dT g=>
  obtain ⟨z,y,xs,r,ob,es,ep,e,c⟩:=x
  exact ⟨z,y,xs,Paired.mapP r fun p q z=>⟨z.1,ht _ _ z.2.1,z.2.2⟩,ob,es,ep,k _ _ (.inl rfl) e,c⟩
 | set S n=>obtain ⟨ob,es,ep,t,e,c⟩:=x;exact ⟨ob,es,ep,t,k _ _ (.inl rfl) e,c⟩
 | ins C dx fs=>
  obtain ⟨d,z,ne,e,mA,⟨od,es,ep,e2,c⟩,r⟩:=x
  exact ⟨ho _ d,z,ne,k _ _ (.inl rfl) e,mA,⟨od,es,ep,k _ _ (.inr d) e2,c⟩,r⟩
 | own y=>obtain ⟨ob,e⟩:=x;exact ⟨ob,k _ _ (.inl rfl) e⟩
 | xd fs=>obtain ⟨mA,⟨od,es,ep,e,c⟩,r⟩:=x;exact ⟨mA,⟨od,es,ep,k _ _ (.inl rfl) e,c⟩,r⟩
 | rng lo hi=>obtain ⟨t,u,v,e⟩:=x;exact ⟨t,u,v,k _ _ (.inl rfl) e⟩
 | frz ob u ih=>obtain ⟨e,q⟩:=x;exact ⟨k _ _ (.inl rfl) e,ih q⟩
 | tbl ps=>
  have e:h.get? a=some { cls:=.none,data:=.fields ps }:=x
  show h'.get? a=some { cls:=.none,data:=.fields ps }
  exact k a _ (.inl rfl) e
 | met f y=>
  have e:h.get? a=some (PySem.W.methodObj (.ref f) (.ref y)):=x
  show h'.get? a=some (PySem.W.methodObj (.ref f) (.ref y))
  exact k a _ (.inl rfl) e
 | ext φ=>obtain ⟨p,⟨o,e⟩,st⟩:=x;exact ⟨st _ _ p fun o q=>k _ _ (.inl rfl) q,⟨o,k _ _ (.inl rfl) e⟩,st⟩
theorem HOk.lt (x:HOk P w H h)(e:H a=some o):a<h.objs.size:=(x a o e).lt
theorem HOk.fresh (x:HOk P w H h)(e:h.objs.size<=a):H a=none:=by
 cases q:H a with
 | none=>rfl
 | some u=>exact absurd (Nat.lt_of_lt_of_le (x.lt q) e) (Nat.lt_irrefl _)
theorem HOk.kept (x:HOk P w H h)(k:∀ b u,h.get? b=some u->h'.get? b=some u):HOk P w H h':=fun a o e=>
 (x a o e).stay (fun b u _ q=>k b u q) (fun _ q=>q) fun _ _ q=>q
theorem HOk.laid (x:HOk P w H h)(k:∀ b u,h.get? b=some u->h'.get? b=some u)(hp:h.objs.size<=a)(new:yh P w (upd H a o) h' a o):HOk P w (upd H a o) h':=fun b u e=>by
 have hn:=x.fresh hp
 by_cases hb:b=a
 ·subst hb;rw [zo] at e;cases e;exact new
 ·rw [zf hb] at e
  exact (x b u e).stay (fun c v _ q=>k c v q) (fun c q=>by rw [zf (zb q hn)];exact q) fun c xs q=>by rw [zf (zb q hn)];exact q
end
def Rd (H:Hp)(a:Addr)(u:HO):Prop:=H a=some u\/∃ o,H a=some (.frz o u)
theorem Rd.ok {P:Program}{w:World}{H:Hp}{h:Heap}{a:Addr}{u:HO}(r:Rd H a u)(x:HOk P w H h):yh P w H h a u:=by
 rcases r with r | ⟨o,r⟩
 ·exact x a u r
 ·obtain ⟨_,q⟩:=x a _ r
  exact q
def Mut:Option HO->Prop
 | some (.lst _)=>True
 | some (.dK _)=>True
 | some (.dT _)=>True
 | some (.set _ _)=>True
 | some (.ins _ _ _)=>True
 | some (.ext _)=>True
 | _=>False
section
variable {P:Program}{w:World}{H:Hp}{h h':Heap}{x e:Addr}{o':HO}
theorem HOk.write (ok:HOk P w H h)(mu:Mut (H x))(he:e=x\/H e=some (.own x))(k:∀ b u,b≠e->h.get? b=some u->h'.get? b=some u)(heo:∃ u,h'.get? e=some u)
  (new:yh P w (upd H x o') h' x o'):HOk P w (upd H x o') h':=fun b u q=>by
 have a:∀ c y,H c=some (.own y)->c≠x:=fun c y r z=>by subst z;rw [r] at mu;exact mu
 have d:∀ c xs,H c=some (.tup xs)->c≠x:=fun c xs r z=>by subst z;rw [r] at mu;exact mu
 by_cases hb:b=x
 ·subst hb;rw [zo] at q;cases q;exact new
 ·rw [zf hb] at q
  by_cases hbe:b=e
  ·have q':H b=some (.own x):=by
    rcases he with z | z
    ·exact absurd (hbe.trans z) hb
    ·rw [hbe];exact z
   rw [q] at q';cases q'
   obtain ⟨v,hv⟩:=heo
   exact ⟨v,by rw [hbe];exact hv⟩
  ·refine (ok b u q).stay (fun c v hc r=>k c v ?_ r) (fun c r=>by rw [zf (a c b r)];exact r) fun c xs r=>by rw [zf (d c xs r)];exact r
   rcases hc with rfl | hc
   ·exact hbe
   ·rintro rfl
    rcases he with z | z
    ·exact a c b hc z
    ·rw [hc] at z;cases z;exact hb rfl
end
structure Un (fs ex:List Addr)(H H':Hp)(h h':Heap):Prop where
 keep:∀ b o,h.get? b=some o->H b=none->b∉fs->b∉ex->h'.get? b=some o
 slot:∀ b o,h.get? b=some o->H b=none->b∈fs->b∉ex->∃ sl,h'.get? b=some { o with slots:=sl }
 free:∀ b o,h.get? b=some o->H b=none->b∉ex->H' b=none
 there:∀ b o,h.get? b=some o->b∉ex->∃ o',h'.get? b=some o'
 tups:∀ b xs,H b=some (.tup xs)->H' b=some (.tup xs)
 frzs:∀ b o u,H b=some (.frz o u)->H' b=some (.frz o u)
 tbls:∀ b ps,H b=some (.tbl ps)->∃ more,H' b=some (.tbl (ps++more))
section
variable {fs fs' ex ex':List Addr}{H H1 H2:Hp}{h h1 h2 h':Heap}{a x e:Addr}{o:HO}
theorem Un.any (u:Un fs ex H H1 h h1){b:Addr}{ob:Obj}(q:h.get? b=some ob)(n:H b=none)(hx:b∉ex):∃ sl,h1.get? b=some { ob with slots:=sl }:=by
 by_cases hb:b∈fs
 ·exact u.slot b ob q n hb hx
 ·exact ⟨ob.slots,u.keep b ob q n hb hx⟩
theorem Un.kept (k:∀ b u,h.get? b=some u->h'.get? b=some u):Un fs ex H H h h':=
 ⟨fun b ob q _ _ _=>k b ob q,fun b ob q _ _ _=>⟨ob.slots,k b ob q⟩,fun _ _ _ n _=>n,fun b ob q _=>⟨ob,k b ob q⟩,fun _ _ q=>q,fun _ _ _ q=>q,fun _ ps q=>⟨#[],by rw [q];simp⟩⟩
theorem Un.refl:Un fs ex H H h h:=Un.kept fun _ _ q=>q
theorem Un.laid (k:∀ b u,h.get? b=some u->h'.get? b=some u)(hp:h.objs.size<=a)(hn:H a=none):Un fs ex H (upd H a o) h h' where
 keep:=fun b u q _ _ _=>k b u q
 slot:=fun b u q _ _ _=>⟨u.slots,k b u q⟩
 free:=fun b u q n _=>by rw [zf (Nat.ne_of_lt (Nat.lt_of_lt_of_le (Heap.lt_size q) hp))];exact n
 there:=fun b u q _=>⟨u,k b u q⟩
 tups:=fun b xs q=>by rw [zf (zb q hn)];exact q
 frzs:=fun b u xs q=>by rw [zf (zb q hn)];exact q
 tbls:=fun b ps q=>⟨#[],by rw [zf (zb q hn),q];simp⟩
theorem Un.write (mu:Mut (H x))(he:e=x\/H e=some (.own x))(k:∀ b u,b≠e->h.get? b=some u->h'.get? b=some u)(heo:∃ u,h'.get? e=some u):Un fs ex H (upd H x o) h h':=by
 have hx:∀ b,H b=none->b≠x:=fun b n z=>by subst z;rw [n] at mu;exact mu
 have hb:∀ b,H b=none->b≠e:=fun b n z=>by
  subst z
  rcases he with r | r
  ·exact hx b n r
  ·rw [n] at r;cases r
 have hm:∀ b u,H b=some u->¬ Mut (some u)->b≠x:=fun b u q nm z=>by subst z;rw [q] at mu;exact nm mu
 refine ⟨fun b u q n _ _=>k b u (hb b n) q,fun b u q n _ _=>⟨u.slots,k b u (hb b n) q⟩,fun b u q n _=>by rw [zf (hx b n)];exact n,fun b u q _=>?_,
  fun b xs q=>by rw [zf (hm b _ q fun z=>z)];exact q,fun b u xs q=>by rw [zf (hm b _ q fun z=>z)];exact q,fun b ps q=>⟨#[],by rw [zf (hm b _ q fun z=>z),q];simp⟩⟩
 by_cases hbe:b=e
 ·subst hbe;exact heo
 ·exact ⟨u,k b u hbe q⟩
end
def trk (h:Heap)(H:Hp):List Addr:=(List.range h.objs.size).filter fun a=>(H a).isSome
def zjg (h:Heap)(H:Hp):Heap:=PySem.W.hideAll h (trk h H)
theorem zg8 (h:Heap)(H:Hp):(zjg h H).objs.size=h.objs.size:=PySem.W.hideAll_size _ _
theorem zjh {h:Heap}{H:Hp}{b:Addr}{o:Obj}(e:h.get? b=some o)(n:H b=none):(zjg h H).get? b=some o:=
 PySem.W.hideAll_get _ e fun hm=>by
  have q:(H b).isSome=true:=(List.mem_filter.mp hm).2
  rw [n] at q;simp at q
theorem zmd {h:Heap}{H:Hp}{b:Addr}{o:Obj}(e:(zjg h H).get? b=some o):h.get? b=some o/\H b=none:=by
 have e':h.get? b=some o:=PySem.W.of_hideAll (trk h H) e
 refine ⟨e',?_⟩
 cases q:H b with
 | none=>rfl
 | some x=>
  have hm:b∈trk h H:=List.mem_filter.mpr ⟨List.mem_range.mpr (Heap.lt_size e'),by simp [q]⟩
  have z:(zjg h H).get? b=none:=PySem.W.hideAll_none (trk h H) hm
  rw [z] at e;cases e
def zla (g h:Heap)(L:Addr):List (Addr×Obj):=(List.range h.objs.size).filterMap fun a=>if a=L\/(g.get? a).isSome=true then none else (h.get? a).map fun o=>(a,o)
def z6 (g h:Heap)(L d:Addr):List (Addr×Obj):=(zla g h L).filter fun p=>decide (p.1≠d)
structure Mod (K:PySem.W.Frag)(mg:Str->Option Value)(base:Heap):Prop where
 kin:K.In base
 glob:base.Ns mainGlobals mg
 blt:∃ mb,base.Ns builtinsNs mb/\∀ x:Str,x ≠ "__name__" -> mb x=bootBuiltins x
 nolimit:base.NoLimit
structure Cx where
 prog:Program
 w:World
 K:PySem.W.Frag
 mg:Str->Option Value
 base:Heap
 A:Around
 N:List Str
 s₀:Shared
 H₀:Hp
 env:Env
 outer:List Env
 stack:List Env
 ex:List Addr
 fn:Str->Bool
 calm:Bool
 pn:List (Addr×Obj)
 xe:Value->Shared->Prop
def frs (l:List Env):List Addr:=l.filterMap (·.frame)
abbrev Cx.fs (X:Cx):List Addr:=frs X.outer
def Vis (sc:Scope)(x:Str):Prop:=sc.names.lookup x=some .local\/sc.names.lookup x=some .cell\/sc.names.lookup x=some .free
def Loc (sc:Scope)(x:Str):Prop:=sc.names.lookup x=some .local\/sc.names.lookup x=some .cell
def Look (env:Env)(h:Heap)(m:Str->Option Value)(x:Str)(u:Value):Prop:=
 (env.kindOf x=some .local/\m x=some u)\/((env.kindOf x=some .cell\/env.kindOf x=some .free)/\∃ c,env.cells.lookup x=some c/\h.IsCell c (some u))
structure Cx.Ok (X:Cx):Prop where
 mod:Mod X.K X.mg X.base
 kind:X.env.scope.kind = .function
 glob:X.env.globals=mainGlobals
 blt:X.env.builtins=builtinsNs
 above:X.s₀.heap.objs.size<=X.env.locals
 inj:∀ x y c,X.env.cells.lookup x=some c->X.env.cells.lookup y=some c->x=y
 has:∀ x,(X.env.kindOf x=some .cell\/X.env.kindOf x=some .free)->∃ c,X.env.cells.lookup x=some c
 cab:∀ x c,X.fn x=true->X.env.cells.lookup x=some c->X.s₀.heap.objs.size<=c
 hd:X.calm=true->X.A.handled=none
 frames:X.A.frames=some X.stack
 stk:X.stack=X.outer\/(X.stack=X.env::X.outer/\X.env.frame=some X.env.locals)
 exf:∀ b∈X.ex,b≠X.env.locals/\∀ x c,X.env.cells.lookup x=some c->c≠b
 bs:∀ b o,X.base.get? b=some o->X.s₀.heap.get? b=some o/\X.H₀ b=none
 bsz:X.base.objs.size<=X.s₀.heap.objs.size
 noex:∀ b o,X.base.get? b=some o->b∉X.ex
 exfs:∀ b∈X.ex,b∉X.fs
 funs:X.s₀.heap.FunFrames X.base X.outer
 frf:∀ b∈X.fs,X.H₀ b=none
structure Inv (X:Cx)(pins:List (Addr×Obj))(σ:List (Option V))(H:Hp)(s:Shared):Prop where
 ok:X.Ok
 os:s.os=X.s₀.os
 bare:AllBare s.gens
 base:Un X.fs X.ex X.H₀ H X.s₀.heap s.heap
 loc:∃ m,s.heap.Ns X.env.locals m/\∀ (i:Nat) (x:Str) (v:V),X.N[i]?=some x->σ[i]?=some (some v)->Vis X.env.scope x->∃ u,yu v u/\Look X.env s.heap m x u
 cell:∀ x c,X.env.cells.lookup x=some c->∃ v,s.heap.IsCell c v
 free:H X.env.locals=none
 freeC:∀ x c,X.env.cells.lookup x=some c->H c=none
 pin:∀ p∈X.pn++pins,s.heap.get? p.1=some p.2/\H p.1=none/\p.1≠X.env.locals/\p.1∉X.fs/\∀ v,p.2.data≠.cell v
 hok:HOk X.prog X.w H s.heap
 len:σ.length=X.N.length
section
variable {X:Cx}{pins:List (Addr×Obj)}{σ:List (Option V)}{H H':Hp}{s:Shared}{h':Heap}
theorem Cx.Ok.nofr (ok:X.Ok){b:Addr}{o:Obj}(e:X.base.get? b=some o):b∉X.fs:=fun hb=>by
 have:=(ok.funs.mem hb).1
 rw [e] at this;cases this
theorem Inv.bs (I:Inv X pins σ H s):∀ b o,X.base.get? b=some o->s.heap.get? b=some o/\H b=none:=fun b o e=>
 ⟨I.base.keep b o (I.ok.bs b o e).1 (I.ok.bs b o e).2 (I.ok.nofr e) (I.ok.noex b o e),I.base.free b o (I.ok.bs b o e).1 (I.ok.bs b o e).2 (I.ok.noex b o e)⟩
theorem Inv.bk (I:Inv X pins σ H s):∀ b o,X.base.get? b=some o->s.heap.get? b=some o:=fun b o e=>(I.bs b o e).1
theorem Inv.mod (I:Inv X pins σ H s):Mod X.K X.mg X.base:=I.ok.mod
theorem Inv.kIn (I:Inv X pins σ H s):X.K.In s.heap:=I.ok.mod.kin.keeps I.bk
theorem Inv.lt (I:Inv X pins σ H s):X.env.locals<s.heap.objs.size:=let ⟨_,hn,_⟩:=I.loc;hn.lt
theorem Inv.sz (I:Inv X pins σ H s):X.s₀.heap.objs.size<=s.heap.objs.size:=Nat.le_trans I.ok.above (Nat.le_of_lt I.lt)
theorem Inv.nofs (I:Inv X pins σ H s){a:Addr}(h:s.heap.objs.size<=a):a∉X.fs:=fun hb=>by
 obtain ⟨_,o,ho,_⟩:=I.ok.funs.mem hb
 exact absurd (Nat.lt_of_lt_of_le (Heap.lt_size ho) (Nat.le_trans I.sz h)) (Nat.lt_irrefl _)
theorem Inv.cne (I:Inv X pins σ H s):∀ x c,X.env.cells.lookup x=some c->c≠X.env.locals:=fun x c e z=>by
 obtain ⟨v,o,ho,hd⟩:=I.cell x c e
 obtain ⟨m,⟨o',es,ep,a,b,_⟩,_⟩:=I.loc
 rw [z,a] at ho;cases ho;rw [b] at hd;cases hd
theorem Inv.funs (I:Inv X pins σ H s):s.heap.FunFrames X.base X.outer:=by
 have all:∀ (l:List Env),(∀ b∈frs l,b∈X.fs)->X.s₀.heap.FunFrames X.base l->s.heap.FunFrames X.base l:=by
  intro l
  induction l with
  | nil=>intro _ _;trivial
  | cons env r ih=>
   intro hs hl
   obtain ⟨hk,⟨L,o,hf,hn,ho,hd⟩,hr⟩:=hl
   have hL:L∈X.fs:=hs L (by unfold frs;rw [List.filterMap_cons,hf];exact List.mem_cons_self)
   obtain ⟨sl,e⟩:=I.base.slot L o ho (I.ok.frf L hL) hL fun z=>I.ok.exfs L z hL
   exact ⟨hk,⟨L,_,hf,hn,e,hd⟩,ih (fun b hb=>hs b (by unfold frs;rw [List.filterMap_cons,hf];exact List.mem_cons_of_mem _ hb)) hr⟩
 exact all X.outer (fun _ hb=>hb) I.ok.funs
theorem Inv.stack (I:Inv X pins σ H s):s.heap.FunFrames X.base X.stack:=by
 rcases I.ok.stk with e | ⟨e,hf⟩
 ·rw [e];exact I.funs
 ·rw [e]
  obtain ⟨m,hn,_⟩:=I.loc
  refine .cons (by rw [I.ok.kind];decide) hf hn ?_ I.funs
  exact Heap.get?_none_of_le (Nat.le_trans I.ok.bsz I.ok.above)
theorem Inv.stkSub (I:Inv X pins σ H s):∀ b∈frs X.stack,b∈X.env.locals::X.fs:=fun b hb=>by
 rcases I.ok.stk with e | ⟨e,hf⟩
 ·rw [e] at hb;exact List.mem_cons_of_mem _ hb
 ·rw [e] at hb
  unfold frs at hb
  rw [List.filterMap_cons,hf] at hb
  exact hb
theorem Inv.stkFree (I:Inv X pins σ H s):∀ b∈frs X.stack,H b=none:=fun b hb=>by
 rcases List.mem_cons.mp (I.stkSub b hb) with e | hb
 ·rw [e];exact I.free
 ·obtain ⟨_,o,ho,_⟩:=I.ok.funs.mem hb
  exact I.base.free b o ho (I.ok.frf b hb) fun z=>I.ok.exfs b z hb
theorem Inv.step {g':Array GenState}{t':Nat}{d':Drawn}{ch:List Addr}(I:Inv X pins σ H s)
  (a:∀ b∈ch,(b∈X.ex\/X.s₀.heap.objs.size<=b)/\b≠X.env.locals/\(∀ x c,X.env.cells.lookup x=some c->c≠b)/\∀ p∈X.pn++pins,p.1≠b)
  (keep:∀ b o,b≠X.env.locals->b∉X.fs->b∉ch->s.heap.get? b=some o->H b=none->h'.get? b=some o)
  (slot:∀ b o,b≠X.env.locals->b∈X.fs->b∉ch->s.heap.get? b=some o->H b=none->∃ sl,h'.get? b=some { o with slots:=sl }) (free:∀ b o,b∉ch->s.heap.get? b=some o->H b=none->H' b=none)
  (there:∀ b o,b∉ch->s.heap.get? b=some o->∃ o',h'.get? b=some o')
  (tups:∀ b xs,H b=some (.tup xs)->H' b=some (.tup xs)) (frzs:∀ b o u,H b=some (.frz o u)->H' b=some (.frz o u)) (tbls:∀ b ps,H b=some (.tbl ps)->∃ more,H' b=some (.tbl (ps++more)))
  (ns:∀ m,s.heap.Ns X.env.locals m->h'.Ns X.env.locals m) (hok:HOk X.prog X.w H' h') (hg:AllBare g') :
  Inv X pins σ H' { s with heap:=h',gens:=g',drawn:=d',toks:=t' }:=by
 have y:∀ b o,X.s₀.heap.get? b=some o->b≠X.env.locals:=fun b o e=>Nat.ne_of_lt (Nat.lt_of_lt_of_le (Heap.lt_size e) I.ok.above)
 have j:∀ b o,X.s₀.heap.get? b=some o->b∉X.ex->b∉ch:=fun b o e hx hb=>by
  rcases (a b hb).1 with z | z
  ·exact hx z
  ·exact absurd (Nat.lt_of_lt_of_le (Heap.lt_size e) z) (Nat.lt_irrefl _)
 have cellK:∀ x c,X.env.cells.lookup x=some c->∀ v,s.heap.IsCell c v->h'.IsCell c v:=fun x c e v ⟨o,ho,hd⟩=>by
  have f:c∉ch:=fun z=>(a c z).2.2.1 x c e rfl
  by_cases hc:c∈X.fs
  ·obtain ⟨sl,q⟩:=slot c o (I.cne x c e) hc f ho (I.freeC x c e)
   exact ⟨_,q,hd⟩
  ·exact ⟨o,keep c o (I.cne x c e) hc f ho (I.freeC x c e),hd⟩
 refine ⟨I.ok,I.os,hg,⟨fun b o e n hb hx=>?_,fun b o e n hb hx=>?_,fun b o e n hx=>?_,fun b o e hx=>?_,fun b xs e=>tups b xs (I.base.tups b xs e),fun b o xs e=>frzs b o xs (I.base.frzs b o xs e),fun b ps e=>?_⟩,?_,fun x c e=>?_,?_,fun x c e=>?_,fun p hp=>?_,hok,I.len⟩
 ·exact keep b o (y b o e) hb (j b o e hx) (I.base.keep b o e n hb hx) (I.base.free b o e n hx)
 ·obtain ⟨sl,e1⟩:=I.base.slot b o e n hb hx
  obtain ⟨A,e2⟩:=slot b _ (y b o e) hb (j b o e hx) e1 (I.base.free b o e n hx)
  exact ⟨A,e2⟩
 ·obtain ⟨o',e1⟩:=I.base.there b o e hx
  exact free b o' (j b o e hx) e1 (I.base.free b o e n hx)
 ·obtain ⟨o',e1⟩:=I.base.there b o e hx
  exact there b o' (j b o e hx) e1
 ·obtain ⟨m1,e1⟩:=I.base.tbls b ps e
  obtain ⟨m2,e2⟩:=tbls b _ e1
  exact ⟨m1++m2,by rw [e2,Array.append_assoc]⟩
 ·obtain ⟨m,hn,hl⟩:=I.loc
  refine ⟨m,ns m hn,fun i x v e1 e2 e3=>?_⟩
  obtain ⟨u,r,l⟩:=hl i x v e1 e2 e3
  refine ⟨u,r,?_⟩
  rcases l with l | ⟨k,c,e,z⟩
  ·exact .inl l
  ·exact .inr ⟨k,c,e,cellK x c e _ z⟩
 ·obtain ⟨v,z⟩:=I.cell x c e
  exact ⟨v,cellK x c e v z⟩
 ·obtain ⟨m,⟨o,_,_,ho,_⟩,_⟩:=I.loc
  exact free _ o (fun z=>(a _ z).2.1 rfl) ho I.free
 ·obtain ⟨v,o,ho,hd⟩:=I.cell x c e
  exact free c o (fun z=>(a c z).2.2.1 x c e rfl) ho (I.freeC x c e)
 ·obtain ⟨e,n,ne,nf,d⟩:=I.pin p hp
  have f:p.1∉ch:=fun z=>(a p.1 z).2.2.2 p hp rfl
  exact ⟨keep p.1 p.2 ne nf f e n,free p.1 p.2 f e n,ne,nf,d⟩
theorem Inv.un {t':Nat}(I:Inv X pins σ H s)(u:Un X.fs [] H H' s.heap h')(hok:HOk X.prog X.w H' h'):Inv X pins σ H' { s with heap:=h',toks:=t' }:=by
 obtain ⟨m,⟨o,es,ep,ho,r⟩,_⟩:=id I.loc
 obtain ⟨sl,hL⟩:=u.any ho I.free (by simp)
 exact I.step (g':=s.gens) (d':=s.drawn) (ch:=[]) (fun _ z=>nomatch z) (fun b o _ hb _ e n=>u.keep b o e n hb (by simp)) (fun b o _ hb _ e n=>u.slot b o e n hb (by simp)) (fun b o _ e n=>u.free b o e n (by simp)) (fun b o _ e=>u.there b o e (by simp)) u.tups u.frzs u.tbls (fun m' hm=>by
  obtain ⟨o',es',c,a,r'⟩:=hm
  rw [ho] at a;cases a
  exact ⟨_,es',c,hL,r'⟩) hok I.bare
theorem Inv.call {g':Array GenState}{t':Nat}{d':Drawn}{ch:List Addr}(I:Inv X pins σ H s)(u:Un (frs X.stack) ch H H' s.heap h')(hok:HOk X.prog X.w H' h')(hg:AllBare g')
  (hch:∀ b∈ch,(b∈X.ex\/X.s₀.heap.objs.size<=b)/\b≠X.env.locals/\(∀ x c,X.env.cells.lookup x=some c->c≠b)/\∀ p∈X.pn++pins,p.1≠b) :
  Inv X pins σ H' { s with heap:=h',gens:=g',drawn:=d',toks:=t' }:=by
 obtain ⟨m,⟨o,es,ep,ho,r⟩,_⟩:=id I.loc
 obtain ⟨sl,hL⟩:=u.any ho I.free fun z=>(hch _ z).2.1 rfl
 exact I.step (ch:=ch) hch (fun b o hL hb hc e n=>u.keep b o e n (fun z=>(List.mem_cons.mp (I.stkSub b z)).elim hL hb) hc) (fun b o _ _ hc e n=>u.any e n hc) (fun b o hc e n=>u.free b o e n hc) (fun b o hc e=>u.there b o e hc) u.tups u.frzs u.tbls (fun m' hm=>by
  obtain ⟨o',es',f,a,r'⟩:=hm
  rw [ho] at a;cases a
  exact ⟨_,es',f,hL,r'⟩) hok hg
theorem Inv.turned {t':Nat}{it:Addr}(I:Inv X pins σ H s)(k:∀ b o,b≠it->s.heap.get? b=some o->h'.get? b=some o)(hn:H it=none)(hL:it≠X.env.locals)
  (h1:it∈X.ex\/X.s₀.heap.objs.size<=it) (h2:∀ x c,X.env.cells.lookup x=some c->c≠it) (h3:∀ p∈X.pn++pins,p.1≠it):Inv X pins σ H { s with heap:=h',toks:=t' }:=by
 have a:∀ b u,H b=some u->b≠it:=fun b u e z=>by rw [z,hn] at e;cases e
 refine I.step (g':=s.gens) (d':=s.drawn) (ch:=[it]) (fun b hb=>?_) (fun b o _ _ hc e _=>k b o (fun z=>hc (by simp [z])) e) (fun b o _ _ hc e _=>⟨o.slots,k b o (fun z=>hc (by simp [z])) e⟩) (fun _ _ _ _ n=>n)
  (fun b o hc e=>⟨o,k b o (fun z=>hc (by simp [z])) e⟩) (fun _ _ e=>e) (fun _ _ _ e=>e) (fun b ps e=>⟨#[],by rw [e];simp⟩) (fun m hm=>?_) (fun b u e=>?_) I.bare
 ·have e:b=it:=by simpa using hb
  subst e
  exact ⟨h1,hL,h2,h3⟩
 ·obtain ⟨o,es,ep,ho,r⟩:=hm
  exact ⟨o,es,ep,k _ o (Ne.symm hL) ho,r⟩
 ·refine (I.hok b u e).stay (fun c v hc q=>k c v ?_ q) (fun _ q=>q) fun _ _ q=>q
  rcases hc with z | z
  ·rw [z];exact a b u e
  ·exact a c _ z
theorem Inv.tok (I:Inv X pins σ H s)(t:Nat):Inv X pins σ H { s with toks:=t }:=I.un (h':=s.heap) (t':=t) Un.refl I.hok
theorem Inv.kept {t':Nat}(I:Inv X pins σ H s)(k:∀ b u,s.heap.get? b=some u->h'.get? b=some u):Inv X pins σ H { s with heap:=h',toks:=t' }:=I.un (Un.kept k) (I.hok.kept k)
theorem Inv.laid {a:Addr}{o:HO}{t':Nat}(I:Inv X pins σ H s)(k:∀ b u,s.heap.get? b=some u->h'.get? b=some u)(hp:s.heap.objs.size<=a)(new:yh X.prog X.w (upd H a o) h' a o) :
  Inv X pins σ (upd H a o) { s with heap:=h',toks:=t' }:=I.un (Un.laid k hp (I.hok.fresh hp)) (I.hok.laid k hp new)
theorem Inv.write {x e:Addr}{o:HO}{t':Nat}(I:Inv X pins σ H s)(mu:Mut (H x))(he:e=x\/H e=some (.own x))(k:∀ b u,b≠e->s.heap.get? b=some u->h'.get? b=some u)(heo:∃ u,h'.get? e=some u)
  (new:yh X.prog X.w (upd H x o) h' x o):Inv X pins σ (upd H x o) { s with heap:=h',toks:=t' }:=I.un (Un.write mu he k heo) (I.hok.write mu he k heo new)
theorem Inv.pins_of {pins':List (Addr×Obj)}(I:Inv X pins σ H s)(h:∀ p∈pins',s.heap.get? p.1=some p.2/\H p.1=none/\p.1≠X.env.locals/\p.1∉X.fs/\∀ v,p.2.data≠.cell v):Inv X pins' σ H s:=
 ⟨I.ok,I.os,I.bare,I.base,I.loc,I.cell,I.free,I.freeC,fun p hp=>(List.mem_append.mp hp).elim (fun z=>I.pin p (List.mem_append_left _ z)) (h p),I.hok,I.len⟩
theorem zfB {N:List Str}(hN:N.Nodup){i j:Nat}{x:Str}(a:N[i]?=some x)(b:N[j]?=some x):i=j:=by
 obtain ⟨h1,e1⟩:=List.getElem?_eq_some_iff.mp a
 obtain ⟨h2,e2⟩:=List.getElem?_eq_some_iff.mp b
 exact (List.getElem_inj hN).mp (e1.trans e2.symm)
theorem zb7 {M:Model}{A:Around}{E:Value->Shared->Prop}{i:Nat}{x:Str}{v:V}{u:Value}{Q:Unit->Shared->Prop}(I:Inv X pins σ H s)(hN:X.N.Nodup)(hi:X.N[i]?=some x)(hx:Loc X.env.scope x)(r:yu v u)
  (h:∀ s',Inv X pins (σ.set i (some v)) H s'->(∃ a,Heap.SameBut a s.heap s'.heap/\(a=X.env.locals\/X.env.cells.lookup x=some a))->Q () s') (hf:X.fn x=true\/X.env.scope.names.lookup x=some .local:=by first | exact .inl rfl | exact .inr rfl | assumption):wpAny M A (storeName X.env x u) Q E s:=by
 obtain ⟨m,hn,hl⟩:=id I.loc
 have l:(X.env.scope.kind==.class || (X.env.scope.kind==.module&&X.env.locals != X.env.globals))=false:=by rw [I.ok.kind];rfl
 have t:i<σ.length:=by rw [I.len];exact (List.getElem?_eq_some_iff.mp hi).1
 have cne:=I.cne
 have tracked:∀ {a:Addr} {h':Heap},(∃ o,s.heap.get? a=some o/\H a=none)->Heap.SameBut a s.heap h'->HOk X.prog X.w H h':=fun {a h'} ha hs b ob e=>by
  obtain ⟨_,_,f⟩:=ha
  refine (I.hok b ob e).stay (fun c w' hc q=>(hs.2 c ?_).trans q) (fun _ q=>q) fun _ _ q=>q
  rintro rfl
  rcases hc with rfl | hc
  ·rw [f] at e;cases e
  ·rw [f] at hc;cases hc
 rcases hx with hk | hk
 ·refine wpAny_storeName_local hk hn (fun h' F hs=>?_) l
  obtain ⟨oL,_,_,G,_⟩:=id hn
  refine h _ ⟨I.ok,I.os,I.bare,⟨fun b o e n hb hx=>?_,fun b o e n hb hx=>?_,I.base.free,fun b o e hx=>?_,I.base.tups,I.base.frzs,I.base.tbls⟩,⟨_,F,fun j y v' e1 e2 e3=>?_⟩,fun y c e=>?_,I.free,I.freeC,fun p hp=>?_,tracked ⟨oL,G,I.free⟩ hs,by simpa using I.len⟩ ⟨_,hs,.inl rfl⟩
  ·exact (hs.2 b (Nat.ne_of_lt (Nat.lt_of_lt_of_le (Heap.lt_size e) I.ok.above))).trans (I.base.keep b o e n hb hx)
  ·obtain ⟨sl,e1⟩:=I.base.slot b o e n hb hx
   exact ⟨sl,(hs.2 b (Nat.ne_of_lt (Nat.lt_of_lt_of_le (Heap.lt_size e) I.ok.above))).trans e1⟩
  ·obtain ⟨o',e1⟩:=I.base.there b o e hx
   exact ⟨o',(hs.2 b (Nat.ne_of_lt (Nat.lt_of_lt_of_le (Heap.lt_size e) I.ok.above))).trans e1⟩
  ·by_cases hj:j=i
   ·subst hj
    rw [hi] at e1;cases e1
    rw [List.getElem?_set_self t] at e2
    cases e2
    exact ⟨u,r,.inl ⟨hk,by simp⟩⟩
   ·rw [List.getElem?_set_ne (Ne.symm hj)] at e2
    obtain ⟨u',r',q⟩:=hl j y v' e1 e2 e3
    refine ⟨u',r',?_⟩
    rcases q with ⟨k,e⟩ | ⟨k,c,e,z⟩
    ·refine .inl ⟨k,?_⟩
     have:y≠x:=fun e=>hj (zfB hN e1 (e ▸ hi))
     simp [this,e]
    ·exact .inr ⟨k,c,e,z.sameBut hs (cne y c e)⟩
  ·obtain ⟨w',z⟩:=I.cell y c e
   exact ⟨w',z.sameBut hs (cne y c e)⟩
  ·obtain ⟨e,n,ne,nf,d⟩:=I.pin p hp
   exact ⟨(hs.2 p.1 ne).trans e,n,ne,nf,d⟩
 ·have g:X.fn x=true:=by
   rcases hf with z | z
   ·exact z
   ·rw [z] at hk;cases hk
  obtain ⟨c,hc⟩:=I.ok.has x (.inl hk)
  obtain ⟨w',z⟩:=I.cell x c hc
  refine wpAny_storeName_cell I.ok.kind hk hc z (fun h' B hs=>?_)
  obtain ⟨oc,C,D⟩:=id z
  refine h { s with heap:=h' } ⟨I.ok,I.os,I.bare,⟨fun b o e n hb hx=>?_,fun b o e n hb hx=>?_,I.base.free,fun b o e hx=>?_,I.base.tups,I.base.frzs,I.base.tbls⟩,⟨m,hn.sameBut hs (Ne.symm (cne x c hc)),fun j y v' e1 e2 e3=>?_⟩,fun y c' e=>?_,I.free,I.freeC,fun p hp=>?_,tracked ⟨oc,C,I.freeC x c hc⟩ hs,by simpa using I.len⟩ ⟨c,hs,.inr hc⟩
  ·exact (hs.2 b (Nat.ne_of_lt (Nat.lt_of_lt_of_le (Heap.lt_size e) (I.ok.cab x c g hc)))).trans (I.base.keep b o e n hb hx)
  ·obtain ⟨sl,e1⟩:=I.base.slot b o e n hb hx
   exact ⟨sl,(hs.2 b (Nat.ne_of_lt (Nat.lt_of_lt_of_le (Heap.lt_size e) (I.ok.cab x c g hc)))).trans e1⟩
  ·obtain ⟨o',e1⟩:=I.base.there b o e hx
   exact ⟨o',(hs.2 b (Nat.ne_of_lt (Nat.lt_of_lt_of_le (Heap.lt_size e) (I.ok.cab x c g hc)))).trans e1⟩
  ·by_cases hj:j=i
   ·subst hj
    rw [hi] at e1;cases e1
    rw [List.getElem?_set_self t] at e2
    cases e2
    exact ⟨u,r,.inr ⟨.inl hk,c,hc,B⟩⟩
   ·rw [List.getElem?_set_ne (Ne.symm hj)] at e2
    obtain ⟨u',r',q⟩:=hl j y v' e1 e2 e3
    refine ⟨u',r',?_⟩
    rcases q with q | ⟨k,c',e,z'⟩
    ·exact .inl q
    ·refine .inr ⟨k,c',e,z'.sameBut hs ?_⟩
     rintro rfl
     exact hj (zfB hN e1 (I.ok.inj _ _ _ e hc ▸ hi))
  ·by_cases hcc:c'=c
   ·subst hcc;exact ⟨_,B⟩
   ·obtain ⟨w2,z2⟩:=I.cell y c' e
    exact ⟨w2,z2.sameBut hs hcc⟩
  ·obtain ⟨e,n,ne,nf,d⟩:=I.pin p hp
   refine ⟨(hs.2 p.1 ?_).trans e,n,ne,nf,d⟩
   intro q
   rw [q,C] at e
   have q':oc=p.2:=Option.some.inj e
   exact d w' (by rw [<- q'];exact D)
theorem zbB {M:Model}{A:Around}{E:Value->Shared->Prop}{i:Nat}{x:Str}{v:V}{u:Value}{Q:Unit->Shared->Prop}(I:Inv X pins σ H s)(hN:X.N.Nodup)(hi:X.N[i]?=some x)(hx:Loc X.env.scope x)(r:yu v u)
  (h:∀ s',Inv X pins (σ.set i (some v)) H s'->Q () s') (hf:X.fn x=true\/X.env.scope.names.lookup x=some .local:=by first | exact .inl rfl | exact .inr rfl | assumption):wpAny M A (storeName X.env x u) Q E s:=
 zb7 I hN hi hx r (fun s' I' _=>h s' I') hf
theorem Inv.call' {s':Shared}{ch:List Addr}(I:Inv X pins σ H s)(ho:s'.os=s.os)(u:Un (frs X.stack) ch H H' s.heap s'.heap)(hok:HOk X.prog X.w H' s'.heap)(hg:AllBare s'.gens)
  (hch:∀ b∈ch,(b∈X.ex\/X.s₀.heap.objs.size<=b)/\b≠X.env.locals/\(∀ x c,X.env.cells.lookup x=some c->c≠b)/\∀ p∈X.pn++pins,p.1≠b):Inv X pins σ H' s':=by
 obtain ⟨h',g',d',t',o'⟩:=s'
 have e:o'=s.os:=ho
 subst e
 exact I.call (g':=g') (t':=t') (d':=d') u hok hg hch
end
abbrev XK:=Value->Option Addr->Hp->Prop
abbrev St:=List (Option V)
abbrev VK:=V->Hp->Prop
abbrev TE:=St->Hp->VK->Prop
abbrev TT:=St->Hp->(Bool->Hp->Prop)->Prop
abbrev TA:=St->Hp->(List V->Hp->Prop)->Prop
structure Ends where
 nx:St->Hp->Prop
 rt:VK
 bk:St->Hp->Prop:=fun _ _=>False
 ct:St->Hp->Prop:=fun _ _=>False
abbrev TS:=Ends->St->Hp->Prop
def EP (X:Cx)(pins:List (Addr×Obj))(σ:St)(Q:VK)(u:Value)(s':Shared):Prop:=∃ v H',Inv X pins σ H' s'/\yu v u/\Q v H'
def TP (X:Cx)(pins:List (Addr×Obj))(σ:St)(Q:Bool->Hp->Prop)(b:Bool)(s':Shared):Prop:=∃ H',Inv X pins σ H' s'/\Q b H'
def AP (X:Cx)(pins:List (Addr×Obj))(σ:St)(Q:List V->Hp->Prop)(us:List Value)(s':Shared):Prop:=∃ vs H',Inv X pins σ H' s'/\z0 vs us/\Q vs H'
def SP (X:Cx)(pins:List (Addr×Obj))(D:Ends)(f:Flow)(s':Shared):Prop:=
 match f with
 | .next=>∃ σ' H',Inv X pins σ' H' s'/\D.nx σ' H'
 | .brk=>∃ σ' H',Inv X pins σ' H' s'/\D.bk σ' H'
 | .cont=>∃ σ' H',Inv X pins σ' H' s'/\D.ct σ' H'
 | .ret u=>∃ v σ' H',Inv X pins σ' H' s'/\yu v u/\D.rt v H'
def PE (X:Cx)(e:Expr)(t:TE):Prop:=
 ∀ (pins:List (Addr×Obj)) (s:Shared) (σ:St) (H:Hp) (Q:VK),Inv X pins σ H s->t σ H Q->wpAny (model X.prog X.w) X.A (eval e X.env) (EP X pins σ Q) X.xe s
def PT (X:Cx)(e:Expr)(t:TT):Prop:=
 ∀ (pins:List (Addr×Obj)) (s:Shared) (σ:St) (H:Hp) (Q:Bool->Hp->Prop),Inv X pins σ H s->t σ H Q->wpAny (model X.prog X.w) X.A (isTrue e X.env (eval e X.env)) (TP X pins σ Q) X.xe s
def PW (X:Cx)(e:Expr)(t:TT):Prop:=
 ∀ (whole:Sem Value) (pins:List (Addr×Obj)) (s:Shared) (σ:St) (H:Hp) (Q:Bool->Hp->Prop),Inv X pins σ H s->t σ H Q->wpAny (model X.prog X.w) X.A (isTrue e X.env whole) (TP X pins σ Q) X.xe s
theorem PW.pt {X:Cx}{e:Expr}{t:TT}(h:PW X e t):PT X e t:=h _
def PA (X:Cx)(es:List Expr)(t:TA):Prop:=
 ∀ (pos:Pos) (pins:List (Addr×Obj)) (s:Shared) (σ:St) (H:Hp) (Q:List V->Hp->Prop),Inv X pins σ H s->t σ H Q->wpAny (model X.prog X.w) X.A (spliced (backTo pos (starEach es X.env))) (AP X pins σ Q) X.xe s
def PS (X:Cx)(st:Stmt)(t:TS):Prop:=
 ∀ (pins:List (Addr×Obj)) (s:Shared) (σ:St) (H:Hp) (D:Ends),Inv X pins σ H s->t D σ H->wpAny (model X.prog X.w) X.A (exec st X.env) (SP X pins D) X.xe s
def PSs (X:Cx)(st:List Stmt)(t:TS):Prop:=
 ∀ (pins:List (Addr×Obj)) (s:Shared) (σ:St) (H:Hp) (D:Ends),Inv X pins σ H s->t D σ H->wpAny (model X.prog X.w) X.A (execs st X.env) (SP X pins D) X.xe s
theorem thn {α:Type}{t:Sem α}{Q Q':α->Shared->Prop}{M:Model}{A:Around}{E:Value->Shared->Prop}{s:Shared}(h:wpAny M A t Q E s)(hQ:∀ a s,Q a s->Q' a s):wpAny M A t Q' E s:=wpAny_mono h hQ fun _ _ x=>x
section
variable {X:Cx}
def zk5 (i:Nat):TE:=fun σ H Q=>∃ v,σ[i]?=some (some v)/\Q v H
def tC (v:V):TE:=fun _ H Q=>Q v H
theorem zo1 {i:Nat}{x:Str}{pos:Pos}(hN:X.N[i]?=some x)(hv:Vis X.env.scope x)(hd:(x==("__debug__" : Str))=false:=by decide)(hcd:(x==("__classdict__" : Str))=false:=by decide):PE X (.Name x pos) (zk5 i):=by
 intro pins s σ H Q I h
 obtain ⟨v,e,h⟩:=h
 obtain ⟨m,hn,hl⟩:=I.loc
 obtain ⟨u,r,l⟩:=hl i x v hN e hv
 have fin:EP X pins σ Q u s:=⟨v,H,I,r,h⟩
 rcases l with ⟨hk,hm⟩ | ⟨hk,c,hc,hcell⟩
 ·exact wpAny_Name (wpAny_loadName_local I.ok.kind hk hn hm fin) hd
 ·rcases hk with hk | hk
  ·exact wpAny_Name (wpAny_loadName_cell I.ok.kind hk hc hcell fin) hd
  ·exact wpAny_Name (wpAny_loadName_free I.ok.kind hk hc hcell fin hcd) hd
theorem zkR {i j pos}:PE X (.Constant (.int i) j pos) (tC (.int i)):=fun _ _ _ H _ I h=>wpAny_Constant_int ⟨.int i,H,I.tok _,⟨_,rfl⟩,h⟩
theorem zrJ {b j pos}:PE X (.Constant (.bool b) j pos) (tC (.bl b)):=fun _ _ _ H _ I h=>Constant_bool ⟨.bl b,H,I,rfl,h⟩
theorem zo0 {x j pos}:PE X (.Constant (.str x) j pos) (tC (.str x)):=fun _ _ _ H _ I h=>Calls.Constant_str ⟨.str x,H,I.tok _,⟨_,rfl⟩,h⟩
def Gl (X:Cx)(x:Str):Prop:=X.env.kindOf x=some .globalImplicit
theorem zlW {E:Value->Shared->Prop}{pins:List (Addr×Obj)}{s:Shared}{σ:St}{H:Hp}{x:Str}{u:Value}{pos:Pos}{Q:Value->Shared->Prop}(I:Inv X pins σ H s)(hg:Gl X x)(hm:X.mg x=some u)(h:Q u s)
  (hd:(x==("__debug__" : Str))=false:=by decide):wpAny (model X.prog X.w) X.A (eval (.Name x pos) X.env) Q E s:=
 Calls.Name_function_global I.ok.kind hg (Calls.loadGlobal_global (by rw [I.ok.glob];exact I.mod.glob.keeps I.bk) hm h) hd
theorem zbR {E:Value->Shared->Prop}{pins:List (Addr×Obj)}{s:Shared}{σ:St}{H:Hp}{x:Str}{u:Value}{pos:Pos}{Q:Value->Shared->Prop}(I:Inv X pins σ H s)(hg:Gl X x)(hm:X.mg x=none)(hv:bootBuiltins x=some u)(h:Q u s)
  (hn:x ≠ "__name__" := by decide) (hd:(x==("__debug__" : Str))=false:=by decide):wpAny (model X.prog X.w) X.A (eval (.Name x pos) X.env) Q E s:=by
 obtain ⟨mb,h1,h2⟩:=I.mod.blt
 exact Calls.Name_function_global I.ok.kind hg (Calls.loadGlobal_builtin (by rw [I.ok.glob];exact I.mod.glob.keeps I.bk) hm (by rw [I.ok.blt];exact h1.keeps I.bk) ((h2 x hn).trans hv) h) hd
theorem zmi {x:Str}{v:V}{u:Value}{pos:Pos}(hg:Gl X x)(hm:X.mg x=none)(hv:bootBuiltins x=some u)(r:yu v u)(hn:x ≠ "__name__" := by decide)(hd:(x==("__debug__" : Str))=false:=by decide):PE X (.Name x pos) (tC v):=
 fun _ _ _ H _ I h=>zbR I hg hm hv ⟨v,H,I,r,h⟩ hn hd
variable {a b:Expr}{ta tb:TE}{pos:Pos}
def PC (X:Cx)(op:CmpOp)(a b:Expr)(t:TE):Prop:=
 ∀ (pins:List (Addr×Obj)) (s:Shared) (σ:St) (H:Hp) (Q:VK),Inv X pins σ H s->t σ H Q->
  wpAny (model X.prog X.w) X.A (eval a X.env) (fun v s₁=>wpAny (model X.prog X.w) X.A (eval b X.env) (fun u s₂=>wpAny (model X.prog X.w) X.A (compareOp op v u) (EP X pins σ Q) X.xe s₂) X.xe s₁) X.xe s
theorem zdc (b:Expr){op:CmpOp}(h:op≠.In)(h2:op≠.NotIn):behindInMarks op b=false:=by
 have e1:(op==CmpOp.In)=false:=by cases op <;> first | rfl | exact absurd rfl h
 have e2:(op==CmpOp.NotIn)=false:=by cases op <;> first | rfl | exact absurd rfl h2
 cases b <;> simp [behindInMarks,e1,e2]
def zr3 (ta:TE):TE:=fun σ H Q=>ta σ H fun x H1=>Q (.bl (decide (x = .non))) H1
theorem yu.none_iff {x:V}{v:Value}(r:yu x v):(v==Value.none)=decide (x = .non):=by
 cases x with
 | non=>cases r;rfl
 | bl _=>cases r;rfl
 | int _=>obtain ⟨t,rfl⟩:=r;rfl
 | str _=>obtain ⟨t,rfl⟩:=r;rfl
 | byt _=>obtain ⟨t,rfl⟩:=r;rfl
 | flt _=>obtain ⟨t,rfl⟩:=r;rfl
 | ref _=>cases r;rfl
 | ty _=>cases r;rfl
theorem zoY {j pos'}(ha:PE X a ta):PC X .Is a (.Constant .none j pos') (zr3 ta):=by
 intro pins s σ H Q I h
 refine thn (ha pins s σ H _ I h) fun v s1 ⟨x,H1,I1,r1,q1⟩=>?_
 exact Constant_none (is_none_gen ⟨.bl _,H1,I1,by rw [r1.none_iff];rfl,q1⟩)
def tB (t:TE):TT:=fun σ H Q=>t σ H fun x H1=>∃ c,x = .bl c/\Q c H1
theorem zpf {op:CmpOp}{t:TE}(h:PC X op a b t)(h1:behindInMarks op b=false:=by first | exact zdc _ (by decide) (by decide) | rfl):PT X (.Compare a [op] [b] pos) (tB t):=by
 intro pins s σ H Q I hw
 refine wpAny_isTrue_Compare1 (thn (h pins s σ H _ I hw) fun v s1 h1=>thn h1 fun u s2 h2=>thn h2 fun c s3 ⟨x,H1,I1,r1,q1⟩=>?_) h1
 obtain ⟨d,rfl,q⟩:=q1
 cases r1
 exact wpAny_truthy_bool ⟨H1,I1,q⟩
theorem zph {e:Expr}{t:TE}(h:PE X e t)(he:∀ whole,isTrue e X.env whole=(do let v <- whole;standAt e.pos;holding [v] (truthy v)):=by intro _;rfl):PT X e (tB t):=by
 intro pins s σ H Q I hw
 refine isTrue_plain (thn (h pins s σ H _ I hw) fun v s1 ⟨x,H1,I1,r1,q1⟩=>?_) (he _)
 obtain ⟨d,rfl,q⟩:=q1
 cases r1
 exact wpAny_truthy_bool ⟨H1,I1,q⟩
variable {tA tB':TT}{z6:List Expr}
def zr0 (t u:TT):TT:=fun σ H Q=>t σ H fun c H1=>if c=true then u σ H1 Q else Q false H1
def tOr (t u:TT):TT:=fun σ H Q=>t σ H fun c H1=>if c=true then Q true H1 else u σ H1 Q
def tNot (t:TT):TT:=fun σ H Q=>t σ H fun c H1=>Q (!c) H1
theorem zmI (ha:PT X a tA):PW X (.BoolOp .And [a] pos) tA:=by
 intro wh pins s σ H Q I h
 refine isTrue_and (thn (ha pins s σ H Q I h) fun c s1 e=>?_)
 cases c with
 | true=>exact isTrue_and_nil e
 | false=>exact e
theorem zpk (ha:PT X a tA):PW X (.BoolOp .Or [a] pos) tA:=by
 intro wh pins s σ H Q I h
 refine isTrue_or (thn (ha pins s σ H Q I h) fun c s1 e=>?_)
 cases c with
 | false=>exact isTrue_or_nil e
 | true=>exact e
theorem zpj (ha:PT X a tA)(hb:PW X (.BoolOp .And (b::z6) pos) tB'):PW X (.BoolOp .And (a::b::z6) pos) (zr0 tA tB'):=by
 intro wh pins s σ H Q I h
 refine isTrue_and (thn (ha pins s σ H _ I h) fun c s1 ⟨H1,I1,q1⟩=>?_)
 cases c with
 | true=>exact hb wh pins s1 σ H1 Q I1 q1
 | false=>exact ⟨H1,I1,q1⟩
theorem zrR (ha:PT X a tA)(hb:PW X (.BoolOp .Or (b::z6) pos) tB'):PW X (.BoolOp .Or (a::b::z6) pos) (tOr tA tB'):=by
 intro wh pins s σ H Q I h
 refine isTrue_or (thn (ha pins s σ H _ I h) fun c s1 ⟨H1,I1,q1⟩=>?_)
 cases c with
 | true=>exact ⟨H1,I1,q1⟩
 | false=>exact hb wh pins s1 σ H1 Q I1 q1
theorem zpg (ha:PT X a tA):PT X (.UnaryOp .Not a pos) (tNot tA):=by
 intro pins s σ H Q I h
 exact isTrue_not (ha pins s σ H (fun c H1=>Q (!c) H1) I h)
def tIf (t:TT)(ta tb:TE):TE:=fun σ H Q=>t σ H fun c H1=>if c=true then ta σ H1 Q else tb σ H1 Q
theorem zjQ {c:Expr}(hc:PT X c tA)(ha:PE X a ta)(hb:PE X b tb):PE X (.IfExp c a b pos) (tIf tA ta tb):=by
 intro pins s σ H Q I h
 refine wpAny_IfExp (thn (hc pins s σ H _ I h) fun d s1 ⟨H1,I1,q1⟩=>?_)
 cases d with
 | true=>exact ha pins s1 σ H1 Q I1 q1
 | false=>exact hb pins s1 σ H1 Q I1 q1
end
def SqL (K:PySem.W.Frag)(H:Hp)(a:Addr)(xs:List V):Prop:=
 Rd H a (.lst xs)\/
  ∃ (o:Obj) (its:Array Value) (n:Nat),K.lookup a=some o/\o.cls = .type "list" /\ o.dict=none/\o.data = .seq its n/\its.size<=sizeLine/\z0 xs its.toList
def SqT (K:PySem.W.Frag)(H:Hp)(a:Addr)(xs:List V):Prop:=
 Rd H a (.tup xs)\/
  ∃ (o:Obj) (its:Array Value) (n:Nat),K.lookup a=some o/\o.cls = .type "tuple" /\ o.data = .seq its n/\its.size<=sizeLine/\z0 xs its.toList
def absV:Value->Option V
 | .none=>some .non
 | .bool b=>some (.bl b)
 | .int i _=>some (.int i)
 | .str x _=>some (.str x)
 | .bytes b _=>some (.byt b)
 | .float b _=>some (.flt b)
 | .ref a=>some (.ref a)
 | .type n=>some (.ty n)
 | _=>none
theorem yu.abs {x:V}{u:Value}(r:yu x u):absV u=some x:=by
 cases x with
 | non=>cases r;rfl
 | bl _=>cases r;rfl
 | int _=>obtain ⟨t,rfl⟩:=r;rfl
 | str _=>obtain ⟨t,rfl⟩:=r;rfl
 | byt _=>obtain ⟨t,rfl⟩:=r;rfl
 | flt _=>obtain ⟨t,rfl⟩:=r;rfl
 | ref _=>cases r;rfl
 | ty _=>cases r;rfl
theorem yu.inj {x y:V}{u:Value}(r:yu x u)(q:yu y u):x=y:=Option.some.inj (r.abs.symm.trans q.abs)
theorem z0.inj:∀ {xs ys:List V} {us:List Value},z0 xs us->z0 ys us->xs=ys
 | _,_,_,.nil,.nil=>rfl
 | _,_,_,.cons r t,.cons r' t'=>by rw [r.inj r',z0.inj t t']
section
variable {X:Cx}{pins:List (Addr×Obj)}{σ:St}{H:Hp}{s:Shared}{a:Addr}{xs ys:List V}
theorem SqL.of {K:PySem.W.Frag}(h:H a=some (.lst xs)):SqL K H a xs:=.inl (.inl h)
theorem SqT.of {K:PySem.W.Frag}(h:H a=some (.tup xs)):SqT K H a xs:=.inl (.inl h)
theorem Inv.list (I:Inv X pins σ H s)(h:SqL X.K H a xs):∃ its:List Value,z0 xs its/\PlainL s.heap a its.toArray/\xs.length<=sizeLine:=by
 rcases h with h | ⟨o,its,n,hk,hc,hd,hs,hz,r⟩
 ·obtain ⟨z,its,n,r,e⟩:=h.ok I.hok
  exact ⟨its,r,⟨_,n,e,rfl,rfl,rfl⟩,z⟩
 ·refine ⟨its.toList,r,⟨o,n,I.kIn a o hk,hc,hd,by simpa using hs⟩,?_⟩
  have e:=r.length
  simp only [Array.length_toList] at e
  lia
theorem Inv.tuple (I:Inv X pins σ H s)(h:SqT X.K H a xs):∃ its:List Value,z0 xs its/\IsTup s.heap a its.toArray/\xs.length<=sizeLine:=by
 rcases h with h | ⟨o,its,n,hk,hc,hs,hz,r⟩
 ·obtain ⟨z,its,r,p⟩:=h.ok I.hok
  exact ⟨its,r,p.tup,z⟩
 ·refine ⟨its.toList,r,⟨o,I.kIn a o hk,hc,n,by simpa using hs⟩,?_⟩
  have e:=r.length
  simp only [Array.length_toList] at e
  lia
theorem Inv.list_inj (I:Inv X pins σ H s)(h:SqL X.K H a xs)(h':SqL X.K H a ys):xs=ys:=by
 obtain ⟨its,r,⟨o,n,e,_,_,d⟩,_⟩:=I.list h
 obtain ⟨its',r',⟨o',n',e',_,_,d'⟩,_⟩:=I.list h'
 rw [e] at e';cases e'
 rw [d] at d'
 injection d' with d1 _
 have:its=its':=by simpa using congrArg Array.toList d1
 subst this
 exact r.inj r'
theorem Inv.tuple_inj (I:Inv X pins σ H s)(h:SqT X.K H a xs)(h':SqT X.K H a ys):xs=ys:=by
 obtain ⟨its,r,⟨o,e,_,n,d⟩,_⟩:=I.tuple h
 obtain ⟨its',r',⟨o',e',_,n',d'⟩,_⟩:=I.tuple h'
 rw [e] at e';cases e'
 rw [d] at d'
 injection d' with d1 _
 have:its=its':=by simpa using congrArg Array.toList d1
 subst this
 exact r.inj r'
end
abbrev Cx.wish (X:Cx)(E:Value->Shared->Prop):Cx:={ X with xe:=E }
abbrev Cx.nox (X:Cx):Cx:=X.wish fun _ _=>False
theorem Cx.Ok.wish {X:Cx}(ok:X.Ok)(E:Value->Shared->Prop):(X.wish E).Ok:=
 ⟨ok.mod,ok.kind,ok.glob,ok.blt,ok.above,ok.inj,ok.has,ok.cab,ok.hd,ok.frames,ok.stk,ok.exf,ok.bs,ok.bsz,ok.noex,ok.exfs,ok.funs,ok.frf⟩
theorem Cx.Ok.unwish {X:Cx}{E:Value->Shared->Prop}(ok:(X.wish E).Ok):X.Ok:=
 ⟨ok.mod,ok.kind,ok.glob,ok.blt,ok.above,ok.inj,ok.has,ok.cab,ok.hd,ok.frames,ok.stk,ok.exf,ok.bs,ok.bsz,ok.noex,ok.exfs,ok.funs,ok.frf⟩
section
variable {X:Cx}{pins:List (Addr×Obj)}{σ:St}{H:Hp}{s:Shared}{E:Value->Shared->Prop}
theorem Inv.wish (I:Inv X pins σ H s)(E:Value->Shared->Prop):Inv (X.wish E) pins σ H s:=⟨I.ok.wish E,I.os,I.bare,I.base,I.loc,I.cell,I.free,I.freeC,I.pin,I.hok,I.len⟩
theorem Inv.unwish (I:Inv (X.wish E) pins σ H s):Inv X pins σ H s:=⟨I.ok.unwish,I.os,I.bare,I.base,I.loc,I.cell,I.free,I.freeC,I.pin,I.hok,I.len⟩
theorem SP.unwish {D:Ends}{f:Flow}{s':Shared}(h:SP (X.wish E) pins D f s'):SP X pins D f s':=by
 cases f with
 | next=>obtain ⟨σ',H',I,q⟩:=h;exact ⟨σ',H',I.unwish,q⟩
 | brk=>obtain ⟨σ',H',I,q⟩:=h;exact ⟨σ',H',I.unwish,q⟩
 | cont=>obtain ⟨σ',H',I,q⟩:=h;exact ⟨σ',H',I.unwish,q⟩
 | ret u=>obtain ⟨v,σ',H',I,r,q⟩:=h;exact ⟨v,σ',H',I.unwish,r,q⟩
theorem PSs.nox {st:List Stmt}{t:TS}(h:PSs X.nox st t):PSs X st t:=fun pins s σ H D I hw=>
 wpAny_mono (h pins s σ H D (I.wish _) hw) (fun _ _ q=>q.unwish) fun _ _ z=>False.elim z
end
section
variable {X:Cx}{st:Stmt}{z6:List Stmt}{t u:TS}{e:Expr}{te:TE}{pos:Pos}
def zpY:TS:=fun D σ H=>D.nx σ H
def zr4 (t u:TS):TS:=fun D σ H=>t { D with nx:=u D } σ H
theorem zmC:PSs X [] zpY:=fun _ _ σ H _ I h=>wpAny_execs_nil ⟨σ,H,I,h⟩
theorem zjX (h1:PS X st t)(h2:PSs X z6 u):PSs X (st::z6) (zr4 t u):=by
 intro pins s σ H D I h
 refine wpAny_execs_cons (thn (h1 pins s σ H { D with nx:=u D } I h) fun f s1 q=>?_)
 cases f with
 | next=>
  obtain ⟨σ',H',I',q⟩:=q
  exact h2 pins s1 σ' H' D I' q
 | ret v=>exact q
 | brk=>exact q
 | cont=>exact q
theorem zmD (h1:PS X st t):PSs X [st] t:=by
 intro pins s σ H D I h
 refine wpAny_execs_cons (thn (h1 pins s σ H D I h) fun f s1 q=>?_)
 cases f with
 | next=>exact wpAny_execs_nil q
 | ret v=>exact q
 | brk=>exact q
 | cont=>exact q
theorem Inv.quiet {pins:List (Addr×Obj)}{σ:St}{H:Hp}{s:Shared}(I:Inv X pins σ H s):interactive X.env=false:=by simp [interactive,I.ok.kind]
def znm (te:TE):TS:=fun D σ H=>te σ H fun _ H1=>D.nx σ H1
theorem zmA (he:PE X e te)(hs:swapsWith e none pos.line X.env=pure false:=by rfl):PS X (.Expr e pos) (znm te):=by
 intro pins s σ H D I h
 exact wpAny_Expr_any (thn (he pins s σ H _ I h) fun v s1 ⟨x,H1,I1,r1,q1⟩=>⟨σ,H1,I1,q1⟩) I.quiet hs
def zqE (te:TE):TS:=fun D σ H=>te σ H D.rt
theorem zpd (he:PE X e te):PS X (.Return (some e) pos) (zqE te):=by
 intro pins s σ H D I h
 exact wpAny_Return_some (thn (he pins s σ H _ I h) fun v s1 ⟨x,H1,I1,r1,q1⟩=>⟨x,σ,H1,I1,r1,q1⟩)
def tIfS (c:TT)(t u:TS):TS:=fun D σ H=>c σ H fun b H1=>if b=true then t D σ H1 else u D σ H1
theorem zrQ {c:Expr}{a b:List Stmt}{tc:TT}(hc:PT X c tc)(ha:PSs X a t)(hb:PSs X b u):PS X (.If c a b pos) (tIfS tc t u):=by
 intro pins s σ H D I h
 refine wpAny_If (thn (hc pins s σ H _ I h) fun d s1 ⟨H1,I1,q1⟩=>?_)
 cases d with
 | true=>exact ha pins s1 σ H1 D I1 q1
 | false=>exact hb pins s1 σ H1 D I1 q1
end
abbrev TG:=V->St->Hp->(St->Hp->Prop)->Prop
abbrev TGs:=List V->St->Hp->(St->Hp->Prop)->Prop
def PG (X:Cx)(target:Expr)(t:TG):Prop:=
 ∀ (pins:List (Addr×Obj)) (s:Shared) (σ:St) (H:Hp) (v:V) (u:Value) (Q:St->Hp->Prop),Inv X pins σ H s->yu v u->t v σ H Q->
  wpAny (model X.prog X.w) X.A (assign target X.env u) (fun _ s'=>∃ σ' H',Inv X pins σ' H' s'/\Q σ' H') X.xe s
def PGs (X:Cx)(ts:List Expr)(t:TGs):Prop:=
 ∀ (pins:List (Addr×Obj)) (s:Shared) (σ:St) (H:Hp) (vs:List V) (us:List Value) (Q:St->Hp->Prop),Inv X pins σ H s->z0 vs us->t vs σ H Q->
  wpAny (model X.prog X.w) X.A (assignInOrder ((assignEach ts X.env).map (·.2)) us) (fun _ s'=>∃ σ' H',Inv X pins σ' H' s'/\Q σ' H') X.xe s
abbrev zqN:=V->V->V->Hp->(Hp->Prop)->Prop
def PSet (X:Cx)(t:zqN):Prop:=
 ∀ (pins:List (Addr×Obj)) (s:Shared) (σ:St) (H:Hp) (o i v:V) (ov iv u:Value) (Q:Hp->Prop),Inv X pins σ H s->yu o ov->yu i iv->yu v u->t o i v H Q->
  wpAny (model X.prog X.w) X.A (setItem ov iv u) (fun _ s'=>∃ H',Inv X pins σ H' s'/\Q H') X.xe s
section
variable {X:Cx}{pos:Pos}
def zao (i:Nat):TG:=fun v σ H Q=>Q (σ.set i (some v)) H
theorem zmq {i:Nat}{x:Str}(hN:X.N.Nodup)(hi:X.N[i]?=some x)(hx:Loc X.env.scope x)(hf:X.fn x=true\/X.env.scope.names.lookup x=some .local:=by first | exact .inl rfl | exact .inr rfl | assumption):PG X (.Name x pos) (zao i):=by
 intro pins s σ H v u Q I r h
 exact wpAny_assign_Name (zbB I hN hi hx r (fun s' I'=>⟨_,H,I',h⟩) hf)
def gNil:TGs:=fun vs σ H Q=>vs=[]/\Q σ H
def zog (t:TG)(u:TGs):TGs:=fun vs σ H Q=>∃ v r,vs=v::r/\t v σ H fun σ' H'=>u r σ' H' Q
theorem zmr:PGs X [] gNil:=by
 intro pins s σ H vs us Q I r h
 obtain ⟨e,h⟩:=h
 subst e
 cases r
 exact assignInOrder_nil ⟨σ,H,I,h⟩
theorem zjT {e:Expr}{es:List Expr}{t:TG}{u:TGs}(h1:PG X e t)(h2:PGs X es u)
  (hs:(assignEach (e::es) X.env).map (·.2)=assign e X.env::(assignEach es X.env).map (·.2):=by rfl):PGs X (e::es) (zog t u):=by
 intro pins s σ H vs us Q I r h
 obtain ⟨v,vr,e1,h⟩:=h
 subst e1
 cases r with
 | cons r rr=>
  rw [hs]
  refine assignInOrder_cons (thn (h1 pins s σ H _ _ _ I r h) fun _ s1 ⟨σ1,H1,I1,q1⟩=>?_)
  exact h2 pins s1 σ1 H1 _ _ Q I1 rr q1
def zq9 (K:PySem.W.Frag)(n:Nat)(t:TGs):TG:=fun v σ H Q=>∃ a xs,v = .ref a/\SqT K H a xs/\xs.length=n/\t xs σ H Q
theorem zo8 {es:List Expr}{k:Nat}{t:TGs}{n:Nat}(hc:X.calm=true)(h:PGs X es t)
  (hn:(assignEach es X.env).length=n:=by rfl) (hst:(assignEach es X.env).findIdx? (·.1)=none:=by rfl):PG X (.Tuple es k pos) (zq9 X.K n t):=by
 intro pins s σ H v u Q I r hw
 obtain ⟨a,xs,e1,hq,hl,hw⟩:=hw
 subst e1
 cases r
 obtain ⟨its,rv,ht,hz⟩:=I.tuple hq
 refine assign_Tuple_tuple (I.ok.hd hc) ht (by simp [hn,<- hl,rv.length]) hst fun h' hx=>?_
 have I1:Inv X pins σ H { s with heap:=h' }:=I.kept (t':=s.toks) fun b o e=>hx b o (Nat.ne_of_lt (Heap.lt_size e)) e
 exact h pins _ σ H xs _ Q I1 (by simpa using rv) hw
def gSub (to ti:TE)(t:zqN):TG:=fun v σ H Q=>to σ H fun o H1=>ti σ H1 fun i H2=>t o i v H2 fun H3=>Q σ H3
theorem zo7 {o i:Expr}{to ti:TE}{t:zqN}(ho:PE X o to)(hi:PE X i ti)(hs:PSet X t)
  (ha:∀ v,assign (.Subscript o i pos) X.env v=(do
   let ov <- holding [v] (eval o X.env)
   let iv <- holding [v,ov] (eval i X.env)
   standAt pos
   holding [v,ov,iv] (setItem ov iv v)
   release [v,ov,iv] []):=by intro _;rfl):PG X (.Subscript o i pos) (gSub to ti t):=by
 intro pins s σ H v u Q I r h
 rw [ha]
 refine wpAny_bind (wpAny_holding (thn (ho pins s σ H _ I h) fun ov s1 ⟨x,H1,I1,r1,q1⟩=>?_))
 refine wpAny_bind (wpAny_holding (thn (hi pins s1 σ H1 _ I1 q1) fun iv s2 ⟨y,H2,I2,r2,q2⟩=>?_))
 refine wpAny_bind (wpAny_standAt (wpAny_bind (wpAny_holding (thn (hs pins s2 σ H2 x y v ov iv u _ I2 r1 r2 r q2) fun _ s3 ⟨H3,I3,q3⟩=>?_))))
 exact wpAny_release ⟨σ,H3,I3,q3⟩
def zfa (te:TE)(g:TG):TS:=fun D σ H=>te σ H fun x H1=>g x σ H1 D.nx
theorem zpa {tg e:Expr}{te:TE}{g:TG}(he:PE X e te)(hg:PG X tg g)(hs:swapsWithSole [tg] e pos.line X.env=pure false:=by rfl)(hw:swappedStores [tg] e X.env=pure none:=by rfl)
  (h1:(assignEach [tg] X.env).map (·.2)=[assign tg X.env]:=by rfl):PS X (.Assign [tg] e pos) (zfa te g):=by
 intro pins s σ H D I h
 refine wpAny_Assign_stores (thn (he pins s σ H _ I h) fun v s1 ⟨x,H1,I1,r1,q1⟩=>?_) hs hw
 rw [h1]
 exact thn (hg pins s1 σ H1 x v _ I1 r1 q1) fun _ s2 q=>q
theorem zpe {i:Nat}{x:Str}{e:Expr}{te:TE}{pos':Pos}(hN:X.N.Nodup)(hi:X.N[i]?=some x)(hx:Loc X.env.scope x)(he:PE X e te)(hs:swapsWith e (some (.Name x pos')) pos.line X.env=pure false:=by rfl)(hf:X.fn x=true\/X.env.scope.names.lookup x=some .local:=by first | exact .inl rfl | exact .inr rfl | assumption) :
  PS X (.Assign [.Name x pos'] e pos) (zfa te (zao i)):=by
 intro pins s σ H D I h
 refine wpAny_Assign_Name (thn (he pins s σ H _ I h) fun v s1 ⟨y,H1,I1,r1,q1⟩=>?_) hs
 exact zbB I1 hN hi hx r1 (fun s2 I2=>⟨_,H1,I2,q1⟩) hf
def tPar (i j:Nat)(ta:TA):TS:=fun D σ H=>ta σ H fun vs H1=>∃ v w,vs=[v,w]/\D.nx ((σ.set i (some v)).set j (some w)) H1
theorem zpc {i j:Nat}{x y:Str}{a b:Expr}{ta:TA}{px py pt:Pos}{kt k2 pt2}(hc:X.calm=true)(hN:X.N.Nodup)(hi:X.N[i]?=some x)(hj:X.N[j]?=some y)(hij:i≠j)
  (hx:X.env.scope.names.lookup x=some .local) (hy:X.env.scope.names.lookup y=some .local) (ha:PA X [a,b] ta)
  (hw:swappedStores [.Tuple [.Name x px,.Name y py] kt pt] (.Tuple [a,b] k2 pt2) X.env=pure (some [x,y]))
  (hs:swapsWithSole [.Tuple [.Name x px,.Name y py] kt pt] (.Tuple [a,b] k2 pt2) pos.line X.env=pure false:=by rfl) :
  PS X (.Assign [.Tuple [.Name x px,.Name y py] kt pt] (.Tuple [a,b] k2 pt2) pos) (tPar i j ta):=by
 intro pins s σ H D I h
 rw [exec_Assign_arm]
 refine wpAny_bind (wpAny_standAt ?_)
 rw [hs]
 refine wpAny_bind (wpAny_pure ?_)
 rw [if_neg (by decide)]
 refine wpAny_bind (Tuple_ (thn (ha _ pins s σ H _ I h) fun us s1 ⟨vs,H1,I1,r1,q1⟩=>?_))
 obtain ⟨v,w,e1,q1⟩:=q1
 subst e1
 obtain ⟨u1,u2,rfl,rv,rw'⟩:∃ u1 u2,us=[u1,u2]/\yu v u1/\yu w u2:=by
  cases r1 with
  | cons p q=>
   cases q with
   | cons p' q'=>
    cases q'
    exact ⟨_,_,rfl,p,p'⟩
 refine wpAny_newObj_type ?_ (by show 2<=sizeLine;decide)
 have I2:Inv X pins σ H1 { s1 with heap:=s1.heap.push { cls:=.type "tuple",data:=.seq [u1,u2].toArray } }:=I1.kept (t':=s1.toks) fun b o e=>Heap.get?_push_of_some _ e
 rw [hw]
 refine wpAny_bind (wpAny_pure ?_)
 show wpAny (model X.prog X.w) X.A (do rule "assign.swapped-stores";let items <- unpackItems (.ref s1.heap.objs.size) 2 none;assignInOrder [fun v=>bindName X.env y v,fun v=>bindName X.env x v] items.reverse;pure Flow.next) _ _ _
 refine wpAny_bind (wpAny_rule (wpAny_bind (unpackItems_tuple (items:=#[u1,u2]) (I.ok.hd hc) (IsTup.new s1.heap _) fun h' hx'=>?_)))
 have I3:=I2.kept (h':=h') (t':=s1.toks) fun b o e=>hx' b o (Nat.ne_of_lt (Heap.lt_size e)) e
 show wpAny _ _ (assignInOrder [fun v=>bindName X.env y v,fun v=>bindName X.env x v] [u2,u1] >>= fun _=>pure Flow.next) _ _ _
 refine wpAny_bind (assignInOrder_cons (wpAny_bindName (zbB I3 hN hj (.inl hy) rw' (fun s2 I4=>?_) (.inr hy))))
 refine assignInOrder_cons (wpAny_bindName (zbB I4 hN hi (.inl hx) rv (fun s3 I5=>assignInOrder_nil (wpAny_pure ?_)) (.inr hx)))
 rw [List.set_comm _ _ (Ne.symm hij)] at I5
 exact ⟨_,H1,I5,q1⟩
end
section
variable {X:Cx}{pos:Pos}
end
structure It where
 go:Nat->Hp->Prop
 yld:Nat->Hp->V->Hp->Prop
 stop:Nat->Hp->Prop
def zdC (X:Cx)(pins:List (Addr×Obj))(H:Hp)(b:Addr):Prop:=
 H b=none/\b≠X.env.locals/\b∉X.fs/\(b∈X.ex\/X.s₀.heap.objs.size<=b)/\(∀ x c,X.env.cells.lookup x=some c->c≠b)/\∀ p∈X.pn++pins,p.1≠b
theorem Inv.fpOk {X:Cx}{pins:List (Addr×Obj)}{σ:St}{H H':Hp}{s:Shared}{b:Addr}(I:Inv X pins σ H s)(hb:s.heap.objs.size<=b)(hn:H' b=none):zdC X pins H' b:=by
 refine ⟨hn,Nat.ne_of_gt (Nat.lt_of_lt_of_le I.lt hb),I.nofs hb,.inr (Nat.le_trans I.sz hb),fun x c e z=>?_,fun p hp z=>?_⟩
 ·obtain ⟨v,q⟩:=I.cell x c e
  exact absurd (Nat.lt_of_lt_of_le q.lt (by rw [z];exact hb)) (Nat.lt_irrefl _)
 ·exact absurd (Nat.lt_of_lt_of_le (Heap.lt_size (I.pin p hp).1) (by rw [z];exact hb)) (Nat.lt_irrefl _)
structure Turn (P:Program)(w:World)(K:PySem.W.Frag)(tg:Expr)(J:It)(fp:List Addr)(it:Addr)(tn:Nat->Heap->Prop):Prop where
 mem:it∈fp
 obj:∀ i h,tn i h->∀ b∈fp,∃ o,h.get? b=some o/\∀ v,o.data≠.cell v
 keep:∀ i h h',tn i h->(∀ b∈fp,∀ o,h.get? b=some o->h'.get? b=some o)->tn i h'
 item:∀ (X:Cx),X.prog=P->X.w=w->X.K=K->X.calm=true->∀ (i:Nat) (pins:List (Addr×Obj)) (s:Shared) (σ:St) (H:Hp) (E:Value->Shared->Prop),Inv X pins σ H s->(∀ b∈fp,zdC X pins H b)->tn i s.heap->J.go i H->
  wpAny (model P w) X.A (pyNext (.ref it)) (fun r s1=>∃ u,r=some u/\
   wpAny (model P w) X.A (letOwnedTupleGo tg (.ref it) u) (fun _ s2=>∃ x H',Inv X pins σ H' s2/\yu x u/\J.yld i H x H'/\tn (i+1) s2.heap/\∀ b∈fp,H' b=none) E s1) E s
 done:∀ (X:Cx),X.prog=P->X.w=w->X.K=K->X.calm=true->∀ (i:Nat) (pins:List (Addr×Obj)) (s:Shared) (σ:St) (H:Hp) (E:Value->Shared->Prop),Inv X pins σ H s->(∀ b∈fp,zdC X pins H b)->tn i s.heap->J.stop i H->
  wpAny (model P w) X.A (pyNext (.ref it)) (fun r s1=>r=none/\Inv X pins σ H s1) E s
 self:∀ (A:Around) (i:Nat) (s:Shared) (Q:Value->Shared->Prop) (E:Value->Shared->Prop),tn i s.heap->Q (.ref it) s->wpAny (model P w) A (pyIter (.ref it)) Q E s
abbrev TI:=St->Hp->(It->Hp->Prop)->Prop
def PIE (X:Cx)(pins:List (Addr×Obj))(σ:St)(tg:Expr)(R:It->Hp->Prop)(itv:Value)(s2:Shared):Prop:=
 ∃ (it:Addr) (fp:List Addr) (tn:Nat->Heap->Prop) (J:It) (H':Hp),itv = .ref it/\Inv X pins σ H' s2/\Turn X.prog X.w X.K tg J fp it tn/\tn 0 s2.heap/\(∀ b∈fp,zdC X pins H' b)/\R J H'
def PI (X:Cx)(tg iter:Expr)(wi:TI):Prop:=
 ∀ (pins:List (Addr×Obj)) (s:Shared) (σ:St) (H:Hp) (R:It->Hp->Prop),Inv X pins σ H s->wi σ H R->
  wpAny (model X.prog X.w) X.A (eval iter X.env) (fun v s1=>wpAny (model X.prog X.w) X.A (pyIter v) (PIE X pins σ tg R) X.xe s1) X.xe s
theorem zlB {M:Model}{A:Around}{E:Value->Shared->Prop}{s:Shared}{tg:Expr}{it:Addr}{u:Value}{o:Obj}{n:String}{vs:Array Value}{Q:Unit->Shared->Prop}(ho:s.heap.get? it=some o)(hc:o.cls = .type n)(hd:o.data = .fields vs)
  (hn:["enumerate","zip","dict_itemiterator","dict_reverseitemiterator","odict_iterator","itertools.zip_longest","itertools.pairwise"].contains n=false) (hQ:Q () s):wpAny M A (letOwnedTupleGo tg (.ref it) u) Q E s:=by
 unfold letOwnedTupleGo
 cases tg <;> first
  | exact wpAny_pure hQ
  | (cases u <;> first
    | exact wpAny_pure hQ
    | (refine wpAny_bind (wpAny_load ho ?_)
       rw [hc,hd]
       show wpAny M A (if (["enumerate","zip","dict_itemiterator","dict_reverseitemiterator","odict_iterator","itertools.zip_longest","itertools.pairwise"].contains n&&vs[0]?==some (rawInt _))=true then _ else _) Q E s
       rw [if_neg (by intro h;rw [hn,Bool.false_and] at h;cases h)]
       exact wpAny_pure hQ))
def Itl (K:PySem.W.Frag)(a:Addr):It:=
 ⟨fun i H=>∃ xs x,SqL K H a xs/\xs[i]?=some x,fun i H x H'=>H'=H/\∀ xs,SqL K H a xs->xs[i]?=some x,fun i H=>∃ xs,SqL K H a xs/\xs.length<=i⟩
def Itt (K:PySem.W.Frag)(a:Addr):It:=
 ⟨fun i H=>∃ xs x,SqT K H a xs/\xs[i]?=some x,fun i H x H'=>H'=H/\∀ xs,SqT K H a xs->xs[i]?=some x,fun i H=>∃ xs,SqT K H a xs/\xs.length<=i⟩
def Itr (lo:Int)(n:Nat):It:=⟨fun i _=>i<n,fun i H x H'=>H'=H/\x = .int (lo+i),fun i _=>n<=i⟩
theorem ziD {P:Program}{w:World}{K:PySem.W.Frag}{tg:Expr}(a it:Addr):Turn P w K tg (Itl K a) [it] it (fun i h=>h.IsListIter it a i) where
 mem:=by simp
 obj:=fun i h st b hb=>by
  have e:b=it:=by simpa using hb
  subst e
  obtain ⟨o,e,c,d⟩:=st
  exact ⟨o,e,fun v z=>by rw [d] at z;cases z⟩
 keep:=fun i h h' st k=>st.at fun o e=>k it (by simp) o e
 item:=by
  intro X hP hw hK hc i pins s σ H E I hf st hg
  subst hP hw hK
  obtain ⟨xs,x,hq,hx⟩:=hg
  obtain ⟨its,rv,p,hz⟩:=I.list hq
  obtain ⟨u,hu,ru⟩:=rv.get hx
  obtain ⟨f0,f1,f2,f3,f4,f5⟩:=hf it (by simp)
  refine wpAny_pyNext_list_item st p.isList (x:=u) (by simpa using hu) fun h' f sb=>?_
  have I1:Inv X pins σ H { s with heap:=h' }:=I.turned (t':=s.toks) (fun b o hb e=>(sb.2 b hb).trans e) f0 f1 f3 f4 f5
  obtain ⟨o,e,c,d⟩:=id f
  exact ⟨u,rfl,zlB (s:={ s with heap:=h' }) e c d (by decide) ⟨x,H,I1,ru,⟨rfl,fun ys hy=>by rw [I.list_inj hy hq];exact hx⟩,f,fun b hb=>(hf b hb).1⟩⟩
 done:=by
  intro X hP hw hK hc i pins s σ H E I hf st hg
  subst hP hw hK
  obtain ⟨xs,hq,hx⟩:=hg
  obtain ⟨its,rv,p,hz⟩:=I.list hq
  obtain ⟨f0,f1,f2,f3,f4,f5⟩:=hf it (by simp)
  have hl:=rv.length
  exact wpAny_pyNext_list_end (I.ok.hd hc) st p.isList (by simp;lia) fun h' eb=>⟨rfl,I.turned (t':=s.toks) (fun b o hb e=>eb b o hb e) f0 f1 f3 f4 f5⟩
 self:=fun _ _ _ _ _ st h=>wpAny_pyIter_listiter st h
theorem zgk {P:Program}{w:World}{K:PySem.W.Frag}{tg:Expr}(a it:Addr):Turn P w K tg (Itt K a) [it] it (fun i h=>h.IsTupleIter it a i) where
 mem:=by simp
 obj:=fun i h st b hb=>by
  have e:b=it:=by simpa using hb
  subst e
  obtain ⟨o,e,c,d⟩:=st
  exact ⟨o,e,fun v z=>by rw [d] at z;cases z⟩
 keep:=fun i h h' st k=>st.at fun o e=>k it (by simp) o e
 item:=by
  intro X hP hw hK hc i pins s σ H E I hf st hg
  subst hP hw hK
  obtain ⟨xs,x,hq,hx⟩:=hg
  obtain ⟨its,rv,p,hz⟩:=I.tuple hq
  obtain ⟨u,hu,ru⟩:=rv.get hx
  obtain ⟨f0,f1,f2,f3,f4,f5⟩:=hf it (by simp)
  refine wpAny_pyNext_tuple_item st (show s.heap.IsTuple a its.toArray from p) (x:=u) (by simpa using hu) fun h' f sb=>?_
  have I1:Inv X pins σ H { s with heap:=h' }:=I.turned (t':=s.toks) (fun b o hb e=>(sb.2 b hb).trans e) f0 f1 f3 f4 f5
  obtain ⟨o,e,c,d⟩:=id f
  exact ⟨u,rfl,zlB (s:={ s with heap:=h' }) e c d (by decide) ⟨x,H,I1,ru,⟨rfl,fun ys hy=>by rw [I.tuple_inj hy hq];exact hx⟩,f,fun b hb=>(hf b hb).1⟩⟩
 done:=by
  intro X hP hw hK hc i pins s σ H E I hf st hg
  subst hP hw hK
  obtain ⟨xs,hq,hx⟩:=hg
  obtain ⟨its,rv,p,hz⟩:=I.tuple hq
  obtain ⟨f0,f1,f2,f3,f4,f5⟩:=hf it (by simp)
  have hl:=rv.length
  exact wpAny_pyNext_tuple_end (I.ok.hd hc) st (show s.heap.IsTuple a its.toArray from p) (by simp;lia) fun h' eb=>⟨rfl,I.turned (t':=s.toks) (fun b o hb e=>eb b o hb e) f0 f1 f3 f4 f5⟩
 self:=fun _ _ _ _ _ st h=>wpAny_pyIter_tupleiter st h
theorem zgj {P:Program}{w:World}{K:PySem.W.Frag}{tg:Expr}(it:Addr)(lo:Int)(n:Nat):Turn P w K tg (Itr lo n) [it] it (fun i h=>IsRangeIter h it (lo+(i:Nat) * 1) ((n:Int) - (i:Nat)) 1) where
 mem:=by simp
 obj:=fun i h st b hb=>by
  have e:b=it:=by simpa using hb
  subst e
  exact ⟨_,st,fun v z=>by
   have z':Data.fields _=Data.cell v:=z
   cases z'⟩
 keep:=fun i h h' st k=>k it (by simp) _ st
 item:=by
  intro X hP hw hK hc i pins s σ H E I hf st hg
  subst hP hw hK
  obtain ⟨f0,f1,f2,f3,f4,f5⟩:=hf it (by simp)
  have W:=Walks.range (prog:=X.prog) (w:=X.w) (I.ok.hd hc) it lo 1 n
  refine W.item i s _ _ hg st fun v h' tk hv a kk=>?_
  obtain ⟨t,rfl⟩:=hv
  have I1:Inv X pins σ H { s with heap:=h',toks:=tk }:=I.turned (fun b o hb e=>kk b o (by simpa using hb) e) f0 f1 f3 f4 f5
  refine ⟨_,rfl,zlB (s:={ s with heap:=h',toks:=tk }) (n := "range_iterator") a rfl rfl (by decide) ⟨.int (lo+i),H,I1,⟨t,?_⟩,⟨rfl,rfl⟩,a,fun b hb=>(hf b hb).1⟩⟩
  rw [Int.mul_one]
 done:=by
  intro X hP hw hK hc i pins s σ H E I hf st hg
  subst hP hw hK
  obtain ⟨f0,f1,f2,f3,f4,f5⟩:=hf it (by simp)
  exact wpAny_pyNext_range_end (I.ok.hd hc) st (by have:n<=i:=hg;lia) fun h' eb=>⟨rfl,I.turned (t':=s.toks) (fun b o hb e=>eb b o hb e) f0 f1 f3 f4 f5⟩
 self:=fun _ _ _ _ _ st h=>wpAny_pyIter_rangeiter st h
section
variable {X:Cx}{tg:Expr}
def zlE (K:PySem.W.Frag)(tl:TE):TI:=fun σ H R=>tl σ H fun x H1=>∃ a,x = .ref a/\(∃ xs,SqL K H1 a xs)/\R (Itl K a) H1
def zra (K:PySem.W.Frag)(tl:TE):TI:=fun σ H R=>tl σ H fun x H1=>∃ a,x = .ref a/\(∃ xs,SqT K H1 a xs)/\R (Itt K a) H1
theorem zmt {l:Expr}{tl:TE}(hl:PE X l tl):PI X tg l (zlE X.K tl):=by
 intro pins s σ H R I h
 refine thn (hl pins s σ H _ I h) fun v s1 ⟨x,H1,I1,r1,q1⟩=>?_
 obtain ⟨a,e,⟨xs,hq⟩,q⟩:=q1
 subst e
 cases r1
 obtain ⟨its,rv,p,hz⟩:=I1.list hq
 refine wpAny_pyIter_list p.isList ?_
 refine ⟨s1.heap.objs.size,[s1.heap.objs.size],_,_,H1,rfl,I1.kept (t':=s1.toks) fun b o e=>Heap.get?_push_of_some _ e,ziD a _,⟨_,Heap.get?_push_size _ rfl,rfl,rfl⟩,fun b hb=>?_,q⟩
 have e:b=s1.heap.objs.size:=by simpa using hb
 subst e
 exact I1.fpOk (Nat.le_refl _) (I1.hok.fresh (Nat.le_refl _))
theorem zo9 {l:Expr}{tl:TE}(hl:PE X l tl):PI X tg l (zra X.K tl):=by
 intro pins s σ H R I h
 refine thn (hl pins s σ H _ I h) fun v s1 ⟨x,H1,I1,r1,q1⟩=>?_
 obtain ⟨a,e,⟨xs,hq⟩,q⟩:=q1
 subst e
 cases r1
 obtain ⟨its,rv,p,hz⟩:=I1.tuple hq
 refine wpAny_pyIter_tuple (show s1.heap.IsTuple a its.toArray from p) ?_
 refine ⟨s1.heap.objs.size,[s1.heap.objs.size],_,_,H1,rfl,I1.kept (t':=s1.toks) fun b o e=>Heap.get?_push_of_some _ e,zgk a _,⟨_,Heap.get?_push_size _ rfl,rfl,rfl⟩,fun b hb=>?_,q⟩
 have e:b=s1.heap.objs.size:=by simpa using hb
 subst e
 exact I1.fpOk (Nat.le_refl _) (I1.hok.fresh (Nat.le_refl _))
theorem zj7 {pins:List (Addr×Obj)}{σ:St}{H:Hp}{s:Shared}{R:It->Hp->Prop}{E:Value->Shared->Prop}{lo hi:Int}{t u v:Tok}{tk:Nat}(I:Inv X pins σ H s)(h1:-(2 ^ 62)<=lo)(h2:lo<2 ^ 62)(h3:-(2 ^ 62)<=hi)(h4:hi<2 ^ 62)
  (q:R (Itr lo (hi - lo).toNat) H):wpAny (model X.prog X.w) X.A (pyIter (.ref s.heap.objs.size)) (PIE X pins σ tg R) E { s with heap:=s.heap.push { cls:=.type "range",data:=.fields #[.int lo t,.int hi u,.int 1 v] },toks:=tk }:=by
 refine wpAny_pyIter_range (IsRange.new ..) (small_one h1 h2 h3 h4) ?_
 have I1:Inv X pins σ H { s with heap:=s.heap.push { cls:=.type "range",data:=.fields #[.int lo t,.int hi u,.int 1 v] },toks:=tk }:=I.kept fun b o e=>Heap.get?_push_of_some _ e
 refine ⟨(s.heap.push { cls:=.type "range",data:=.fields #[.int lo t,.int hi u,.int 1 v] }).objs.size,[(s.heap.push { cls:=.type "range",data:=.fields #[.int lo t,.int hi u,.int 1 v] }).objs.size],_,_,H,rfl,
  I1.kept (t':=tk) fun b o e=>Heap.get?_push_of_some _ e,zgj _ lo (hi - lo).toNat,?_,fun b hb=>?_,q⟩
 ·have e1:lo+((0:Nat):Int) * 1=lo:=by simp
  have e2:(((hi - lo).toNat:Nat):Int) - ((0:Nat):Int)=Builtin.Range.rangeSize lo hi 1:=by rw [rangeSize_one];split <;> lia
  show IsRangeIter _ _ (lo+((0:Nat):Int) * 1) ((((hi - lo).toNat:Nat):Int) - ((0:Nat):Int)) 1
  rw [e1,e2]
  exact Heap.get?_push_size _ rfl
 ·have e:b=(s.heap.push { cls:=.type "range",data:=.fields #[.int lo t,.int hi u,.int 1 v] }).objs.size:=by simpa using hb
  subst e
  exact I1.fpOk (Nat.le_refl _) (I1.hok.fresh (Nat.le_refl _))
def zoi (ta:TA):TI:=fun σ H R=>ta σ H fun vs H1=>∃ j:Int,vs=[.int j]/\-(2 ^ 62)<=j/\j<2 ^ 62/\R (Itr 0 j.toNat) H1
theorem zh5 {a:Expr}{ta:TA}{p pos:Pos}(hg:Gl X "range")(hm:X.mg "range" = none)(ha:PA X [a] ta)(hs:starEach [a] X.env=[(false,eval a X.env)]:=by rfl):PI X tg (.Call (.Name "range" p) [a] [] pos) (zoi ta):=by
 intro pins s σ H R I h
 refine Call_ (zbR I hg hm boot_range (PyProof.Rows.callWith_type1 (thn (ha pos pins s σ H _ I h) fun us s1 ⟨vs,H1,I1,r1,q1⟩=>?_) hs rfl))
 obtain ⟨j,e,q1,q2,q⟩:=q1
 subst e
 cases r1 with
 | cons r rr=>
  cases rr
  obtain ⟨t,rfl⟩:=r
  exact call_range_1 (zj7 I1 (by lia) (by lia) q1 q2 (by simpa using q))
def zr2 (wi:TI)(g:TG)(tb:TS):TS:=fun D σ H=>wi σ H fun J H1=>∃ W:Nat->Nat->St->Hp->Prop,(∃ m,W 0 m σ H1)/\∀ i m σ H,W i m σ H->
 (J.stop i H/\D.nx σ H)\/(J.go i H/\∃ N:St->Hp->Prop,(∀ σ' H',N σ' H'->∃ m',m'<m/\W (i+1) m' σ' H')/\∀ x H',J.yld i H x H'->g x σ H' fun σ2 H2=>tb { D with nx:=N,ct:=N,bk:=D.nx } σ2 H2)
def x8 (fp:List Addr)(h:Heap):List (Addr×Obj):=fp.filterMap fun b=>(h.get? b).map fun o=>(b,o)
theorem zT {fp:List Addr}{h:Heap}{b:Addr}{o:Obj}(hb:b∈fp)(e:h.get? b=some o):(b,o)∈x8 fp h:=List.mem_filterMap.mpr ⟨b,hb,by rw [e];rfl⟩
theorem zhS {fp:List Addr}{h:Heap}{p:Addr×Obj}(hp:p∈x8 fp h):p.1∈fp/\h.get? p.1=some p.2:=by
 obtain ⟨b,hb,e⟩:=List.mem_filterMap.mp hp
 cases q:h.get? b with
 | none=>rw [q] at e;cases e
 | some o=>
  rw [q] at e
  have e':(b,o)=p:=Option.some.inj e
  subst e'
  exact ⟨hb,q⟩
theorem Inv.pinned {pins:List (Addr×Obj)}{σ:St}{H:Hp}{s:Shared}{fp:List Addr}(I:Inv X pins σ H s)(hf:∀ b∈fp,zdC X pins H b)(ho:∀ b∈fp,∃ o,s.heap.get? b=some o/\∀ v,o.data≠.cell v):Inv X (pins++x8 fp s.heap) σ H s:=
 I.pins_of fun p hp=>(List.mem_append.mp hp).elim (fun z=>I.pin p (List.mem_append_right _ z)) fun z=>by
  obtain ⟨hb,e⟩:=zhS z
  obtain ⟨f0,f1,f2,_⟩:=hf p.1 hb
  obtain ⟨o,e',d⟩:=ho p.1 hb
  rw [e] at e';cases e'
  exact ⟨e,f0,f1,f2,d⟩
theorem Inv.unpinned {pins pl:List (Addr×Obj)}{σ:St}{H:Hp}{s:Shared}(I:Inv X (pins++pl) σ H s):Inv X pins σ H s:=I.pins_of fun p hp=>I.pin p (List.mem_append_right _ (List.mem_append_left _ hp))
theorem zpb {iter:Expr}{body:List Stmt}{wi:TI}{g:TG}{tb:TS}{pos:Pos}(hp:PassesOwn (model X.prog X.w) X.A X.env X.xe)(hc:X.calm=true)(hi:PI X tg iter wi)(hg:PG X tg g)(hb:PSs X body tb)
  (hs:∀ x,foldedSetIterable iter X.env x=pure x:=by intro _;rfl):PS X (.For tg iter body [] pos) (zr2 wi g tb):=by
 intro pins s σ H D I h
 refine wpAny_For (thn (hi pins s σ H _ I h) fun v s1 h1=>thn h1 fun q s2 h2=>?_) hs
 obtain ⟨it,fp,tn,J,H2,e,I2,T,l,f2,W,⟨m0,w0⟩,turn⟩:=h2
 subst e
 have a:∀ {H':Hp},(∀ b∈fp,H' b=none)->∀ b∈fp,zdC X pins H' b:=fun hn b hb=>⟨hn b hb,(f2 b hb).2⟩
 refine codeAny_forLoop_any (fun n s'=>∃ i σ' H',Inv X pins σ' H' s'/\tn i s'.heap/\(∀ b∈fp,H' b=none)/\W i n σ' H') ?_ m0 ⟨0,σ,H2,I2,l,fun b hb=>(f2 b hb).1,w0⟩
 rintro n s3 ⟨i,σ3,H3,I3,j,k,w3⟩
 rcases turn i n σ3 H3 w3 with ⟨stop,qn⟩ | ⟨go,N,hN,step⟩
 ·refine wpAny_passesOwn hp (thn (T.done X rfl rfl rfl hc i pins s3 σ3 H3 X.xe I3 (a k) j stop) fun r s4 ⟨hr,I4⟩=>?_)
  subst hr
  exact wpAny_execs_nil ⟨σ3,H3,I4,qn⟩
 ·refine wpAny_passesOwn hp (thn (T.item X rfl rfl rfl hc i pins s3 σ3 H3 X.xe I3 (a k) j go) fun r s4 ⟨u,hr,h4⟩=>?_)
  subst hr
  refine wpAny_passesOwn hp (thn h4 fun _ s5 ⟨x,H5,I5,r5,y5,c,p⟩=>?_)
  have I5':=I5.pinned (a p) (T.obj _ _ c)
  refine wpAny_passesOwn hp (thn (hg _ s5 σ3 H5 x u _ I5' r5 (step x H5 y5)) fun _ s6 ⟨σ6,H6,I6,q6⟩=>?_)
  refine wpAny_passesOwn hp (thn (hb _ s6 σ6 H6 _ I6 q6) fun f s7 q7=>?_)
  have again:∀ {σ7:St} {H7:Hp},Inv X (pins++x8 fp s5.heap) σ7 H7 s7->N σ7 H7->∃ m,m<n/\∃ i σ' H',Inv X pins σ' H' s7/\tn i s7.heap/\(∀ b∈fp,H' b=none)/\W i m σ' H':=fun {σ7 H7} I7 n7=>by
   obtain ⟨m',hm,w7⟩:=hN σ7 H7 n7
   refine ⟨m',hm,i+1,σ7,H7,I7.unpinned,T.keep _ _ _ c fun b hb o e=>(I7.pin (b,o) (List.mem_append_right _ (List.mem_append_right _ (zT hb e)))).1,fun b hb=>?_,w7⟩
   obtain ⟨o,e,d⟩:=T.obj _ _ c b hb
   exact (I7.pin (b,o) (List.mem_append_right _ (List.mem_append_right _ (zT hb e)))).2.1
  cases f with
  | next=>obtain ⟨σ7,H7,I7,n7⟩:=q7;exact again I7 n7
  | cont=>obtain ⟨σ7,H7,I7,n7⟩:=q7;exact again I7 n7
  | brk=>obtain ⟨σ7,H7,I7,q7⟩:=q7;exact ⟨σ7,H7,I7.unpinned,q7⟩
  | ret v=>obtain ⟨x7,σ7,H7,I7,r7,q7⟩:=q7;exact ⟨x7,σ7,H7,I7.unpinned,r7,q7⟩
end
theorem zje {K:PySem.W.Frag}{a:Addr}{xs:List V}{g:TG}{tb:TS}{D:Ends}{σ:St}{H:Hp}(Pv:Nat->St->Hp->Prop)(h0:Pv 0 σ H)(hl:∀ i σ H,i<=xs.length->Pv i σ H->SqL K H a xs)
  (hs:∀ i x σ H,xs[i]?=some x->Pv i σ H->g x σ H fun σ2 H2=>tb { D with nx:=Pv (i+1),ct:=Pv (i+1),bk:=D.nx } σ2 H2) (hd:∀ σ H,Pv xs.length σ H->D.nx σ H) :
  ∃ W:Nat->Nat->St->Hp->Prop,(∃ m,W 0 m σ H)/\∀ i m σ H,W i m σ H->
   ((Itl K a).stop i H/\D.nx σ H)\/((Itl K a).go i H/\∃ N:St->Hp->Prop,(∀ σ' H',N σ' H'->∃ m',m'<m/\W (i+1) m' σ' H')/\∀ x H',(Itl K a).yld i H x H'->g x σ H' fun σ2 H2=>tb { D with nx:=N,ct:=N,bk:=D.nx } σ2 H2):=by
 refine ⟨fun i m σ H=>m=xs.length - i/\i<=xs.length/\Pv i σ H,⟨xs.length,by simp,Nat.zero_le _,h0⟩,?_⟩
 rintro i m σ H ⟨rfl,hi,p⟩
 have q:=hl i σ H hi p
 by_cases hlt:i<xs.length
 ·refine .inr ⟨⟨xs,xs[i],q,by simp [hlt]⟩,Pv (i+1),fun σ' H' p'=>⟨xs.length - (i+1),by lia,rfl,hlt,p'⟩,fun x H' y=>?_⟩
  obtain ⟨e,y⟩:=y
  subst e
  exact hs i x σ _ (y xs q) p
 ·have e:i=xs.length:=by lia
  subst e
  exact .inl ⟨⟨xs,q,Nat.le_refl _⟩,hd σ H p⟩
abbrev R2:=V->V->Hp->VK->Prop
def OpR (X:Cx)(f:Value->Value->Sem Value)(r:R2):Prop:=
 ∀ (pins:List (Addr×Obj)) (s:Shared) (σ:St) (H:Hp) (x y:V) (v u:Value) (Q:VK),Inv X pins σ H s->yu x v->yu y u->r x y H Q->
  wpAny (model X.prog X.w) X.A (f v u) (EP X pins σ Q) X.xe s
def UnR (X:Cx)(f:Value->Sem Value)(r:V->Hp->VK->Prop):Prop:=
 ∀ (pins:List (Addr×Obj)) (s:Shared) (σ:St) (H:Hp) (x:V) (v:Value) (Q:VK),Inv X pins σ H s->yu x v->r x H Q->
  wpAny (model X.prog X.w) X.A (f v) (EP X pins σ Q) X.xe s
def zcH (X:Cx)(f:Value)(r:List V->Hp->VK->Prop):Prop:=
 ∀ (pins:List (Addr×Obj)) (s:Shared) (σ:St) (H:Hp) (xs:List V) (us:List Value) (Q:VK),Inv X pins σ H s->z0 xs us->r xs H Q->
  wpAny (model X.prog X.w) X.A (call f us) (EP X pins σ Q) X.xe s
def TruR (X:Cx)(r:V->Hp->(Bool->Hp->Prop)->Prop):Prop:=
 ∀ (pins:List (Addr×Obj)) (s:Shared) (σ:St) (H:Hp) (x:V) (v:Value) (Q:Bool->Hp->Prop),Inv X pins σ H s->yu x v->r x H Q->
  wpAny (model X.prog X.w) X.A (truthy v) (TP X pins σ Q) X.xe s
def tOp (r:R2)(ta tb:TE):TE:=fun σ H Q=>ta σ H fun x H1=>tb σ H1 fun y H2=>r x y H2 Q
def tUn (r:V->Hp->VK->Prop)(ta:TE):TE:=fun σ H Q=>ta σ H fun x H1=>r x H1 Q
def rI (C:Int->Int->Prop)(g:Int->Int->V):R2:=fun x y H Q=>∃ i j,x = .int i/\y = .int j/\C i j/\Q (g i j) H
def rI0 (g:Int->Int->V):R2:=fun x y H Q=>∃ i j,x = .int i/\y = .int j/\Q (g i j) H
def rU (g:Int->V):V->Hp->VK->Prop:=fun x H Q=>∃ i,x = .int i/\Q (g i) H
section
variable {X:Cx}{a b c:Expr}{ta tb tc:TE}{pos:Pos}
theorem zqR (ha:PE X a ta)(hb:PE X b tb){pins:List (Addr×Obj)}{s:Shared}{σ:St}{H:Hp}{R:V->V->Hp->Prop}(I:Inv X pins σ H s)
  (h:ta σ H fun x H1=>tb σ H1 fun y H2=>R x y H2) {Q:Value->Shared->Prop} {f:Value->Value->Sem Value}
  (hf:∀ v u s2 x y H2,Inv X pins σ H2 s2->yu x v->yu y u->R x y H2->wpAny (model X.prog X.w) X.A (f v u) Q X.xe s2) :
  wpAny (model X.prog X.w) X.A (eval a X.env) (fun v s₁=>wpAny (model X.prog X.w) X.A (eval b X.env) (fun u s₂=>wpAny (model X.prog X.w) X.A (f v u) Q X.xe s₂) X.xe s₁) X.xe s:=by
 refine thn (ha pins s σ H _ I h) fun v s1 ⟨x,H1,I1,r1,q1⟩=>?_
 refine thn (hb pins s1 σ H1 _ I1 q1) fun u s2 ⟨y,H2,I2,r2,q2⟩=>?_
 exact hf v u s2 x y H2 I2 r1 r2 q2
theorem zrM {op:Operator}{r:R2}(ho:OpR X (binaryOp op) r)(ha:PE X a ta)(hb:PE X b tb):PE X (.BinOp a op b pos) (tOp r ta tb):=by
 intro pins s σ H Q I h
 exact wpAny_BinOp (zqR ha hb I h fun v u s2 x y H2 I2 rx ry q=>ho pins s2 σ H2 x y v u Q I2 rx ry q)
theorem zrN {op:UnaryOp}{r:V->Hp->VK->Prop}(ho:UnR X (unaryOp op) r)(ha:PE X a ta):PE X (.UnaryOp op a pos) (tUn r ta):=by
 intro pins s σ H Q I h
 exact UnaryOp_ (thn (ha pins s σ H _ I h) fun v s1 ⟨x,H1,I1,r1,q1⟩=>ho pins s1 σ H1 x v Q I1 r1 q1)
theorem opI {f:Value->Value->Sem Value}{C:Int->Int->Prop}{g:Int->Int->Int}
  (rule:∀ (i j:Int) (t u:Tok) (s:Shared) (Q:Value->Shared->Prop) (E:Value->Shared->Prop),C i j->Q (.int (g i j) s.toks) { s with toks:=s.toks+1 }->wpAny (model X.prog X.w) X.A (f (.int i t) (.int j u)) Q E s) :
  OpR X f (rI C fun i j=>.int (g i j)):=by
 intro pins s σ H x y v u Q I rx ry h
 obtain ⟨i,j,rfl,rfl,hc,q⟩:=h
 obtain ⟨t,rfl⟩:=rx
 obtain ⟨t',rfl⟩:=ry
 exact rule i j t t' s _ _ hc ⟨.int (g i j),H,I.tok _,⟨_,rfl⟩,q⟩
theorem opI0 {f:Value->Value->Sem Value}{g:Int->Int->Int}
  (rule:∀ (i j:Int) (t u:Tok) (s:Shared) (Q:Value->Shared->Prop) (E:Value->Shared->Prop),Q (.int (g i j) s.toks) { s with toks:=s.toks+1 }->wpAny (model X.prog X.w) X.A (f (.int i t) (.int j u)) Q E s) :
  OpR X f (rI0 fun i j=>.int (g i j)):=by
 intro pins s σ H x y v u Q I rx ry h
 obtain ⟨i,j,rfl,rfl,q⟩:=h
 obtain ⟨t,rfl⟩:=rx
 obtain ⟨t',rfl⟩:=ry
 exact rule i j t t' s _ _ ⟨.int (g i j),H,I.tok _,⟨_,rfl⟩,q⟩
theorem zqy {f:Value->Value->Sem Value}{g:Int->Int->Bool}
  (rule:∀ (i j:Int) (t u:Tok) (s:Shared) (Q:Value->Shared->Prop) (E:Value->Shared->Prop),Q (.bool (g i j)) s->wpAny (model X.prog X.w) X.A (f (.int i t) (.int j u)) Q E s) :
  OpR X f (rI0 fun i j=>.bl (g i j)):=by
 intro pins s σ H x y v u Q I rx ry h
 obtain ⟨i,j,rfl,rfl,q⟩:=h
 obtain ⟨t,rfl⟩:=rx
 obtain ⟨t',rfl⟩:=ry
 exact rule i j t t' s _ _ ⟨.bl (g i j),H,I,rfl,q⟩
def znI (i j:Int):Prop:=0<j/\j<1073741824
def CPow (i j:Int):Prop:=0<=j/\j<=1000000/\i.natAbs<2 ^ 64
def zkl (i j:Int):Prop:=(-(2 ^ 64)<i/\i<2 ^ 64)\/(-(2 ^ 64)<j/\j<2 ^ 64)
theorem zkl.ok {i j:Int}(h:zkl i j):IntMulOk i j:=by
 rcases h with ⟨h1,h2⟩ | ⟨h1,h2⟩
 ·exact .of_left (intBits_le_64 h1 h2)
 ·exact .of_right (intBits_le_64 h1 h2)
theorem zoK:OpR X (binaryOp .Add) (rI0 fun i j=>.int (i+j)):=opI0 fun _ _ _ _ _ _ _ q=>add_int q
theorem zoR:OpR X (binaryOp .Sub) (rI0 fun i j=>.int (i - j)):=opI0 fun _ _ _ _ _ _ _ q=>sub_int q
theorem zoO:OpR X (binaryOp .Mult) (rI zkl fun i j=>.int (i * j)):=opI fun _ _ _ _ _ _ _ hc q=>mul_int q hc.ok
theorem zmg:OpR X (binaryOp .FloorDiv) (rI znI fun i j=>.int (i / j)):=opI fun i j _ _ _ _ _ hc q=>by
 have h1:(0:Int)<j:=hc.1
 have h2:j<1073741824:=hc.2
 exact floordiv_int (by lia) (by rw [Int.fdiv_eq_ediv_of_nonneg i (by lia)];exact q) (.inl (PyProof.noPylong_small (by lia)))
theorem zoN:OpR X (binaryOp .Mod) (rI (fun _ j=>0<j) fun i j=>.int (i % j)):=opI fun i j _ _ _ _ _ hc q=>by
 have h1:(0:Int)<j:=hc
 exact mod_int' (by lia) (by rw [Int.fmod_eq_emod_of_nonneg i (by lia)];exact q)
theorem zoQ:OpR X (binaryOp .Pow) (rI CPow fun i j=>.int (i ^ j.toNat)):=opI fun _ _ _ _ _ _ _ hc q=>pow_int_small hc.1 hc.2.1 hc.2.2 q
theorem unI {f:Value->Sem Value}{g:Int->Int}
  (rule:∀ (i:Int) (t:Tok) (s:Shared) (Q:Value->Shared->Prop) (E:Value->Shared->Prop),Q (.int (g i) s.toks) { s with toks:=s.toks+1 }->wpAny (model X.prog X.w) X.A (f (.int i t)) Q E s) :
  UnR X f (rU fun i=>.int (g i)):=by
 intro pins s σ H x v Q I rx h
 obtain ⟨i,rfl,q⟩:=h
 obtain ⟨t,rfl⟩:=rx
 exact rule i t s _ _ ⟨.int (g i),H,I.tok _,⟨_,rfl⟩,q⟩
theorem zp7:UnR X (unaryOp .USub) (rU fun i=>.int (-i)):=unI fun _ _ _ _ _ q=>neg_int q
end
def zqD:V->V->Bool
 | .non,.non=>true | .non,.int _=>true | .int _,.non=>true | .non,.bl _=>true | .bl _,.non=>true | .non,.str _=>true | .str _,.non=>true
 | .int _,.int _=>true | .bl _,.bl _=>true | .str _,.str _=>true | .byt _,.byt _=>true
 | .int _,.str _=>true | .str _,.int _=>true | .bl _,.str _=>true | .str _,.bl _=>true
 | _,_=>false
def rEq:R2:=fun x y H Q=>zqD x y=true/\Q (.bl (decide (x=y))) H
def rNe:R2:=fun x y H Q=>zqD x y=true/\Q (.bl (!decide (x=y))) H
theorem zgO {i j:Int}:decide (V.int i=V.int j)=(i==j):=by
 rw [Bool.eq_iff_iff]
 simp
theorem zku {i j:Bool}:decide (V.bl i=V.bl j)=(i==j):=by
 rw [Bool.eq_iff_iff]
 simp
theorem zgP {i j:Str}:decide (V.str i=V.str j)=(i==j):=by
 rw [Bool.eq_iff_iff]
 simp
theorem zgN {i j:Array UInt8}:decide (V.byt i=V.byt j)=(i.toList==j.toList):=by
 rw [Bool.eq_iff_iff]
 cases i
 cases j
 simp
section
variable {X:Cx}{a b c:Expr}{ta tb tc:TE}{pos:Pos}
theorem zS {pins:List (Addr×Obj)}{σ:St}{H:Hp}{s:Shared}{Q:VK}{k k':Bool}(I:Inv X pins σ H s)(q:Q (.bl k) H)(e:k=k'):EP X pins σ Q (.bool k') s:=by
 subst e
 exact ⟨.bl k,H,I,rfl,q⟩
theorem zrB:OpR X (compareOp .Eq) rEq:=by
 intro pins s σ H x y v u Q I rx ry h
 obtain ⟨hs,q⟩:=h
 cases x with
 | non=>
  cases rx
  cases y with
  | non=>cases ry;exact PySem.EqNone.eq_none_none (zS I q (by simp))
  | bl j=>cases ry;exact PySem.EqNone.eq_none_bool (zS I q (by simp))
  | int j=>obtain ⟨t',rfl⟩:=ry;exact PySem.EqNone.eq_none_int (zS I q (by simp))
  | str j=>obtain ⟨t',rfl⟩:=ry;exact PySem.EqNone.eq_none_str (zS I q (by simp))
  | _=>exact absurd (show false=true from hs) Bool.false_ne_true
 | bl i=>
  cases rx
  cases y with
  | non=>cases ry;exact PySem.EqNone.eq_bool_none (zS I q (by simp))
  | bl j=>cases ry;exact eq_bool (zS I q zku)
  | str j=>obtain ⟨t',rfl⟩:=ry;exact PySem.EqMixed.eq_bool_str (zS I q (by simp))
  | _=>exact absurd (show false=true from hs) Bool.false_ne_true
 | int i=>
  obtain ⟨t,rfl⟩:=rx
  cases y with
  | non=>cases ry;exact PySem.EqNone.eq_int_none (zS I q (by simp))
  | int j=>obtain ⟨t',rfl⟩:=ry;exact eq_int (zS I q zgO)
  | str j=>obtain ⟨t',rfl⟩:=ry;exact PySem.EqMixed.eq_int_str (zS I q (by simp))
  | _=>exact absurd (show false=true from hs) Bool.false_ne_true
 | str i=>
  obtain ⟨t,rfl⟩:=rx
  cases y with
  | non=>cases ry;exact PySem.EqNone.eq_str_none (zS I q (by simp))
  | bl j=>cases ry;exact PySem.EqMixed.eq_str_bool (zS I q (by simp))
  | int j=>obtain ⟨t',rfl⟩:=ry;exact PySem.EqMixed.eq_str_int (zS I q (by simp))
  | str j=>obtain ⟨t',rfl⟩:=ry;exact eq_str (zS I q zgP)
  | _=>exact absurd (show false=true from hs) Bool.false_ne_true
 | byt i=>
  obtain ⟨t,rfl⟩:=rx
  cases y with
  | byt j=>obtain ⟨t',rfl⟩:=ry;exact PySem.W.eq_bytes (zS I q zgN)
  | _=>exact absurd (show false=true from hs) Bool.false_ne_true
 | _=>cases y <;> exact absurd (show false=true from hs) Bool.false_ne_true
theorem zrG:OpR X (compareOp .NotEq) rNe:=by
 intro pins s σ H x y v u Q I rx ry h
 obtain ⟨hs,q⟩:=h
 cases x with
 | non=>
  cases rx
  cases y with
  | non=>cases ry;exact PySem.EqNone.ne_none_none (zS I q (by simp))
  | bl j=>cases ry;exact PySem.EqNone.ne_none_bool (zS I q (by simp))
  | int j=>obtain ⟨t',rfl⟩:=ry;exact PySem.EqNone.ne_none_int (zS I q (by simp))
  | str j=>obtain ⟨t',rfl⟩:=ry;exact PySem.EqNone.ne_none_str (zS I q (by simp))
  | _=>exact absurd (show false=true from hs) Bool.false_ne_true
 | bl i=>
  cases rx
  cases y with
  | non=>cases ry;exact PySem.EqNone.ne_bool_none (zS I q (by simp))
  | bl j=>cases ry;exact ne_bool (zS I q (congrArg not zku))
  | str j=>obtain ⟨t',rfl⟩:=ry;exact PySem.EqMixed.ne_bool_str (zS I q (by simp))
  | _=>exact absurd (show false=true from hs) Bool.false_ne_true
 | int i=>
  obtain ⟨t,rfl⟩:=rx
  cases y with
  | non=>cases ry;exact PySem.EqNone.ne_int_none (zS I q (by simp))
  | int j=>obtain ⟨t',rfl⟩:=ry;exact ne_int (zS I q (congrArg not zgO))
  | str j=>obtain ⟨t',rfl⟩:=ry;exact PySem.EqMixed.ne_int_str (zS I q (by simp))
  | _=>exact absurd (show false=true from hs) Bool.false_ne_true
 | str i=>
  obtain ⟨t,rfl⟩:=rx
  cases y with
  | non=>cases ry;exact PySem.EqNone.ne_str_none (zS I q (by simp))
  | bl j=>cases ry;exact PySem.EqMixed.ne_str_bool (zS I q (by simp))
  | int j=>obtain ⟨t',rfl⟩:=ry;exact PySem.EqMixed.ne_str_int (zS I q (by simp))
  | str j=>obtain ⟨t',rfl⟩:=ry;exact ne_str (zS I q (congrArg not zgP))
  | _=>exact absurd (show false=true from hs) Bool.false_ne_true
 | byt i=>
  obtain ⟨t,rfl⟩:=rx
  cases y with
  | byt j=>obtain ⟨t',rfl⟩:=ry;exact PySem.W.ne_bytes (zS I q (congrArg not zgN))
  | _=>exact absurd (show false=true from hs) Bool.false_ne_true
 | _=>cases y <;> exact absurd (show false=true from hs) Bool.false_ne_true
theorem zrF:OpR X (compareOp .Lt) (rI0 fun i j=>.bl (decide (i<j))):=zqy fun _ _ _ _ _ _ _ q=>lt_int q
theorem zrE:OpR X (compareOp .LtE) (rI0 fun i j=>.bl (decide (i<=j))):=zqy fun _ _ _ _ _ _ _ q=>le_int q
theorem zrD:OpR X (compareOp .Gt) (rI0 fun i j=>.bl (decide (j<i))):=zqy fun _ _ _ _ _ _ _ q=>gt_int q
theorem zrC:OpR X (compareOp .GtE) (rI0 fun i j=>.bl (decide (j<=i))):=zqy fun _ _ _ _ _ _ _ q=>ge_int q
theorem zx (b:Expr){op:CmpOp}(h:op≠.In:=by decide)(h2:op≠.NotIn:=by decide):behindInMarks op b=false:=by
 have e1:(op==CmpOp.In)=false:=by cases op <;> first | rfl | exact absurd rfl h
 have e2:(op==CmpOp.NotIn)=false:=by cases op <;> first | rfl | exact absurd rfl h2
 cases b <;> simp [behindInMarks,e1,e2]
theorem zmj {op:CmpOp}{r:R2}(ho:OpR X (compareOp op) r)(ha:PE X a ta)(hb:PE X b tb)(hm:behindInMarks op b=false):PE X (.Compare a [op] [b] pos) (tOp r ta tb):=by
 intro pins s σ H Q I h
 exact wpAny_Compare1 (zqR ha hb I h fun v u s2 x y H2 I2 rx ry q=>ho pins s2 σ H2 x y v u Q I2 rx ry q) hm
def znp (t:TE):TT:=fun σ H Q=>t σ H fun x H'=>∃ k,x = .bl k/\Q k H'
theorem zmE {op:CmpOp}{r:R2}(ho:OpR X (compareOp op) r)(ha:PE X a ta)(hb:PE X b tb)(hm:behindInMarks op b=false):PT X (.Compare a [op] [b] pos) (znp (tOp r ta tb)):=by
 intro pins s σ H Q I h
 refine wpAny_isTrue_Compare1 (thn (ha pins s σ H _ I h) fun v s1 ⟨x,H1,I1,r1,q1⟩=>thn (hb pins s1 σ H1 _ I1 q1) fun u s2 ⟨y,H2,I2,r2,q2⟩=>
  thn (ho pins s2 σ H2 x y v u _ I2 r1 r2 q2) fun c s3 ⟨z,H3,I3,r3,k,e,q3⟩=>?_) hm
 subst e
 cases r3
 exact wpAny_truthy_bool ⟨H3,I3,q3⟩
def zqO (K:PySem.W.Frag)(x:V)(H:Hp)(k:Bool):Prop:=
 match x with
 | .non=>k=false
 | .bl b=>k=b
 | .int i=>k=(i != 0)
 | .str y=>y.length<=sizeLine/\k=((y.length:Int) != 0)
 | .byt y=>y.size<=sizeLine/\k=((y.size:Int) != 0)
 | .ref p=>(∃ xs,SqL K H p xs/\k = !xs.isEmpty)\/(∃ xs,SqT K H p xs/\k = !xs.isEmpty)\/∃ kvs,H p=some (.dK kvs)/\k = !kvs.isEmpty
 | _=>False
theorem zf0 {κ:Type}{kvs:List (κ×V)}{vs:List (κ×Value)}(r:KV kvs vs):(!vs.isEmpty) = !kvs.isEmpty:=by
 cases r <;> rfl
theorem zcv {xs:List V}{its:List Value}(r:z0 xs its):(!its.toArray.isEmpty) = !xs.isEmpty:=by
 cases r <;> simp
theorem zd1:(sizeLine:Nat)<2 ^ 63:=by rw [sizeLine_eq];decide
theorem zp2:TruR X (fun x H Q=>∃ k,zqO X.K x H k/\Q k H):=by
 intro pins s σ H x v Q I rx h
 obtain ⟨k,e,q⟩:=h
 have hl:=zd1
 have hs:sizeLine=16777216:=sizeLine_eq
 cases x with
 | non=>
  cases rx
  have e':k=false:=e
  subst e'
  exact truthy_none ⟨H,I,q⟩
 | bl b=>
  cases rx
  have e':k=b:=e
  subst e'
  exact wpAny_truthy_bool ⟨H,I,q⟩
 | int i=>
  obtain ⟨t,rfl⟩:=rx
  have e':k=(i != 0):=e
  subst e'
  exact PySem.P.truthy_int ⟨H,I,q⟩
 | str y=>
  obtain ⟨t,rfl⟩:=rx
  obtain ⟨hy,e'⟩:y.length<=sizeLine/\k=((y.length:Int) != 0):=e
  subst e'
  exact PySem.P.truthy_str (by lia) ⟨H,I.tok _,q⟩
 | byt y=>
  obtain ⟨t,rfl⟩:=rx
  obtain ⟨hy,e'⟩:y.size<=sizeLine/\k=((y.size:Int) != 0):=e
  subst e'
  exact PySem.W.truthy_bytes (by lia) ⟨H,I.tok _,q⟩
 | ref p=>
  cases rx
  have e':(∃ xs,SqL X.K H p xs/\k = !xs.isEmpty)\/(∃ xs,SqT X.K H p xs/\k = !xs.isEmpty)\/∃ a,H p=some (.dK a)/\k = !a.isEmpty:=e
  rcases e' with ⟨xs,hx,e'⟩ | ⟨xs,hx,e'⟩ | ⟨a,hx,e'⟩
  ·subst e'
   obtain ⟨its,r,pl,hz⟩:=I.list hx
   have hlen:=r.length
   exact wpAny_truthy_list pl.isList (by simp only [List.size_toArray];lia) ⟨H,I.tok _,by rw [zcv r];exact q⟩
  ·subst e'
   obtain ⟨its,r,pl,hz⟩:=I.tuple hx
   have hlen:=r.length
   exact truthy_tuple pl (by simp only [List.size_toArray];lia) ⟨H,I.tok _,by rw [zcv r];exact q⟩
  ·subst e'
   obtain ⟨hz,hS,vs,r,m⟩:a.length<=sizeLine/\(p==sysModules)=false/\∃ vs,KV a vs/\s.heap.DictOf (zL X.prog X.w) p vs:=I.hok p _ hx
   have hlen:a.length=vs.length:=Paired.length r
   exact wpAny_truthy_dict hS m (by lia) ⟨H,I.tok _,by rw [zf0 r];exact q⟩
 | _=>exact (show False from e).elim
theorem zjY (ha:PE X a ta)(he:∀ whole,isTrue a X.env whole=(do let v <- whole;standAt a.pos;holding [v] (truthy v))) :
  PT X a (fun σ H Q=>ta σ H fun x H'=>∃ k,zqO X.K x H' k/\Q k H'):=by
 intro pins s σ H Q I h
 exact isTrue_plain (thn (ha pins s σ H _ I h) fun v s1 ⟨x,H1,I1,r1,q1⟩=>zp2 pins s1 σ H1 x v Q I1 r1 q1) (he _)
theorem zaU {x:V}{us:List Value}(r:z0 [x] us):∃ u,us=[u]/\yu x u:=by
 cases r with
 | cons r1 r2=>cases r2;exact ⟨_,rfl,r1⟩
theorem zsg {x y:V}{us:List Value}(r:z0 [x,y] us):∃ u w',us=[u,w']/\yu x u/\yu y w':=by
 cases r with
 | cons r1 r2=>
  cases r2 with
  | cons r3 r4=>cases r4;exact ⟨_,_,rfl,r1,r3⟩
theorem ziR:zcH X (.builtin "abs") (fun xs H Q=>∃ i,xs=[.int i]/\Q (.int (if i<0 then -i else i)) H):=by
 intro pins s σ H xs us Q I r h
 obtain ⟨i,rfl,q⟩:=h
 obtain ⟨u,rfl,t,rfl⟩:=zaU r
 exact call_abs_int fun u tk=>⟨.int (if i<0 then -i else i),H,I.tok _,⟨_,rfl⟩,q⟩
theorem zgx:zcH X (.type "int") (fun xs H Q=>(∃ i,xs=[.int i]/\Q (.int i) H)\/∃ k,xs=[.bl k]/\Q (.int (if k then 1 else 0)) H):=by
 intro pins s σ H xs us Q I r h
 rcases h with ⟨i,rfl,q⟩ | ⟨k,rfl,q⟩
 ·obtain ⟨u,rfl,t,rfl⟩:=zaU r
  exact call_int_int ⟨.int i,H,I,⟨_,rfl⟩,q⟩
 ·obtain ⟨u,rfl,r1⟩:=zaU r
  cases r1
  exact call_int_bool ⟨.int (if k then 1 else 0),H,I.tok _,⟨_,rfl⟩,q⟩
def zqj (K:PySem.W.Frag)(x:V)(H:Hp)(n:Nat):Prop:=
 match x with
 | .str y=>y.length<=sizeLine/\n=y.length
 | .byt y=>y.size<=sizeLine/\n=y.size
 | .ref p=>(∃ xs,SqL K H p xs/\n=xs.length)\/∃ xs,SqT K H p xs/\n=xs.length
 | _=>False
theorem ziS:zcH X (.builtin "len") (fun xs H Q=>∃ x n,xs=[x]/\zqj X.K x H n/\Q (.int n) H):=by
 intro pins s σ H xs us Q I r h
 obtain ⟨x,n,rfl,e,q⟩:=h
 obtain ⟨u,rfl,rx⟩:=zaU r
 have hl:=zd1
 have hs:sizeLine=16777216:=sizeLine_eq
 cases x with
 | str y=>
  obtain ⟨t,rfl⟩:=rx
  obtain ⟨hy,e'⟩:y.length<=sizeLine/\n=y.length:=e
  subst e'
  exact len_str (by lia) ⟨.int _,H,I.tok _,⟨_,rfl⟩,q⟩
 | byt y=>
  obtain ⟨t,rfl⟩:=rx
  obtain ⟨hy,e'⟩:y.size<=sizeLine/\n=y.size:=e
  subst e'
  exact PySem.W.len_bytes (by lia) ⟨.int _,H,I.tok _,⟨_,rfl⟩,q⟩
 | ref p=>
  cases rx
  have e':(∃ xs,SqL X.K H p xs/\n=xs.length)\/∃ xs,SqT X.K H p xs/\n=xs.length:=e
  rcases e' with ⟨xs,hx,e'⟩ | ⟨xs,hx,e'⟩
  ·subst e'
   obtain ⟨its,r',pl,hz⟩:=I.list hx
   have hlen:=r'.length
   exact Calls.call_len_list pl.isList (by simp only [List.size_toArray];lia) ⟨.int xs.length,H,I.tok _,⟨_,by simp only [List.size_toArray];rw [hlen]⟩,q⟩
  ·subst e'
   obtain ⟨its,r',pl,hz⟩:=I.tuple hx
   have hlen:=r'.length
   exact len_tuple pl (by simp only [List.size_toArray];lia) ⟨.int xs.length,H,I.tok _,⟨_,by simp only [List.size_toArray];rw [hlen]⟩,q⟩
 | _=>exact (show False from e).elim
end
structure ObjM (h:Heap)(x dx C:Addr)(mA:Str->Option Value):Prop where
 obj:h.get? x=some (PySem.W.instObj C dx)
 ns:h.Ns1 dx mA
 ne:dx≠x
theorem zhz {h:Heap}{dx:Addr}{mA:Str->Option Value}(n:h.Ns1 dx mA):∃ od,h.get? dx=some od/\∀ name,PySem.W.lookIn name od=some (mA name):=by
 obtain ⟨o,es,ep,ho,hd,hk,_,hm⟩:=n
 refine ⟨o,ho,fun name=>?_⟩
 have e:=hm name
 unfold nsFind findBy at e
 rw [<- Array.find?_toList] at e
 unfold PySem.W.lookIn
 rw [hd]
 dsimp only
 split
 ·rename_i y q
  rw [q] at e
  exact congrArg some e
 ·rename_i q
  rw [q] at e
  have a:es.toList.any (·.refKey)=false:=by
   rw [List.any_eq_false]
   intro y hy
   obtain ⟨z,t,b⟩:=hk y (Array.mem_toList_iff.mp hy)
   simp [DictEntry.refKey,b]
  have a':¬ es.toList.any (·.refKey)=true:=by rw [a];exact Bool.false_ne_true
  rw [if_neg a']
  exact congrArg some e
theorem ObjM.look {h:Heap}{x dx C:Addr}{mA:Str->Option Value}(I:ObjM h x dx C mA):∃ od,PySem.W.InstAt h x (PySem.W.instObj C dx) C (some od)/\∀ name,PySem.W.lookIn name od=some (mA name):=
 let ⟨od,ho,hl⟩:=zhz I.ns
 ⟨od,⟨I.obj,rfl,rfl,ho⟩,hl⟩
section
variable {prog:Program}{w:World}{A:Around}{E:Value->Shared->Prop}{s:Shared}{K:PySem.W.Frag}{x dx C f:Addr}{mA:Str->Option Value}{name:Str}{v:Value}
end
theorem zgq.some_of {v:V}{o:Option Value}(r:zgq (some v) o):∃ u,o=some u/\yu v u:=by
 cases o with
 | none=>exact (show False from r).elim
 | some u=>exact ⟨u,rfl,r⟩
section
variable {P:Program}{w:World}{H H':Hp}{h h':Heap}{a C dx:Addr}{fs fs':List (Str×V)}
theorem zlG (hok:HOk P w H h)(e:H a=some (.ins C dx fs)):∃ mA,ObjM h a dx C mA/\(∀ f,zgq (fs.lookup f) (mA f))/\PySem.Within mA (fs.map (·.1))/\fs.length<=1000/\H dx=some (.own a):=by
 obtain ⟨d,z,ne,ob,mA,n,r,q⟩:=(show yh P w H h a (.ins C dx fs) from hok a _ e)
 exact ⟨mA,⟨ob,n,ne⟩,r,q,z,d⟩
end
structure Cls (K:PySem.W.Frag)(C:Addr):Prop where
 pg:PySem.W.plainGet K C Str.empty=true
 hd:PySem.W.hasDictIn K C=true
 po:PySem.W.plainOver K C=true
 sa:PySem.W.findIn K (.ref C) "__setattr__" = some (some (.builtin "object.__setattr__"))
theorem Cls.get {K:PySem.W.Frag}{C:Addr}(c:Cls K C)(f:Str):PySem.W.plainGet K C f=true:=c.pg
section
variable {X:Cx}{pins:List (Addr×Obj)}{σ:St}{H:Hp}{s:Shared}{a C dx:Addr}{fs:List (Str×V)}{f:Str}{v:V}{A:Around}{E:Value->Shared->Prop}
end
section
variable {X:Cx}{o e value:Expr}{f:Str}{pos pos' tpos:Pos}{ta tv:TE}
end
section
variable {X:Cx}{pins:List (Addr×Obj)}{σ:St}{H:Hp}{s:Shared}{A:Around}{E:Value->Shared->Prop}{Q:Value->Shared->Prop}{c:Value}{b:Bool}
inductive TyOf (K:PySem.W.Frag) (H:Hp):V->Value->Prop where
 | non:TyOf K H .non (.type "NoneType")
 | bl (x:Bool):TyOf K H (.bl x) (.type "bool")
 | int (i:Int):TyOf K H (.int i) (.type "int")
 | str (x:Str):TyOf K H (.str x) (.type "str")
 | flt (x:UInt64):TyOf K H (.flt x) (.type "float")
 | lst {a:Addr} {xs:List V} (e:H a=some (.lst xs)):TyOf K H (.ref a) (.type "list")
 | frz {a:Addr} {o:Obj} {xs:List V} (e:H a=some (.frz o (.lst xs))):TyOf K H (.ref a) (.type "list")
 | tup {a:Addr} {xs:List V} (e:H a=some (.tup xs)):TyOf K H (.ref a) (.type "tuple")
 | dK {a:Addr} {kvs:List (Key×V)} (e:H a=some (.dK kvs)):TyOf K H (.ref a) (.type "dict")
 | dT {a:Addr} {kvs:List (List Key×V)} (e:H a=some (.dT kvs)):TyOf K H (.ref a) (.type "dict")
 | ins {a C dx:Addr} {fs:List (Str×V)} (e:H a=some (.ins C dx fs)) (cl:Cls K C) (ha:PySem.W.findIn K (.ref C) "__class__" = some (some (.builtin "object.__class__")))
   (hn:PySem.W.specialIn K (.builtin "object.__class__") "__get__" = some (some (.builtin "getset_descriptor.__get__"))) (htk:PySem.W.takesIn K (.builtin "object.__class__")=some true)
   (hm:PySem.W.mroIn K C (.type "object")=some true):TyOf K H (.ref a) (.ref C)
theorem zhf {x:V}{u t:Value}(I:Inv X pins σ H s)(rx:yu x u)(ty:TyOf X.K H x t)(e:PySem.W.kitOne X.K t c=some b)(h:∀ tk,Q (.bool b) { s with toks:=tk }) :
  wpAny (model X.prog X.w) A (call (.builtin "isinstance") [u,c]) Q E s:=by
 cases ty with
 | non=>cases (show u=Value.none from rx);exact PySem.W.kia_one PySem.W.kitx_none I.kIn True.intro e (fun z=>nomatch z) h
 | bl y=>cases (show u=Value.bool y from rx);exact PySem.W.kia_one PySem.W.kitx_bool I.kIn True.intro e (fun z=>nomatch z) h
 | int i=>obtain ⟨t,q⟩:=(show ∃ t,u=Value.int i t from rx);cases q;exact PySem.W.kia_one PySem.W.kitx_int I.kIn True.intro e (fun z=>nomatch z) h
 | str y=>obtain ⟨t,q⟩:=(show ∃ t,u=Value.str y t from rx);cases q;exact PySem.W.kia_one PySem.W.kitx_str I.kIn True.intro e (fun z=>nomatch z) h
 | flt y=>obtain ⟨t,q⟩:=(show ∃ t,u=Value.float y t from rx);cases q;exact PySem.W.kia_one PySem.W.kitx_float I.kIn True.intro e (fun z=>nomatch z) h
 | @lst a xs ea=>
  cases (show u=Value.ref a from rx)
  obtain ⟨_,_,n,_,h1⟩:=(show yh X.prog X.w H s.heap a (.lst xs) from I.hok a _ ea)
  exact PySem.W.kia_one PySem.W.kitx_list I.kIn ⟨_,h1,rfl⟩ e (fun z=>nomatch z) h
 | @frz a ob xs ea=>
  cases (show u=Value.ref a from rx)
  obtain ⟨_,_,_,n,_,h1⟩:=(show yh X.prog X.w H s.heap a (.frz ob (.lst xs)) from I.hok a _ ea)
  exact PySem.W.kia_one PySem.W.kitx_list I.kIn ⟨_,h1,rfl⟩ e (fun z=>nomatch z) h
 | @tup a xs ea=>
  cases (show u=Value.ref a from rx)
  obtain ⟨_,_,_,p⟩:=(show yh X.prog X.w H s.heap a (.tup xs) from I.hok a _ ea)
  obtain ⟨o,h1,h2,_⟩:=p
  exact PySem.W.kia_one PySem.W.kitx_tuple I.kIn ⟨o,h1,h2⟩ e (fun z=>nomatch z) h
 | @dK a kvs ea=>
  cases (show u=Value.ref a from rx)
  obtain ⟨_,_,vs,_,p⟩:=(show yh X.prog X.w H s.heap a (.dK kvs) from I.hok a _ ea)
  obtain ⟨o,es,ep,h1,h2,_⟩:=p
  exact PySem.W.kia_one PySem.W.kitx_dict I.kIn ⟨o,h1,h2.1⟩ e (fun z=>nomatch z) h
 | @dT a kvs ea=>
  cases (show u=Value.ref a from rx)
  obtain ⟨_,_,xs,_,o,es,ep,h1,h2,_⟩:=(show yh X.prog X.w H s.heap a (.dT kvs) from I.hok a _ ea)
  exact PySem.W.kia_one PySem.W.kitx_dict I.kIn ⟨o,h1,h2.1⟩ e (fun z=>nomatch z) h
 | @ins a C dx fs ea cl ha hn htk hm=>
  cases (show u=Value.ref a from rx)
  obtain ⟨mA,O,_⟩:=zlG I.hok ea
  obtain ⟨od,J,_⟩:=O.look
  exact PySem.W.kia_one (PySem.W.kitx_own (cl.get _) cl.hd ha hn htk hm) I.kIn J e (fun z=>nomatch z) h
end
structure Room (k:Nat)(A:Around):Prop where
 hd:A.handled=none
 dp:A.depth+3 * k+5<recursionLimit
 un:A.units+16 * k+200<cLine
theorem Room.mono {j k:Nat}{A:Around}(r:Room k A)(h:j<=k):Room j A:=⟨r.hd,by have:=r.dp;lia,by have:=r.un;lia⟩
theorem Room.deeper {k:Nat}{A:Around}(r:Room (k+1) A)(env:Env):Room k (A.deeper env):=
 ⟨r.hd,by have:=r.dp;show A.depth+1+3 * k+5<_;lia,by have:=r.un;show A.units+3+16 * k+200<_;lia⟩
theorem Room.depth {k:Nat}{A:Around}(r:Room k A):A.depth<recursionLimit:=by have:=r.dp;lia
theorem Room.units {k:Nat}{A:Around}(r:Room k A):A.units+64<cLine:=by have:=r.un;lia
def znn:TA:=fun _ H Q=>Q [] H
def zeg (ta:TE)(tr:TA):TA:=fun σ H Q=>ta σ H fun x H1=>tr σ H1 fun xs H2=>Q (x::xs) H2
section
variable {X:Cx}{e:Expr}{es:List Expr}{te:TE}{t:TA}{pos:Pos}
theorem zoU:PA X [] znn:=fun _ _ _ _ H Q I h=>Calls.spliced_nil ⟨[],H,I,.nil,h⟩
theorem zmh (ha:PE X e te)(hr:PA X es t)(hs:starEach (e::es) X.env=(false,eval e X.env)::starEach es X.env:=by rfl):PA X (e::es) (zeg te t):=by
 intro pos pins s σ H Q I h
 rw [hs]
 show wpAny _ _ (spliced ((false,eval e X.env)::backTo pos (starEach es X.env))) _ _ s
 refine Calls.spliced_cons (thn (ha pins s σ H _ I h) fun u s1 ⟨x,H1,I1,r1,q1⟩=>?_)
 exact thn (hr pos pins s1 σ H1 _ I1 q1) fun us s2 ⟨xs,H2,I2,r2,q2⟩=>⟨x::xs,H2,I2,.cons r1 r2,q2⟩
end
abbrev Sp:=List V->Hp->VK->XK->Prop
abbrev CXT:=List Env->Hp->Shared->XK->Value->Shared->Prop
structure Env0 (P:Program)(w:World)(K:PySem.W.Frag)(mg:Str->Option Value)(base:Heap)(A:Around)(outer:List Env)(s:Shared)(H:Hp):Prop where
 frames:A.frames=some outer
 mod:Mod K mg base
 bs:∀ b o,base.get? b=some o->s.heap.get? b=some o/\H b=none
 bsz:base.objs.size<=s.heap.objs.size
 funs:s.heap.FunFrames base outer
 frf:∀ b∈frs outer,H b=none
 hok:HOk P w H s.heap
 bare:AllBare s.gens
def CE (outer:List Env)(P:Program)(w:World)(H:Hp)(s:Shared)(Q:VK)(u:Value)(s':Shared):Prop:=
 ∃ v H',s'.os=s.os/\AllBare s'.gens/\Un (frs outer) [] H H' s.heap s'.heap/\HOk P w H' s'.heap/\yu v u/\Q v H'
def CR (CX:CXT)(outer:List Env)(P:Program)(w:World)(H:Hp)(s:Shared)(Q:VK)(E:XK)(r:Result)(s':Shared):Prop:=
 match r with
 | .ok (.ret u)=>CE outer P w H s Q u s'
 | .ok _=>False
 | .error e=>CX outer H s E e s'
structure FnOk (P:Program)(w:World)(K:PySem.W.Frag)(mg:Str->Option Value)(base:Heap)(CX:CXT)(k:Nat)(f:Addr)(fd:FuncData)(ps:List Str)(sp:Sp):Prop where
 len:∀ vs H Q E,sp vs H Q E->vs.length=ps.length
 run:∀ (A:Around) (outer:List Env) (s:Shared) (H:Hp) (args:Args) (us:List Value) (vs:List V) (Q:VK) (E:XK),Room k A->Env0 P w K mg base A outer s H->BindsTo s fd args (ps.zip us)->z0 vs us->sp vs H Q E->
  codeAny (model P w) A (.call (.ref f) args) (CR CX outer P w H s Q E) s
theorem FnOk.mono {P:Program}{w:World}{K:PySem.W.Frag}{mg:Str->Option Value}{base:Heap}{CX:CXT}{j k:Nat}{f:Addr}{fd:FuncData}{ps:List Str}{sp:Sp}(F:FnOk P w K mg base CX j f fd ps sp)(h:j<=k) :
  FnOk P w K mg base CX k f fd ps sp:=⟨F.len,fun A outer s H args us vs Q E hr=>F.run A outer s H args us vs Q E (hr.mono h)⟩
theorem FnOk.imp {P:Program}{w:World}{K:PySem.W.Frag}{mg:Str->Option Value}{base:Heap}{CX:CXT}{k:Nat}{f:Addr}{fd:FuncData}{ps:List Str}{sp sp':Sp}(F:FnOk P w K mg base CX k f fd ps sp)
  (h:∀ vs H Q E,sp' vs H Q E->sp vs H Q E):FnOk P w K mg base CX k f fd ps sp':=
 ⟨fun vs H Q E q=>F.len vs H Q E (h _ _ _ _ q),fun A outer s H args us vs Q E hr he hb hv hs=>F.run A outer s H args us vs Q E hr he hb hv (h _ _ _ _ hs)⟩
section
variable {X:Cx}{pins:List (Addr×Obj)}{σ:St}{H:Hp}{s s':Shared}
theorem Inv.env0 (I:Inv X pins σ H s):Env0 X.prog X.w X.K X.mg X.base X.A X.stack s H:=
 ⟨I.ok.frames,I.ok.mod,I.bs,Nat.le_trans I.ok.bsz I.sz,I.stack,I.stkFree,I.hok,I.bare⟩
theorem Inv.after {Q:VK}{u:Value}(I:Inv X pins σ H s)(h:CE X.stack X.prog X.w H s Q u s'):EP X pins σ Q u s':=by
 obtain ⟨v,H',os,bare,un,hok,r,q⟩:=h
 obtain ⟨hh,g,d,t,a⟩:=s'
 obtain rfl:a=s.os:=os
 exact ⟨v,H',I.call (h':=hh) (g':=g) (d':=d) (t':=t) (ch:=[]) un hok bare (fun b z=>absurd z (by simp)),r,q⟩
end
def zef (sp:Sp)(dvs:List V)(E:XK)(t:TA):TE:=fun σ H Q=>t σ H fun vs H1=>sp (vs++dvs) H1 Q E
def zcG (K:PySem.W.Frag)(fd:FuncData)(ps:List Str)(ds:List Value):Prop:=
 ∀ (s:Shared) (us:List Value),K.In s.heap->(us++ds).length=ps.length->BindsTo s fd ⟨us,[]⟩ (ps.zip (us++ds))
theorem zcG.all {K:PySem.W.Frag}{fd:FuncData}{ps:List Str}(h:∀ us:List Value,us.length=ps.length->bindArgs fd ⟨us,[]⟩=pure (ps.zip us)):zcG K fd ps []:=fun s us _ hl=>by
 rw [List.append_nil] at hl ⊢
 exact .of_eq (h us hl)
def zgp (CX:CXT)(X:Cx)(E:XK):Prop:=∀ (pins:List (Addr×Obj)) (σ:St) (H:Hp) (s:Shared) (e:Value) (s':Shared),Inv X pins σ H s->CX X.stack H s E e s'->X.xe e s'
section
variable {X:Cx}{CX:CXT}{k:Nat}{f C:Addr}{fd:FuncData}{ps:List Str}{sp:Sp}{dvs:List V}{ds:List Value}{E:XK}{x m:Str}{p pos apos:Pos}{e o:Expr}{es:List Expr}{ta:TE}{t:TA}
theorem zpP {pins:List (Addr×Obj)}{σ:St}{H:Hp}{s:Shared}{Q:VK}{us:List Value}{vs:List V}(F:FnOk X.prog X.w X.K X.mg X.base CX k f fd ps sp)(hr:Room k X.A)(hb:zcG X.K fd ps ds)(hd:z0 dvs ds)(hx:zgp CX X E)
  (I:Inv X pins σ H s) (r:z0 vs us) (h:sp (vs++dvs) H Q E):wpAny (model X.prog X.w) X.A (call (.ref f) us) (EP X pins σ Q) X.xe s:=by
 have r2:z0 (vs++dvs) (us++ds):=r.append hd
 have hl:(us++ds).length=ps.length:=by rw [<- r2.length];exact F.len _ _ _ _ h
 refine wpAny_call (codeAny_mono (F.run X.A X.stack s H ⟨us,[]⟩ (us++ds) (vs++dvs) Q E hr I.env0 (hb s us I.kIn hl) r2 h) fun r s' hq=>?_)
 cases r with
 | error e=>exact hx pins σ H s e s' I hq
 | ok fl=>
  cases fl with
  | ret u=>exact I.after hq
  | next=>exact False.elim hq
  | brk=>exact False.elim hq
  | cont=>exact False.elim hq
theorem zh2 (F:FnOk X.prog X.w X.K X.mg X.base CX k f fd ps sp)(hr:Room k X.A)(hg:Gl X x)(hm:X.mg x=some (.ref f))(hk:PySem.W.keepIn X.K (.ref f)=true)(hb:zcG X.K fd ps ds)(hd:z0 dvs ds)(hx:zgp CX X E)
  (ha:PA X (e::es) t) (hdb:(x==("__debug__" : Str))=false:=by decide) (he:starEach (e::es) X.env=(false,eval e X.env)::starEach es X.env:=by rfl) (hpl:(backTo pos (starEach es X.env)).any (·.1)=false:=by rfl) :
  PE X (.Call (.Name x p) (e::es) [] pos) (zef sp dvs E t):=by
 intro pins s σ H Q I h
 refine wpAny_Call_Name_kw (zlW I hg hm ?_ hdb)
 refine PySem.W.callWith_K (h₀:=X.base) I.ok.mod.kin hk (thn (ha pos pins s σ H _ I h) fun us s1 ⟨vs,H1,I1,r,q⟩=>⟨I1.kIn,?_⟩) he hpl
 exact zpP F hr hb hd hx I1 r q
end
section
variable {X:Cx}{CX:CXT}{k:Nat}{f C:Addr}{fd:FuncData}{ps ks:List Str}{sp:Sp}{E:XK}{x m:Str}{p pos apos kpos:Pos}{e o:Expr}{es:List Expr}{kws:List Keyword}{te ta:TE}{t tk:TA}{nm:Option Str}
variable {g:List Value->List Value->List Value}{gV:List V->List V->List V}
end
structure FnScope (N P:List Str)(sc:Scope):Prop where
 kind:sc.kind = .function
 co:sc.isCoroutine=false
 gen:sc.isGenerator=false
 nd:N.Nodup
 pre:N.take P.length=P
 par:∀ x∈P,sc.names.lookup x=some .local\/sc.names.lookup x=some .cell
 nofree:∀ y∈sc.names,y.2≠.free
theorem zdJ {kindOf:Str->Option NameKind}{x:Str}:∀ {binds:List (Str×Value)} {m:Str->Option Value},(∀ v,(x,v)∉binds)->bindL kindOf binds m x=m x
 | [],_,_=>rfl
 | (n,v)::r,m,h=>by
  unfold bindL
  rw [zdJ fun w hw=>h w (List.mem_cons_of_mem _ hw)]
  split
  ·have:x≠n:=by rintro rfl;exact h v List.mem_cons_self
   simp [this]
  ·rfl
theorem zdH {kindOf:Str->Option NameKind}{x:Str}:∀ {binds:List (Str×Value)} {m:Str->Option Value},(∀ v,(x,v)∉binds)->bindC kindOf binds m x=m x
 | [],_,_=>rfl
 | (n,v)::r,m,h=>by
  unfold bindC
  rw [zdH fun w hw=>h w (List.mem_cons_of_mem _ hw)]
  split
  ·rfl
  ·have:x≠n:=by rintro rfl;exact h v List.mem_cons_self
   simp [this]
theorem zdI {kindOf:Str->Option NameKind}{x:Str}{v:Value}:∀ {P:List Str} {vs:List Value} {i:Nat} {m:Str->Option Value},P.Nodup->P[i]?=some x->vs[i]?=some v->kindOf x=some .local->
  bindL kindOf (P.zip vs) m x=some v
 | [],_,_,_,_,h,_,_=>by simp at h
 | _::_,[],_,_,_,_,h,_=>by simp at h
 | p::P,w::vs,0,m,nd,h1,h2,hk=>by
  simp at h1 h2;subst h1;subst h2
  show bindL kindOf ((p,w)::P.zip vs) m p=_
  unfold bindL
  rw [zdJ fun v hv=>(List.nodup_cons.mp nd).1 (List.of_mem_zip hv).1,if_pos hk]
  simp
 | p::P,w::vs,i+1,m,nd,h1,h2,hk=>by
  show bindL kindOf ((p,w)::P.zip vs) m x=_
  unfold bindL
  exact zdI (i:=i) (List.nodup_cons.mp nd).2 (by simpa using h1) (by simpa using h2) hk
theorem zdG {kindOf:Str->Option NameKind}{x:Str}{v:Value}:∀ {P:List Str} {vs:List Value} {i:Nat} {m:Str->Option Value},P.Nodup->P[i]?=some x->vs[i]?=some v->kindOf x≠some .local->
  bindC kindOf (P.zip vs) m x=some v
 | [],_,_,_,_,h,_,_=>by simp at h
 | _::_,[],_,_,_,_,h,_=>by simp at h
 | p::P,w::vs,0,m,nd,h1,h2,hk=>by
  simp at h1 h2;subst h1;subst h2
  show bindC kindOf ((p,w)::P.zip vs) m p=_
  unfold bindC
  rw [zdH fun v hv=>(List.nodup_cons.mp nd).1 (List.of_mem_zip hv).1,if_neg hk]
  simp
 | p::P,w::vs,i+1,m,nd,h1,h2,hk=>by
  show bindC kindOf ((p,w)::P.zip vs) m x=_
  unfold bindC
  exact zdG (i:=i) (List.nodup_cons.mp nd).2 (by simpa using h1) (by simpa using h2) hk
def uc (N:List Str)(vs:List V):St:=vs.map some++List.replicate (N.length - vs.length) none
def zdz (CX:CXT)(P:Program)(w:World)(K:PySem.W.Frag)(mg:Str->Option Value)(base:Heap)(N:List Str)(qual:Str)(scope:Scope)(f:Addr)(cd:Value)(A:Around)(outer:List Env)(s:Shared)(H:Hp)(E:XK):Cx where
 prog:=P
 w:=w
 K:=K
 mg:=mg
 base:=base
 A:=A.deeper (envOfC qual scope s.heap.objs.size f cd)
 N:=N
 s₀:=s
 H₀:=H
 env:=envOfC qual scope s.heap.objs.size f cd
 outer:=outer
 stack:=envOfC qual scope s.heap.objs.size f cd::outer
 ex:=[]
 calm:=true
 fn:=fun _=>true
 pn:=[]
 xe:=fun e s'=>wpAny (model P w) (A.deeper (envOfC qual scope s.heap.objs.size f cd)) (leaving (envOfC qual scope s.heap.objs.size f cd) e) (fun _ a=>CX outer H s E e a) (fun e' a=>CX outer H s E e' a) s'
theorem zfn {sc:Scope}{n:Nat}{x:Str}(h:sc.names.lookup x=some .cell):∃ c,(cellsFrom n sc.names []).lookup x=some c:=by
 have q:=PySem.W.cellsFrom_some sc.names n [] (.inl h)
 exact Option.isSome_iff_exists.mp q
theorem zhc {CX:CXT}{P:Program}{w:World}{K:PySem.W.Frag}{mg:Str->Option Value}{base:Heap}{N ps:List Str}{qual:Str}{scope:Scope}{f:Addr}{cd:Value}{A:Around}{outer:List Env}{s s1:Shared}{H:Hp}{E:XK}{us:List Value}{vs:List V}
  (S:FnScope N ps scope) (hd:A.handled=none) (e0:Env0 P w K mg base A outer s H) (hl:vs.length=ps.length) (r:z0 vs us)
  (x:InCallC s s.heap.objs.size (bindL (envOfC qual scope s.heap.objs.size f cd).kindOf (ps.zip us) fun _=>none) (cellsFrom (s.heap.objs.size+1) scope.names []) (bindC (envOfC qual scope s.heap.objs.size f cd).kindOf (ps.zip us) fun _=>none) s1) :
  Inv (zdz CX P w K mg base N qual scope f cd A outer s H E) [] (uc N vs) H s1:=by
 have j:ps.length<=N.length:=by have:=congrArg List.length S.pre;rw [List.length_take] at this;lia
 obtain ⟨h1,tk,rfl,hk⟩:=x.done
 have d:∀ b:Addr,b∉(zdz CX P w K mg base N qual scope f cd A outer s H E).ex:=fun b z=>absurd (show b∈([]:List Addr) from z) (by simp)
 refine ⟨⟨e0.mod,S.kind,rfl,rfl,Nat.le_refl _,fun y z c h1 h2=>?_,fun y hy=>?_,fun y c _ h=>?_,fun _=>hd,Around.frames_deeper e0.frames,.inr ⟨rfl,rfl⟩,fun b z=>absurd z (d b),e0.bs,e0.bsz,fun b _ _=>d b,fun b z=>absurd z (d b),e0.funs,e0.frf⟩,
  rfl,e0.bare,Un.kept hk,⟨_,x.toInCall.ns,fun i y v h1 h2 h3=>?_⟩,fun y c h=>⟨_,x.cell y c h⟩,e0.hok.fresh (Nat.le_refl _),fun y c h=>?_,fun p hp=>absurd (show p∈([]:List (Addr×Obj)) from hp) (by simp),e0.hok.kept hk,?_⟩
 ·exact name_of_addr x.apart (PySem.mem_of_lookup h1) (PySem.mem_of_lookup h2)
 ·have hy:scope.names.lookup y=some .cell\/scope.names.lookup y=some .free:=hy
  rcases hy with hy | hy
  ·exact zfn hy
  ·exact absurd rfl (S.nofree _ (PySem.mem_of_lookup hy))
 ·exact Nat.le_of_lt (x.above y c (PySem.mem_of_lookup h))
 ·have hi:i<vs.length:=by
   unfold uc at h2
   by_cases hi:i<vs.length
   ·exact hi
   ·rw [List.getElem?_append_right (by simpa using hi)] at h2
    rw [List.getElem?_replicate] at h2
    split at h2 <;> cases h2
  have ha:vs[i]?=some v:=by
   unfold uc at h2
   rw [List.getElem?_append_left (by simpa using hi),List.getElem?_map] at h2
   cases e:vs[i]? with
   | none=>rw [e] at h2;cases h2
   | some a=>rw [e] at h2;cases h2;rfl
  obtain ⟨u,hu,rv⟩:=r.get ha
  have hp:ps[i]?=some y:=by
   rw [<- S.pre,List.getElem?_take_of_lt (by lia)];exact h1
  have g:ps.Nodup:=by rw [<- S.pre];exact S.nd.sublist (List.take_sublist _ _)
  refine ⟨u,rv,?_⟩
  rcases S.par y (List.mem_of_getElem? hp) with k | k
  ·exact .inl ⟨k,zdI g hp hu k⟩
  ·obtain ⟨c,e⟩:=zfn (n:=s.heap.objs.size+1) k
   refine .inr ⟨.inl k,c,e,?_⟩
   have q:=x.cell y c e
   rw [zdG g hp hu (by show scope.names.lookup y≠_;rw [k];decide)] at q
   exact q
 ·exact e0.hok.fresh (Nat.le_of_lt (x.above y c (PySem.mem_of_lookup h)))
 ·unfold uc
  show _=N.length
  rw [List.length_append,List.length_map,List.length_replicate]
  lia
theorem zod {CX:CXT}{P:Program}{w:World}{K:PySem.W.Frag}{mg:Str->Option Value}{base:Heap}{k:Nat}{f:Addr}{name qual:Str}{params:Arguments}{body:List Stmt}{scope:Scope}{dV kV doc pm cdv ct oc:Value}{an od:Option Addr}
  {osl:Array (Option Value)} {N ps:List Str} {sp:Sp} (lk:K.lookup f=some ⟨oc,od,.func (PySem.W.fnOf name qual params body scope dV kV doc pm an cdv ct),osl⟩) (hcd:PySem.W.codeIn K cdv qual=true) (S:FnScope N ps scope)
  (len:∀ vs H Q E,sp vs H Q E->vs.length=ps.length)
  (hbody:∀ (A:Around) (outer:List Env) (s:Shared) (H:Hp) (vs:List V) (Q:VK) (E:XK),Room k (A.deeper (envOfC qual scope s.heap.objs.size f cdv))->sp vs H Q E->
   ∃ t,PSs (zdz CX P w K mg base N qual scope f cdv A outer s H E) body t/\t { nx:=fun _ H'=>Q .non H',rt:=Q } (uc N vs) H) :
  FnOk P w K mg base CX (k+1) f (PySem.W.fnOf name qual params body scope dV kV doc pm an cdv ct) ps sp:=by
 refine ⟨len,fun A outer s H args us vs Q E hr e0 hb r c=>?_⟩
 have hl:=len _ _ _ _ c
 have KX:K.In s.heap:=e0.mod.kin.keeps fun b o e=>(e0.bs b o e).1
 have lim:s.heap.NoLimit:=e0.mod.nolimit.keeps fun b o e=>(e0.bs b o e).1
 have a:∀ y∈ps.zip us,scope.names.lookup y.1=some .local\/(scope.names.lookup y.1=some .cell/\((cellsFrom (s.heap.objs.size+1) scope.names []).lookup y.1).isSome=true):=fun ⟨n,v⟩ hy=>by
  rcases S.par n (List.of_mem_zip hy).1 with q | q
  ·exact .inl q
  ·exact .inr ⟨q,PySem.W.cellsFrom_some _ _ _ (.inl q)⟩
 refine codeAny_call_function hr.depth (KX _ _ lk) rfl S.co S.gen rfl (PySem.W.codeRec_of KX hcd) (hb _ _ _ _ ?_)
 refine wpAny_newFunctionEnv_cells S.kind a fun env he s1 x=>?_
 subst he
 refine ⟨lim.keeps x.toInCall.keep,codeAny_func ?_⟩
 obtain ⟨t,ht,hq⟩:=hbody A outer s H vs Q E (hr.deeper _) c
 have I:Inv (zdz CX P w K mg base N qual scope f cdv A outer s H E) [] (uc N vs) H s1:=zhc S hr.hd e0 hl r x
 refine wpAny_mono (ht [] s1 (uc N vs) H _ I hq) (fun fl s' hs=>?_) fun e s' hs=>hs
 have fin:∀ {σ':St} {H':Hp} {v:V} {u:Value},Inv (zdz CX P w K mg base N qual scope f cdv A outer s H E) [] σ' H' s'->yu v u->Q v H'->CE outer P w H s Q u s':=
  fun {σ' H' v u} J rv q=>⟨v,H',J.os,J.bare,J.base,J.hok,rv,q⟩
 cases fl with
 | ret u=>
  obtain ⟨v,σ',H',J,rv,q⟩:=hs
  exact fin J rv q
 | next=>
  obtain ⟨σ',H',J,q⟩:=hs
  exact fin (v:=V.non) (u:=Value.none) J rfl q
 | brk=>
  obtain ⟨_,_,_,q⟩:=hs
  exact False.elim q
 | cont=>
  obtain ⟨_,_,_,q⟩:=hs
  exact False.elim q
section
variable {X:Cx}{x:Str}{p pos:Pos}{e:Expr}{es:List Expr}{t:TA}{id T:String}{r:List V->Hp->VK->Prop}
def tCB (r:List V->Hp->VK->Prop)(t:TA):TE:=fun σ H Q=>t σ H fun vs H1=>r vs H1 Q
theorem zjO (hc:zcH X (.builtin id) r)(hg:Gl X x)(hm:X.mg x=none)(hv:bootBuiltins x=some (.builtin id))(ha:PA X (e::es) t)(hn:x ≠ "__name__" := by decide)(hdb:(x==("__debug__" : Str))=false:=by decide)
  (he:starEach (e::es) X.env=(false,eval e X.env)::starEach es X.env:=by rfl) (hpl:(backTo pos (starEach es X.env)).any (·.1)=false:=by rfl):PE X (.Call (.Name x p) (e::es) [] pos) (tCB r t):=by
 intro pins s σ H Q I h
 refine wpAny_Call_Name_kw (zbR I hg hm hv ?_ hn hdb)
 exact PyProof.Rows.callWith_builtin1 (thn (ha pos pins s σ H _ I h) fun us s1 ⟨vs,H1,I1,r1,q1⟩=>hc pins s1 σ H1 vs us Q I1 r1 q1) he hpl
theorem zh3 (hc:zcH X (.type T) r)(hg:Gl X x)(hm:X.mg x=none)(hv:bootBuiltins x=some (.type T))(ha:PA X (e::es) t)(hn:x ≠ "__name__" := by decide)(hdb:(x==("__debug__" : Str))=false:=by decide)
  (he:starEach (e::es) X.env=(false,eval e X.env)::starEach es X.env:=by rfl) (hpl:(backTo pos (starEach es X.env)).any (·.1)=false:=by rfl):PE X (.Call (.Name x p) (e::es) [] pos) (tCB r t):=by
 intro pins s σ H Q I h
 refine wpAny_Call_Name_kw (zbR I hg hm hv ?_ hn hdb)
 exact PyProof.Rows.callWith_type1 (thn (ha pos pins s σ H _ I h) fun us s1 ⟨vs,H1,I1,r1,q1⟩=>hc pins s1 σ H1 vs us Q I1 r1 q1) he hpl
end
section
variable {κ:Type}[DecidableEq κ]
def zbs (kvs:List (κ×V))(k:κ):Option V:=(kvs.find? fun kv=>decide (kv.1=k)).map (·.2)
def za8 (kvs:List (κ×V))(k:κ)(v:V):List (κ×V):=
 if (kvs.any fun kv=>decide (kv.1=k))=true then kvs.map (fun kv=>if kv.1=k then (kv.1,v) else kv) else kvs++[(k,v)]
theorem ut {p:κ×V}{r:List (κ×V)}{k:κ}(e:p.1=k):zbs (p::r) k=some p.2:=by simp [zbs,List.find?_cons,e]
theorem xL {p:κ×V}{r:List (κ×V)}{k:κ}(e:¬ p.1=k):zbs (p::r) k=zbs r k:=by simp [zbs,List.find?_cons,e]
theorem zfN (k:κ):∀ kvs:List (κ×V),(kvs.any fun kv=>decide (kv.1=k))=(zbs kvs k).isSome
 | []=>rfl
 | p::r=>by
  rw [List.any_cons]
  by_cases e:p.1=k
  ·simp only [ut e,decide_eq_true e,Bool.true_or,Option.isSome_some]
  ·rw [xL e,decide_eq_false e,Bool.false_or];exact zfN k r
theorem zaq (kvs:List (κ×V))(k:κ)(v:V):(za8 kvs k v).length<=kvs.length+1:=by
 unfold za8
 split
 ·rw [List.length_map];lia
 ·rw [List.length_append,List.length_cons,List.length_nil];lia
theorem zgq.isSome_eq {o:Option V}{u:Option Value}(r:zgq o u):o.isSome=u.isSome:=by
 cases o with
 | none=>cases u with
  | none=>rfl
  | some _=>exact (show False from r).elim
 | some _=>cases u with
  | none=>exact (show False from r).elim
  | some _=>rfl
theorem KV.val {kvs:List (κ×V)}{vs:List (κ×Value)}(r:KV kvs vs)(k:κ):zgq (zbs kvs k) (valueAt vs k):=by
 unfold KV at r
 induction r with
 | nil=>exact True.intro
 | @cons p q ps qs h t ih=>
  obtain ⟨h1,h2⟩:=h
  by_cases e:p.1=k
  ·have e':q.1=k:=h1.symm.trans e
   have b:valueAt (q::qs) k=some q.2:=by simp [valueAt,List.find?_cons,e']
   rw [ut e,b];exact h2
  ·have e':¬ q.1=k:=fun z=>e (h1.trans z)
   have b:valueAt (q::qs) k=valueAt qs k:=by simp [valueAt,List.find?_cons,e']
   rw [xL e,b];exact ih
theorem KV.any {kvs:List (κ×V)}{vs:List (κ×Value)}(r:KV kvs vs)(k:κ):(kvs.any fun kv=>decide (kv.1=k))=vs.any fun kv=>decide (kv.1=k):=by
 unfold KV at r
 induction r with
 | nil=>rfl
 | cons h t ih=>rw [List.any_cons,List.any_cons,ih,h.1]
theorem KV.repl {kvs:List (κ×V)}{vs:List (κ×Value)}(r:KV kvs vs)(k:κ){y:V}{u:Value}(ry:yu y u) :
  KV (kvs.map fun kv=>if kv.1=k then (kv.1,y) else kv) (vs.map fun kv=>if kv.1=k then (kv.1,u) else kv):=by
 unfold KV at r ⊢
 induction r with
 | nil=>exact .nil
 | @cons p q ps qs h t ih=>
  rw [List.map_cons,List.map_cons]
  refine .cons ?_ ih
  obtain ⟨h1,h2⟩:=h
  by_cases e:p.1=k
  ·rw [if_pos e,if_pos (h1.symm.trans e)];exact ⟨h1,ry⟩
  ·rw [if_neg e,if_neg (fun z=>e (h1.trans z))];exact ⟨h1,h2⟩
theorem KV.put {kvs:List (κ×V)}{vs:List (κ×Value)}(r:KV kvs vs)(k:κ){y:V}{u:Value}(ry:yu y u):KV (za8 kvs k y) (stored vs k u):=by
 unfold za8 stored
 rw [r.any k]
 by_cases e:(vs.any fun kv=>decide (kv.1=k))=true
 ·rw [if_pos e,if_pos e];exact r.repl k ry
 ·rw [if_neg e,if_neg e];exact Paired.snoc r ⟨rfl,ry⟩
theorem KV.length {kvs:List (κ×V)}{vs:List (κ×Value)}(r:KV kvs vs):kvs.length=vs.length:=Paired.length r
end
theorem zhn {P:Program}{w:World}{k:Key}{u:Value}(r:yu (kV k) u):(zL P w).is k u=true:=by
 cases k with
 | inl i=>obtain ⟨t,e⟩:=(show ∃ t,u=Value.int i t from r);subst e;exact zbU P w i t
 | inr x=>obtain ⟨t,e⟩:=(show ∃ t,u=Value.str x t from r);subst e;exact zeT P w x t
theorem zdV {P:Program}{w:World}:∀ {ks:List Key} {us:List Value},z0 (ks.map kV) us->ItemsAre (zL P w) ks us
 | [],_,r=>by rw [List.map_nil] at r;cases r;exact .nil
 | k::ks,_,r=>by
  rw [List.map_cons] at r
  cases r with
  | cons h t=>exact .cons (zhn h) (zdV t)
abbrev KT (H:Hp):List (List Key×V)->List (List Key×Addr×Value)->Prop:=Paired fun p q=>p.1=q.1/\H q.2.1=some (.tup (p.1.map kV))/\yu p.2 q.2.2
theorem KT.val {H:Hp}{kvs:List (List Key×V)}{xs:List (List Key×Addr×Value)}(r:KT H kvs xs)(k:List Key):zgq (zbs kvs k) ((atKey xs k).map (·.2)):=by
 induction r with
 | nil=>exact True.intro
 | @cons p q ps qs h t ih=>
  obtain ⟨h1,_,h2⟩:=h
  by_cases e:p.1=k
  ·have e':q.1=k:=h1.symm.trans e
   have b:atKey (q::qs) k=some q.2:=by simp [atKey,List.find?_cons,e']
   rw [ut e,b];exact h2
  ·have e':¬ q.1=k:=fun z=>e (h1.trans z)
   have b:atKey (q::qs) k=atKey qs k:=by simp [atKey,List.find?_cons,e']
   rw [xL e,b];exact ih
theorem KT.repl {H:Hp}{kvs:List (List Key×V)}{xs:List (List Key×Addr×Value)}(r:KT H kvs xs)(k:List Key){y:V}{u:Value}(ry:yu y u) :
  KT H (kvs.map fun kv=>if kv.1=k then (kv.1,y) else kv) (xs.map (putAt k u)):=by
 induction r with
 | nil=>exact .nil
 | @cons p q ps qs h t ih=>
  rw [List.map_cons,List.map_cons]
  refine .cons ?_ ih
  obtain ⟨h1,h2,h3⟩:=h
  unfold putAt
  by_cases e:p.1=k
  ·rw [if_pos e,if_pos (h1.symm.trans e)];exact ⟨h1,h2,ry⟩
  ·rw [if_neg e,if_neg (fun z=>e (h1.trans z))];exact ⟨h1,h2,h3⟩
theorem KT.put {H:Hp}{kvs:List (List Key×V)}{xs:List (List Key×Addr×Value)}(r:KT H kvs xs)(k:List Key){b:Addr}{y:V}{u:Value}(hb:H b=some (.tup (k.map kV)))(ry:yu y u) :
  KT H (za8 kvs k y) (storedH xs k b u):=by
 have e:(kvs.any fun kv=>decide (kv.1=k))=(atKey xs k).isSome:=by
  rw [zfN,(r.val k).isSome_eq,Option.isSome_map]
 unfold za8 storedH
 rw [e]
 by_cases q:(atKey xs k).isSome=true
 ·rw [if_pos q,if_pos q];exact r.repl k ry
 ·rw [if_neg q,if_neg q];exact Paired.snoc r ⟨rfl,hb,ry⟩
theorem KT.keeps {H H':Hp}{kvs:List (List Key×V)}{xs:List (List Key×Addr×Value)}(r:KT H kvs xs)(ht:∀ b ys,H b=some (.tup ys)->H' b=some (.tup ys)):KT H' kvs xs:=
 Paired.mapP r fun _ _ z=>⟨z.1,ht _ _ z.2.1,z.2.2⟩
section
variable {P:Program}{w:World}{H:Hp}{h:Heap}{a:Addr}
theorem zpy {u:HO}(ok:HOk P w H h)(e:Rd H a u):yh P w H h a u:=e.ok ok
theorem zi6 {kvs:List (Key×V)}(ok:HOk P w H h)(e:Rd H a (.dK kvs)):kvs.length<=sizeLine/\(a==sysModules)=false/\∃ vs,KV kvs vs/\h.DictOf (zL P w) a vs:=
 show yh P w H h a (.dK kvs) from zpy ok e
theorem zn7 {kvs:List (Key×V)}(ok:HOk P w H h)(e:H a=some (.dK kvs)):kvs.length<=sizeLine/\(a==sysModules)=false/\∃ vs,KV kvs vs/\h.DictOf (zL P w) a vs:=zi6 ok (.inl e)
theorem zfy {ks:List Key}(ok:HOk P w H h)(e:H a=some (.tup (ks.map kV))):(tupleKind (zL P w)).is h ks a:=by
 obtain ⟨_,its,r,o,h1,h2,⟨n,h3⟩,_⟩:=(show yh P w H h a (.tup (ks.map kV)) from ok a _ e)
 exact ⟨o,its.toArray,n,h1,h2,h3,by simpa using zdV r⟩
theorem zi8 {kvs:List (List Key×V)}(ok:HOk P w H h)(e:Rd H a (.dT kvs)):kvs.length<=sizeLine/\(a==sysModules)=false/\
  ∃ xs,KT H kvs xs/\h.DictOfH (tupleKind (zL P w)) a xs:=by
 obtain ⟨z,y,xs,r,o,es,ep,h1,h2,h3,h4,h5⟩:=(show yh P w H h a (.dT kvs) from zpy ok e)
 refine ⟨z,y,xs,r,o,es,ep,h1,h2,h3,h4,fun x hx=>?_,h5⟩
 have all:∀ {l:List (List Key×V)} {m:List (List Key×Addr×Value)},KT H l m->∀ x∈m,(tupleKind (zL P w)).is h x.1 x.2.1:=by
  intro l m q
  induction q with
  | nil=>intro x hx;exact nomatch hx
  | @cons p q ps qs hq t ih=>
   intro x hx
   rcases List.mem_cons.mp hx with e | hx
   ·subst e
    exact zfy ok (by rw [<- hq.1];exact hq.2.1)
   ·exact ih x hx
 exact all r x hx
theorem zq2 {kvs:List (List Key×V)}(ok:HOk P w H h)(e:H a=some (.dT kvs)):kvs.length<=sizeLine/\(a==sysModules)=false/\
  ∃ xs,KT H kvs xs/\h.DictOfH (tupleKind (zL P w)) a xs:=zi8 ok (.inl e)
end
def zen (H:Hp)(a:Addr)(y:V)(r:Option V):Prop:=
 (∃ kvs k,Rd H a (.dK kvs)/\y=kV k/\r=zbs kvs k)\/∃ kvs k b,Rd H a (.dT kvs)/\y = .ref b/\H b=some (.tup (k.map kV))/\r=zbs kvs k
def zfc (H:Hp)(a:Addr)(y v:V)(H':Hp):Prop:=
 (∃ kvs k,H a=some (.dK kvs)/\y=kV k/\kvs.length<sizeLine/\H'=upd H a (.dK (za8 kvs k v)))\/
 ∃ kvs k b,H a=some (.dT kvs)/\y = .ref b/\H b=some (.tup (k.map kV))/\kvs.length<sizeLine/\H'=upd H a (.dT (za8 kvs k v))
theorem zen.k {H:Hp}{a:Addr}{kvs:List (Key×V)}{k:Key}(e:H a=some (.dK kvs)):zen H a (kV k) (zbs kvs k):=.inl ⟨kvs,k,.inl e,rfl,rfl⟩
theorem zfc.k {H:Hp}{a:Addr}{kvs:List (Key×V)}{k:Key}{v:V}(e:H a=some (.dK kvs))(hl:kvs.length<sizeLine):zfc H a (kV k) v (upd H a (.dK (za8 kvs k v))):=.inl ⟨kvs,k,e,rfl,hl,rfl⟩
theorem zfc.t {H:Hp}{a b:Addr}{kvs:List (List Key×V)}{k:List Key}{v:V}(e:H a=some (.dT kvs))(eb:H b=some (.tup (k.map kV)))(hl:kvs.length<sizeLine) :
  zfc H a (.ref b) v (upd H a (.dT (za8 kvs k v))):=.inr ⟨kvs,k,b,e,rfl,eb,hl,rfl⟩
section
variable {X:Cx}{pins:List (Addr×Obj)}{σ:St}{H:Hp}{s:Shared}{a:Addr}{y v:V}{u r:Value}{o:Option V}{A:Around}{E:Value->Shared->Prop}
theorem Inv.big (I:Inv X pins σ H s):sysModules<s.heap.objs.size:=by
 have h:mainGlobals<s.heap.objs.size:=(I.mod.glob.keeps I.bk).lt
 exact Nat.lt_trans (by decide) h
theorem zgL {Q:Value->Shared->Prop}(hu:A.units+1<cLine)(I:Inv X pins σ H s)(g:zen H a y (some v))(ry:yu y u)(h:∀ w' s',Inv X pins σ H s'->yu v w'->Q w' s') :
  wpAny (model X.prog X.w) A (getItem (.ref a) u) Q E s:=by
 rcases g with ⟨kvs,k,e,ey,l⟩ | ⟨kvs,k,b,e,ey,eb,l⟩
 ·subst ey
  obtain ⟨z,hd,vs,rel,dd⟩:=zi6 I.hok e
  obtain ⟨w',hw,c⟩:=zgq.some_of (v:=v) (o:=valueAt vs k) (by rw [l];exact rel.val k)
  exact wpAny_getItem_of (zhn ry) dd.mapOf hw (h w' _ (I.tok _) c)
 ·subst ey
  cases (show u=Value.ref b from ry)
  obtain ⟨z,hd,xs,rel,dd⟩:=zi8 I.hok e
  obtain ⟨w',hw,c⟩:=zgq.some_of (v:=v) (o:=(atKey xs k).map (·.2)) (by rw [l];exact rel.val k)
  obtain ⟨p,hp,d⟩:=Option.map_eq_some_iff.mp hw
  refine wpAny_getItem_heap (tupleKind_room_in1 hu) (zfy I.hok eb) dd hp ?_
  rw [d]
  exact h w' _ (I.tok _) c
theorem d_in {Q:Value->Shared->Prop}(hu:A.units+1<cLine)(I:Inv X pins σ H s)(g:zen H a y o)(ry:yu y u)(h:∀ s',Inv X pins σ H s'->Q (.bool o.isSome) s') :
  wpAny (model X.prog X.w) A (compareOp .In u (.ref a)) Q E s:=by
 rcases g with ⟨kvs,k,e,ey,l⟩ | ⟨kvs,k,b,e,ey,eb,l⟩
 ·subst ey
  obtain ⟨z,hd,vs,rel,dd⟩:=zi6 I.hok e
  refine wpAny_in_of (zhn ry) hd dd.mapOf ?_
  rw [<- (rel.val k).isSome_eq,<- l]
  exact h _ (I.tok _)
 ·subst ey
  cases (show u=Value.ref b from ry)
  obtain ⟨z,hd,xs,rel,dd⟩:=zi8 I.hok e
  refine wpAny_in_heap (tupleKind_room_in1 hu) (zfy I.hok eb) hd dd ?_
  have q:=(rel.val k).isSome_eq
  rw [Option.isSome_map] at q
  rw [<- q,<- l]
  exact h _ (I.tok _)
theorem zeA {h':Heap}{t':Nat}{ob:HO}(I:Inv X pins σ H s)(mu:Mut (H a))(hs:Heap.SameBut a s.heap h')(he:∃ q,h'.get? a=some q)(new:yh X.prog X.w (upd H a ob) h' a ob) :
  Inv X pins σ (upd H a ob) { s with heap:=h',toks:=t' }:=
 I.write (x:=a) (e:=a) mu (.inl rfl) (fun b q hb z=>(hs.2 b hb).trans z) he new
theorem zkv {P:Program}{w:World}{H':Hp}{h':Heap}{kvs:List (Key×V)}{vs:List (Key×Value)}(z:kvs.length<=sizeLine)(hd:(a==sysModules)=false)(rel:KV kvs vs)(dd:h'.DictOf (zL P w) a vs) :
  yh P w H' h' a (.dK kvs):=⟨z,hd,vs,rel,dd⟩
theorem zgM {H':Hp}{Q:Unit->Shared->Prop}(hu:A.units+1<cLine)(I:Inv X pins σ H s)(g:zfc H a y v H')(ry:yu y u)(rv:yu v r)(h:∀ s',Inv X pins σ H' s'->Q () s') :
  wpAny (model X.prog X.w) A (setItem (.ref a) u r) Q E s:=by
 rcases g with ⟨kvs,k,e,ey,l,eH⟩ | ⟨kvs,k,b,e,ey,eb,l,eH⟩
 ·subst ey eH
  obtain ⟨z,hd,vs,rel,dd⟩:=zn7 I.hok e
  have hz:vs.length<=sizeLine:=by rw [<- rel.length];exact z
  have hl:(za8 kvs k v).length<=sizeLine:=by have:=zaq kvs k v;lia
  refine wpAny_setItem_pairs (hsz:=hz) (zhn ry) dd fun h' d hs=>h _ ?_
  have he:∃ q,h'.get? a=some q:=let ⟨q,_,_,hq,_⟩:=d;⟨q,hq⟩
  exact zeA I (by rw [e];exact True.intro) hs he (zkv hl hd (rel.put k rv) d)
 ·subst ey eH
  cases (show u=Value.ref b from ry)
  obtain ⟨z,hd,xs,rel,dd⟩:=zq2 I.hok e
  have hz:xs.length<=sizeLine:=by rw [<- Paired.length rel];exact z
  have hl:(za8 kvs k v).length<=sizeLine:=by have:=zaq kvs k v;lia
  refine wpAny_setItem_heap (hsz:=hz) (tupleKind_room_in1 hu) (zfy I.hok eb) dd fun h' d hs=>h _ ?_
  obtain ⟨q,es,ep,hq,h2,h3,h4,_,h5⟩:=d
  refine zeA I (by rw [e];exact True.intro) hs ⟨q,hq⟩ ⟨hl,hd,_,(rel.put k eb rv).keeps fun c ys ec=>?_,q,es,ep,hq,h2,h3,h4,h5⟩
  rw [zf (zeU ec e (fun z=>nomatch z))]
  exact ec
end
section
variable {X:Cx}{pins:List (Addr×Obj)}{σ:St}{H:Hp}{s:Shared}{a:Addr}{kvs:List (Key×V)}{k:Key}{u:Value}{A:Around}{E:Value->Shared->Prop}
end
def zqk (i:Expr):Prop:=∀ ov iv,subscripted i false ov iv=operate [ov,iv] (getItem ov iv)
theorem znk {prog:Program}{w:World}{A:Around}{E:Value->Shared->Prop}{s:Shared}{env:Env}{value slice:Expr}{pos:Pos}{T id:String}{Q:Value->Shared->Prop}
  (hl:typeLookup (.type T) "__getitem__" = pure (some (.builtin id))) (hs:zqk slice)
  (h:wpAny (model prog w) A (eval value env) (fun o s₁=>wpAny (model prog w) A (eval slice env) (fun i s₂=>s₂.TypeIs o T/\wpAny (model prog w) A (getItem o i) Q E s₂) E s₁) E s) :
  wpAny (model prog w) A (eval (.Subscript value slice pos) env) Q E s:=by
 refine Subscript_ (wpAny_mono h (fun o s₁ h₁=>wpAny_mono h₁ (fun i s₂ h₂=>?_) fun _ _ x=>x) fun _ _ x=>x)
 obtain ⟨hT,h₂⟩:=h₂
 unfold subscriptTail
 refine wpAny_bind ?_
 rw [getitemInPython_of_ne hT.not_modules]
 refine wpAny_bind (wpAny_specialOf hT hl ?_)
 have fin:wpAny (model prog w) A (subscripted slice false o i) (fun r s₃=>wpAny (model prog w) A (letTemporaryGo value o r >>= fun _=>pure r) Q E s₃) E s₂:=by
  rw [hs o i]
  exact wpAny_operating (wpAny_mono h₂ (fun r s₃ h₃=>wpAny_bind (wpAny_letTemporaryGo (wpAny_pure h₃))) fun _ _ x=>x)
 first
  | exact wpAny_pure (wpAny_bind fin)
  | exact wpAny_bind (wpAny_pure (wpAny_bind fin))
  | exact wpAny_bind fin
theorem zeB {X:Cx}{pins:List (Addr×Obj)}{σ:St}{H:Hp}{s:Shared}{a:Addr}{y:V}{o:Option V}(I:Inv X pins σ H s)(g:zen H a y o):s.TypeIs (.ref a) "dict" := by
 rcases g with ⟨kvs,k,e,_,_⟩ | ⟨kvs,k,b,e,_,_,_⟩
 ·obtain ⟨_,_,vs,_,dd⟩:=zi6 I.hok e
  exact dd.typeIs
 ·obtain ⟨_,_,xs,_,dd⟩:=zi8 I.hok e
  exact dd.typeIs
def zpU (td ty:TE):TE:=fun σ H Q=>td σ H fun x H1=>ty σ H1 fun y H2=>∃ a v,x = .ref a/\zen H2 a y (some v)/\Q v H2
def zr1 (ty td:TE):TE:=fun σ H Q=>ty σ H fun y H1=>td σ H1 fun x H2=>∃ a o,x = .ref a/\zen H2 a y o/\Q (.bl o.isSome) H2
def zpQ (td ty tv:TE):TS:=fun D σ H=>tv σ H fun v H1=>td σ H1 fun x H2=>ty σ H2 fun y H3=>∃ a H4,x = .ref a/\zfc H3 a y v H4/\D.nx σ H4
section
variable {X:Cx}{o i e value:Expr}{pos pos' tpos:Pos}{td ty tv:TE}
theorem zml (hu:X.A.units+1<cLine)(ho:PE X o td)(hi:PE X i ty)(hs:zqk i):PE X (.Subscript o i pos) (zpU td ty):=by
 intro pins s σ H Q I h
 refine znk PySem.F.slot_dict_getitem.lookup hs (thn (ho pins s σ H _ I h) fun u s1 ⟨x,H1,I1,rx,q1⟩=>thn (hi pins s1 σ H1 _ I1 q1) fun iv s2 ⟨y,H2,I2,ry,a,v,ex,g,q2⟩=>?_)
 subst ex
 obtain rfl:u=Value.ref a:=rx
 exact ⟨zeB I2 g,zgL hu I2 g ry fun w' s3 I3 b=>⟨v,H2,I3,b,q2⟩⟩
theorem zoX (hu:X.A.units+1<cLine)(hi:PE X i ty)(ho:PE X o td):PC X .In i o (zr1 ty td):=by
 intro pins s σ H Q I h
 refine thn (hi pins s σ H _ I h) fun iv s1 ⟨y,H1,I1,ry,q1⟩=>thn (ho pins s1 σ H1 _ I1 q1) fun u s2 ⟨x,H2,I2,rx,a,ov,ex,g,q2⟩=>?_
 subst ex
 obtain rfl:u=Value.ref a:=rx
 exact d_in hu I2 g ry fun s3 I3=>⟨.bl ov.isSome,H2,I3,rfl,q2⟩
theorem zmz (hu:X.A.units+1<cLine)(ho:PE X o td)(hi:PE X i ty)(hv:PE X value tv)(hs:swapsWith value (some (.Subscript o i pos')) pos.line X.env=pure false) :
  PS X (.Assign [.Subscript o i pos'] value pos) (zpQ td ty tv):=by
 intro pins s σ H D I h
 refine wpAny_Assign_Subscript (thn (hv pins s σ H _ I h) fun r s1 ⟨v,H1,I1,rv,q1⟩=>thn (ho pins s1 σ H1 _ I1 q1) fun u s2 ⟨x,H2,I2,rx,q2⟩=>thn (hi pins s2 σ H2 _ I2 q2) fun iv s3 ⟨y,H3,I3,ry,a,H4,ex,g,q3⟩=>?_) hs
 subst ex
 obtain rfl:u=Value.ref a:=rx
 exact zgM hu I3 g ry rv fun s4 I4=>⟨σ,H4,I4,q3⟩
end
theorem zi5 {P:Program}{w:World}{H:Hp}(h:Heap)(hb:sysModules<h.objs.size):yh P w H (h.push { cls:=.type "dict",data:=.dict #[] }) h.objs.size (.dK []):=
 ⟨Nat.zero_le _,beq_eq_false_iff_ne.mpr (Ne.symm (Nat.ne_of_lt hb)),[],.nil,Heap.DictOf.new h⟩
theorem zi7 {P:Program}{w:World}{H:Hp}(h:Heap)(hb:sysModules<h.objs.size):yh P w H (h.push { cls:=.type "dict",data:=.dict #[] }) h.objs.size (.dT []):=
 ⟨Nat.zero_le _,beq_eq_false_iff_ne.mpr (Ne.symm (Nat.ne_of_lt hb)),[],.nil,_,#[],0,Heap.get?_push_size _ rfl,⟨rfl,rfl,rfl⟩,rfl,rfl,List.nodup_nil⟩
def zpV:TE:=fun _ H Q=>∀ p,H p=none->Q (.ref p) (upd H p (.dT []))
section
variable {X:Cx}{pos:Pos}
theorem zjP:PE X (.Dict [] [] pos) zpV:=fun pins s σ H Q I h=>
 wpAny_Dict_empty ⟨.ref s.heap.objs.size,_,I.laid (a:=s.heap.objs.size) (o:=.dT []) (t':=s.toks) (fun _ _ q=>Heap.get?_push_of_some _ q) (Nat.le_refl _) (zi7 s.heap I.big),rfl,h _ (I.hok.fresh (Nat.le_refl _))⟩
end
def ziz:List (TE×TE)->St->Hp->(List (V×V)->Hp->Prop)->Prop
 | [],_,H,Q=>Q [] H
 | (tk,tv)::r,σ,H,Q=>tk σ H fun x H1=>tv σ H1 fun y H2=>ziz r σ H2 fun ps H3=>Q ((x,y)::ps) H3
abbrev VV:List (V×V)->List (Value×Value)->Prop:=Paired fun p q=>yu p.1 q.1/\yu p.2 q.2
def PPs (X:Cx)(pos:Pos)(keys:List (Option Expr))(values:List Expr)(trs:List (TE×TE)):Prop:=
 ∀ (pins:List (Addr×Obj)) (s:Shared) (σ:St) (H:Hp) (Q:List (V×V)->Hp->Prop),Inv X pins σ H s->ziz trs σ H Q->
  wpAny (model X.prog X.w) X.A (evalPairs (pairTrees keys values X.env pos)) (fun vs s'=>∃ ps H',Inv X pins σ H' s'/\VV ps vs/\Q ps H') X.xe s
theorem zmy {X:Cx}{pos:Pos}:PPs X pos [] [] []:=fun pins s σ H Q I h=>pairTrees_nil_walk ⟨[],H,I,.nil,h⟩
theorem zjV {X:Cx}{pos:Pos}{k v:Expr}{ks:List (Option Expr)}{vs:List Expr}{tk tv:TE}{trs:List (TE×TE)}(hk:PE X k tk)(hv:PE X v tv)(hr:PPs X pos ks vs trs) :
  PPs X pos (some k::ks) (v::vs) ((tk,tv)::trs):=fun pins s σ H Q I h=>
 pairTrees_cons_walk (thn (hk pins s σ H _ I h) fun u s1 ⟨x,H1,I1,rx,q1⟩=>thn (hv pins s1 σ H1 _ I1 q1) fun w2 s2 ⟨y,H2,I2,ry,q2⟩=>
  thn (hr pins s2 σ H2 _ I2 q2) fun ws s3 ⟨ps,H3,I3,rel,q3⟩=>⟨(x,y)::ps,H3,I3,.cons ⟨rx,ry⟩ rel,q3⟩)
def zbT (kvs more:List (Key×V)):List (Key×V):=more.foldl (fun acc kv=>za8 acc kv.1 kv.2) kvs
theorem KV.merge:∀ {more:List (Key×V)} {rs:List (Key×Value)} {a:List (Key×V)} {vs:List (Key×Value)},KV more rs->KV a vs->KV (zbT a more) (merged vs rs):=by
 intro more rs a vs r
 unfold KV at r
 induction r generalizing a vs with
 | nil=>intro q;exact q
 | @cons p q ps qs h t ih=>
  intro r0
  have e:KV (za8 a p.1 p.2) (stored vs q.1 q.2):=by
   have:=r0.put p.1 h.2
   rw [<- h.1];exact this
  exact ih e
theorem zaF:∀ (more kvs:List (Key×V)),(zbT kvs more).length<=kvs.length+more.length
 | [],kvs=>by show kvs.length<=kvs.length+0;lia
 | p::r,kvs=>by
  have h1:=zaF r (za8 kvs p.1 p.2)
  have h2:=zaq kvs p.1 p.2
  show (zbT (za8 kvs p.1 p.2) r).length<=_
  rw [List.length_cons];lia
theorem zcs {P:Program}{w:World}:∀ {kvs:List (Key×V)} {ws:List (Value×Value)},VV (kvs.map fun kv=>(kV kv.1,kv.2)) ws->∃ rs,Carries (zL P w) ws rs/\KV kvs rs
 | [],_,r=>by rw [List.map_nil] at r;cases r;exact ⟨[],True.intro,.nil⟩
 | p::kvs,_,r=>by
  rw [List.map_cons] at r
  cases r with
  | @cons a b as bs h t=>
   obtain ⟨rs,c,q⟩:=zcs (P:=P) (w:=w) t
   obtain ⟨b1,b2⟩:=b
   exact ⟨(p.1,b2)::rs,⟨zhn h.1,rfl,c⟩,.cons ⟨rfl,h.2⟩ q⟩
def zpW (trs:List (TE×TE)):TE:=fun σ H Q=>∀ p,H p=none->ziz trs σ (upd H p (.dK [])) fun ps H2=>H2 p=some (.dK [])/\∃ kvs:List (Key×V),ps=kvs.map (fun kv=>(kV kv.1,kv.2))/\kvs.length<=15/\Q (.ref p) (upd H2 p (.dK (zbT [] kvs)))
theorem zmm {X:Cx}{pos:Pos}{keys:List (Option Expr)}{values:List Expr}{trs:List (TE×TE)}(h:PPs X pos keys values trs)(hall:keys.all (·.isSome)=true)(hl:keys.length=values.length)(h0:keys≠[])
  (h15:keys.length<=15):PE X (.Dict keys values pos) (zpW trs):=by
 intro pins s σ H Q I q
 have hn:=I.hok.fresh (Nat.le_refl s.heap.objs.size)
 have I1:=I.laid (a:=s.heap.objs.size) (o:=.dK []) (h':=s.heap.push { cls:=.type "dict",data:=.dict #[] }) (t':=s.toks) (fun _ _ q=>Heap.get?_push_of_some _ q) (Nat.le_refl _) (zi5 s.heap I.big)
 refine wpAny_Dict_walk (knd:=zL X.prog X.w) hall hl h0 h15 (thn (h pins _ σ _ _ I1 (q _ hn)) fun ws s2 ⟨ps,H2,I2,rel,e,b,ep,lk,q2⟩=>?_)
 subst ep
 obtain ⟨rs,c,rk⟩:=zcs (P:=X.prog) (w:=X.w) rel
 obtain ⟨z,hd,f,r0,dd⟩:=zn7 I2.hok e
 cases r0
 refine ⟨rs,c,dd,fun h' d hs=>⟨.ref s.heap.objs.size,_,?_,rfl,q2⟩⟩
 have hz:(zbT [] b).length<=sizeLine:=by
  have h1:=zaF b []
  rw [List.length_nil] at h1
  rw [sizeLine_eq];lia
 have he:∃ q,h'.get? s.heap.objs.size=some q:=let ⟨q,_,_,hq,_⟩:=d;⟨q,hq⟩
 exact zeA I2 (by rw [e];exact True.intro) hs he (zkv hz hd (rk.merge .nil) d)
section
variable {X:Cx}{pins:List (Addr×Obj)}{σ:St}{H:Hp}{s:Shared}{a:Addr}{y d:V}{u r:Value}{o:Option V}{A:Around}{E:Value->Shared->Prop}
end
section
variable {X:Cx}{o e f:Expr}{apos cpos:Pos}{td ty tx:TE}
end
section
variable {X:Cx}{pins:List (Addr×Obj)}{σ:St}{H:Hp}{s:Shared}{a:Addr}{kvs:List (Key×V)}{A:Around}{E:Value->Shared->Prop}
end
section
variable {X:Cx}{pins:List (Addr×Obj)}{σ:St}{H:Hp}{s:Shared}{a:Addr}{y:V}{u:Value}{A:Around}{E:Value->Shared->Prop}
end
end L2
namespace HT
open PySem PyProof.Rows
def lexLt:List Int->List Int->Bool
 | [],[]=>false
 | [],_::_=>true
 | _::_,[]=>false
 | x::xs,y::ys=>if x=y then lexLt xs ys else decide (x<y)
section
open PySem.SeqAt
open PySem.AutoSeq1 (wpAny_loadPart')
open PySem.MeetsSeq PySem.MeetsSeq2 PySem.MeetsSeq3
end
section
variable {prog:Program}{w:World}{A:Around}{E:Value->Shared->Prop}{s:Shared}
theorem cat_tup {t b:Addr}{vs ws:List Value}{Q:Value->Shared->Prop}(ht:IsTup s.heap t vs.toArray)(hb:IsTup s.heap b ws.toArray)(hv:vs≠[])
  (h1:ws=[]->Q (.ref t) s) (h2:ws≠[]->Q (.ref s.heap.objs.size) { s with heap:=s.heap.push { cls:=.type "tuple",data:=.seq (vs++ws).toArray } })
  (hsz:vs.length+ws.length<=sizeLine):wpAny (model prog w) A (binaryOp .Add (.ref t) (.ref b)) Q E s:=by
 obtain ⟨⟨cls,dd,data,sl⟩,ho,hc,n,hd⟩:=id ht
 obtain ⟨⟨g,c,data2,d⟩,a,f,n2,hd2⟩:=id hb
 simp only at hc hd f hd2
 subst hc hd f hd2
 have e:vs.toArray++ws.toArray=(vs++ws).toArray:=by simp
 by_cases hw:ws=[]
 ·exact concat_meets ⟨_,ho,rfl⟩ ⟨_,a,rfl⟩ noFill_tuple_add seq_tuple_add PySem.F.slot_tuple_add PySem.F.entry_tuple_add (PySem.F.args_tuple_add_2 _ _)
   (tuple_addW1 t b vs.toArray ws.toArray n n2 dd c sl d (by simpa using hv) (by simp [hw])) ⟨ho,a,h1 hw⟩
 ·refine concat_meets ⟨_,ho,rfl⟩ ⟨_,a,rfl⟩ noFill_tuple_add seq_tuple_add PySem.F.slot_tuple_add PySem.F.entry_tuple_add (PySem.F.args_tuple_add_2 _ _)
   (tuple_addW2 t b vs.toArray ws.toArray n n2 dd c sl d (by simpa using hv) (by simpa using hw) (by rw [List.size_toArray,List.size_toArray];exact hsz)) ⟨ho,a,?_⟩
  rw [e]
  exact h2 hw
def sIx (n d:Nat):Option Int->Nat
 | none=>d
 | some v=>if v<0 then (v+(n:Int)).toNat else min v.toNat n
theorem sIx_none (n d:Nat):sIx n d none=d:=rfl
theorem sIx_nat (n d k:Nat):sIx n d (some (k:Int))=min k n:=by
 show (if (k:Int)<0 then ((k:Int)+(n:Int)).toNat else min (k:Int).toNat n)=min k n
 rw [if_neg (by lia),Int.toNat_natCast]
theorem zpR (n d:Nat)(hd:d<=n)(o:Option Int):sIx n d o<=n:=by
 cases o with
 | none=>exact hd
 | some v=>
  show (if v<0 then (v+(n:Int)).toNat else min v.toNat n)<=n
  by_cases hv:v<0
  ·rw [if_pos hv];lia
  ·rw [if_neg hv];exact Nat.min_le_right _ _
theorem zgz (v:Int)(n d:Nat):(if v<0 then max (v+(n:Int)) 0 else min v (n:Int))=((sIx n d (some v):Nat):Int):=by
 show (if v<0 then max (v+(n:Int)) 0 else min v (n:Int))=(((if v<0 then (v+(n:Int)).toNat else min v.toNat n):Nat):Int)
 by_cases hv:v<0
 ·simp only [if_pos hv];lia
 ·simp only [if_neg hv];lia
theorem zfU (lo hi:Option Int)(n:Nat):Builtin.Slice.sliceAdjust lo hi 1 (n:Int)=(((sIx n 0 lo:Nat):Int),((sIx n n hi:Nat):Int)):=by
 have h1:¬ ((1:Int)<0):=by lia
 unfold Builtin.Slice.sliceAdjust
 simp only [h1,if_false]
 refine Prod.ext ?_ ?_
 ·cases lo with
  | none=>rfl
  | some v=>exact zgz v n 0
 ·cases hi with
  | none=>rfl
  | some v=>exact zgz v n n
theorem zf8 (i j:Nat):Builtin.Slice.slicePlaces (i:Int) (j:Int) 1=j - i:=by
 unfold Builtin.Slice.slicePlaces
 have h1:(1:Int) > 0:=by lia
 simp only [h1,if_true,Int.ediv_one]
 split <;> lia
theorem zcE {v:Value}{o:Option Int}{Q:Option Int->Shared->Prop}(p:IsPart v o)(h:Q o s):wpAny (model prog w) A (Builtin.Slice.slicePartIndex v) Q E s:=by
 cases p with
 | none=>exact slicePart_none h
 | int i t=>exact slicePart_int h
theorem uz {sl:Addr}{vl vu:Value}{lo hi:Option Int}{n:Nat}{Q:Int×Int×Nat->Shared->Prop}(hs:s.heap.IsSliceOf sl vl vu .none)(pl:IsPart vl lo)(pu:IsPart vu hi)
  (h:Q (((sIx n 0 lo:Nat):Int),1,sIx n n hi - sIx n 0 lo) s):wpAny (model prog w) A (Builtin.Slice.sliceApplied (.ref sl) (pure (n:Int))) Q E s:=by
 obtain ⟨os,a,c,b⟩:=id hs
 unfold Builtin.Slice.sliceApplied Builtin.Slice.sliceFields
 refine wpAny_bind (wpAny_bind (wpAny_field a b (x:=vl) rfl (wpAny_bind (wpAny_field a b (x:=vu) rfl (wpAny_bind (wpAny_field a b (x:=.none) rfl (wpAny_pure ?_)))))))
 refine wpAny_bind (slicePart_none ?_)
 show wpAny _ _ (if ((1:Int)==0)=true then _ else _) _ _ s
 rw [if_neg (by decide)]
 refine wpAny_bind (zcE pl (wpAny_bind (zcE pu (wpAny_bind (wpAny_pure ?_)))))
 show wpAny _ _ (match Builtin.Slice.sliceAdjust lo hi 1 (n:Int) with | (lo,hi)=>pure (lo,(1:Int),Builtin.Slice.slicePlaces lo hi 1)) _ _ s
 rw [zfU lo hi n]
 show wpAny _ _ (pure (((sIx n 0 lo:Nat):Int),(1:Int),Builtin.Slice.slicePlaces ((sIx n 0 lo:Nat):Int) ((sIx n n hi:Nat):Int) 1)) _ _ s
 rw [zf8]
 exact wpAny_pure h
theorem zjU (xs:Array Value)(i k:Nat):((List.range k).filterMap fun (m:Nat)=>xs[((i:Int)+(m:Int) * 1).toNat]?).toArray=((xs.toList.drop i).take k).toArray:=by
 have e:(fun (m:Nat)=>xs[((i:Int)+(m:Int) * 1).toNat]?)=fun m=>xs[i+m]?:=by
  funext m
  have:((i:Int)+(m:Int) * 1).toNat=i+m:=by lia
  rw [this]
 rw [e]
 have:=pick_run xs i k
 rw [List.filterMap_map] at this
 have e2:((fun x=>xs[x]?) ∘ fun x=>i+x)=fun m=>xs[i+m]?:=rfl
 rw [e2] at this
 rw [this]
theorem getItem_tuple_cut {t sl:Addr}{items:Array Value}{vl vu:Value}{lo hi:Option Int}{Q:Value->Shared->Prop}(ht:IsTup s.heap t items)(hs:s.heap.IsSliceOf sl vl vu .none)(pl:IsPart vl lo)(pu:IsPart vu hi)
  (hw:¬ (sIx items.size 0 lo=0/\sIx items.size items.size hi=items.size))
  (h:Q (.ref s.heap.objs.size) { s with heap:=s.heap.push { cls:=.type "tuple",data:=.seq ((items.toList.drop (sIx items.size 0 lo)).take (sIx items.size items.size hi - sIx items.size 0 lo)).toArray } })
  (hsz:items.size<=sizeLine):wpAny (model prog w) A (getItem (.ref t) (.ref sl)) Q E s:=by
 have a:sizeOk (.seq ((items.toList.drop (sIx items.size 0 lo)).take (sIx items.size items.size hi - sIx items.size 0 lo)).toArray):=by
  show ((items.toList.drop (sIx items.size 0 lo)).take (sIx items.size items.size hi - sIx items.size 0 lo)).toArray.size<=sizeLine
  rw [List.size_toArray,List.length_take,List.length_drop,Array.length_toList]
  lia
 have hj:sIx items.size items.size hi<=items.size:=zpR _ _ (Nat.le_refl _) hi
 obtain ⟨os,b,c,f⟩:=id hs
 have d:s.TypeIs (.ref sl) "slice" := ⟨os,b,c⟩
 unfold getItem
 try with_reducible refine wpAny_holding ?_
 first | refine wpAny_bind (wpAny_pure ?_) | skip
 refine wpAny_bind (wpAny_sequenceKey ht.typeIs (by decide) ?_)
 refine wpAny_bind (wpAny_callSpecial?_slot (name:=Str.ofString "__getitem__") ht.typeIs PyProof.Rows.slot_tuple_getitem
  (wpAny_call_entry PyProof.Rows.slot_tuple_getitem ht.typeIs entry_tuple_getitem ?_ (args_tuple_getitem _ _)))
 show wpAny _ _ (Builtin.Tuple.tupleItemsOf (.ref t) >>= _) _ _ s
 refine wpAny_bind (tupleItemsOf_ ht ?_)
 refine wpAny_bind (wpAny_typeOf d ?_)
 rw [if_pos (by decide)]
 refine wpAny_bind (uz hs pl pu ?_)
 have e:¬ ((((sIx items.size 0 lo:Nat):Int)==0&&(1:Int)==1&&(sIx items.size items.size hi - sIx items.size 0 lo)==items.size)=true):=by
  intro q
  rw [Bool.and_eq_true,Bool.and_eq_true] at q
  have q1:((sIx items.size 0 lo:Nat):Int)=0:=eq_of_beq q.1.1
  have q2:sIx items.size items.size hi - sIx items.size 0 lo=items.size:=eq_of_beq q.2
  exact hw ⟨by lia,by lia⟩
 show wpAny _ _ (if (((sIx items.size 0 lo:Nat):Int)==0&&(1:Int)==1&&(sIx items.size items.size hi - sIx items.size 0 lo)==items.size)=true then _ else _) _ _ s
 rw [if_neg e,zjU]
 first
  | exact wpAny_bind (m:=Builtin.Tuple.tupleExact _) (wpAny_newObj_type (wpAny_pure ⟨_,rfl,wpAny_pure h⟩) a)
  | exact wpAny_bind (m:=Builtin.Tuple.tupleExact _) (wpAny_newObj_type (wpAny_bind (wpAny_pure (wpAny_pure ⟨_,rfl,wpAny_pure h⟩))) a)
  | exact wpAny_bind (wpAny_bind (m:=Builtin.Tuple.tupleExact _) (wpAny_newObj_type (wpAny_pure (wpAny_pure ⟨_,rfl,wpAny_pure h⟩)) a))
  | exact wpAny_bind (wpAny_bind (m:=Builtin.Tuple.tupleExact _) (wpAny_newObj_type (wpAny_pure ⟨_,rfl,wpAny_pure h⟩) a))
end
end HT
namespace L2
open PySem PySem.Spec PyProof.Rows
abbrev TO:=St->Hp->(Option Int->Hp->Prop)->Prop
def PO (X:Cx)(e:Option Expr)(t:TO):Prop:=
 ∀ (pins:List (Addr×Obj)) (s:Shared) (σ:St) (H:Hp) (Q:Option Int->Hp->Prop),Inv X pins σ H s->t σ H Q->
  wpAny (model X.prog X.w) X.A (evalPart e X.env) (fun u s'=>∃ o H',Inv X pins σ H' s'/\IsPart u o/\Q o H') X.xe s
def ziy:TO:=fun _ H Q=>Q none H
def zpZ (t:TE):TO:=fun σ H Q=>t σ H fun x H1=>∃ i,x = .int i/\Q (some i) H1
section
variable {X:Cx}{e:Expr}{te:TE}{lo hi:Option Expr}{tl th:TO}{pos p2:Pos}
theorem zmw:PO X none ziy:=by
 intro pins s σ H Q I h
 rw [evalPart_none]
 exact wpAny_pure ⟨none,H,I,.none,h⟩
theorem zmx (h:PE X e te):PO X (some e) (zpZ te):=by
 intro pins s σ H Q I hw
 rw [evalPart_some]
 refine thn (h pins s σ H _ I hw) fun u s1 ⟨x,H1,I1,r1,q1⟩=>?_
 obtain ⟨i,rfl,q⟩:=q1
 obtain ⟨t,rfl⟩:=r1
 exact ⟨some i,H1,I1,.int i t,q⟩
def SlR (X:Cx)(r:V->Option Int->Option Int->Hp->VK->Prop):Prop:=
 ∀ (pins:List (Addr×Obj)) (s:Shared) (σ:St) (H:Hp) (x:V) (v vl vu:Value) (lo hi:Option Int) (sl:Addr) (Q:VK),Inv X pins σ H s->yu x v->s.heap.IsSliceOf sl vl vu .none->IsPart vl lo->IsPart vu hi->r x lo hi H Q->
  ∃ T id,typeLookup (.type T) "__getitem__" = pure (some (.builtin id))/\s.TypeIs v T/\wpAny (model X.prog X.w) X.A (getItem v (.ref sl)) (EP X pins σ Q) X.xe s
def tSl (r:V->Option Int->Option Int->Hp->VK->Prop)(te:TE)(tl th:TO):TE:=fun σ H Q=>te σ H fun x H1=>tl σ H1 fun l H2=>th σ H2 fun u H3=>r x l u H3 Q
theorem zjR {r:V->Option Int->Option Int->Hp->VK->Prop}(hr:SlR X r)(he:PE X e te)(hl:PO X lo tl)(hu:PO X hi th):PE X (.Subscript e (.Slice lo hi none p2) pos) (tSl r te tl th):=by
 intro pins s σ H Q I h
 refine Subscript_ (thn (he pins s σ H _ I h) fun v s1 ⟨x,H1,I1,r1,q1⟩=>?_)
 refine wpAny_Slice (thn (hl pins s1 σ H1 _ I1 q1) fun vl s2 ⟨l,H2,I2,pl,q2⟩=>thn (hu pins s2 σ H2 _ I2 q2) fun vu s3 ⟨u,H3,I3,pu,q3⟩=>?_)
 rw [evalPart_none]
 refine wpAny_pure ?_
 have I4:Inv X pins σ H3 { s3 with heap:=s3.heap.push { cls:=.type "slice",data:=.fields #[vl,vu,.none] } }:=I3.kept (t':=s3.toks) fun b ob q=>Heap.get?_push_of_some _ q
 obtain ⟨T,id,hT,ht,hg⟩:=hr pins { s3 with heap:=s3.heap.push { cls:=.type "slice",data:=.fields #[vl,vu,.none] } } σ H3 x v vl vu l u s3.heap.objs.size Q I4 r1 (Heap.IsSliceOf.new ..) pl pu q3
 show wpAny (model X.prog X.w) X.A (subscriptTail e (.Slice lo hi none p2) v (.ref s3.heap.objs.size)) (EP X pins σ Q) X.xe { s3 with heap:=s3.heap.push { cls:=.type "slice",data:=.fields #[vl,vu,.none] } }
 exact tail_any (ops:=[.ref s3.heap.objs.size,v]) ht hT hg (by with_unfolding_all rfl)
def zcT (xs:List V)(lo hi:Option Int):List V:=(xs.drop (HT.sIx xs.length 0 lo)).take (HT.sIx xs.length xs.length hi - HT.sIx xs.length 0 lo)
theorem zbF (xs:List V)(lo hi:Option Int):(zcT xs lo hi).length<=xs.length:=by
 unfold zcT
 rw [List.length_take,List.length_drop]
 lia
def rSlT (K:PySem.W.Frag):V->Option Int->Option Int->Hp->VK->Prop:=fun x lo hi H Q=>∃ a xs,x = .ref a/\SqT K H a xs/\
 ¬ (HT.sIx xs.length 0 lo=0/\HT.sIx xs.length xs.length hi=xs.length)/\∀ p,H p=none->Q (.ref p) (upd H p (.tup (zcT xs lo hi)))
theorem zpS:SlR X (rSlT X.K):=by
 intro pins s σ H x v vl vu lo hi sl Q I rx hs pl pu h
 obtain ⟨a,xs,rfl,hx,hw,q⟩:=h
 cases rx
 obtain ⟨its,r,ht,hz⟩:=I.tuple hx
 have hlen:its.toArray.size=xs.length:=by rw [List.size_toArray];exact r.length.symm
 refine ⟨"tuple",_,PyProof.Rows.slot_tuple_getitem.lookup,ht.typeIs,?_⟩
 refine HT.getItem_tuple_cut ht hs pl pu (by rw [hlen];exact hw) ?_ (by rw [hlen];exact hz)
 rw [hlen]
 refine ⟨.ref s.heap.objs.size,_,I.laid (t':=s.toks) (o:=.tup (zcT xs lo hi)) (fun b ob q=>Heap.get?_push_of_some _ q) (Nat.le_refl _) ?_,rfl,q _ (I.hok.fresh (Nat.le_refl _))⟩
 exact ⟨Nat.le_trans (zbF xs lo hi) hz,_,(r.drop (HT.sIx xs.length 0 lo)).take (HT.sIx xs.length xs.length hi - HT.sIx xs.length 0 lo),zab.new _ _⟩
def zrV (K:PySem.W.Frag):R2:=fun x y H Q=>∃ a b xs ys,x = .ref a/\y = .ref b/\SqT K H a xs/\SqT K H b ys/\xs≠[]/\xs.length+ys.length<=sizeLine/\
 (ys=[]->Q (.ref a) H)/\(ys≠[]->∀ p,H p=none->Q (.ref p) (upd H p (.tup (xs++ys))))
theorem z0.nil_iff {xs:List V}{us:List Value}(r:z0 xs us):us=[]↔xs=[]:=by
 cases r with
 | nil=>simp
 | cons _ _=>simp
theorem zmf:OpR X (binaryOp .Add) (zrV X.K):=by
 intro pins s σ H x y v u Q I rx ry h
 obtain ⟨a,b,xs,ys,rfl,rfl,ha,hb,hx,hz,q1,q2⟩:=h
 cases rx
 cases ry
 obtain ⟨its,r1,p1,_⟩:=I.tuple ha
 obtain ⟨c,r2,p2,_⟩:=I.tuple hb
 refine HT.cat_tup p1 p2 (fun z=>hx (r1.nil_iff.mp z)) (fun z=>⟨.ref a,H,I,rfl,q1 (r2.nil_iff.mp z)⟩) (fun z=>?_) (by rw [<- r1.length,<- r2.length];exact hz)
 refine ⟨.ref s.heap.objs.size,_,I.laid (t':=s.toks) (o:=.tup (xs++ys)) (fun b ob q=>Heap.get?_push_of_some _ q) (Nat.le_refl _) ?_,rfl,q2 (fun w=>z (r2.nil_iff.mpr w)) _ (I.hok.fresh (Nat.le_refl _))⟩
 exact ⟨by rw [List.length_append];exact hz,_,r1.append r2,zab.new _ _⟩
end
def ixN (n:Nat)(i:Int):Option Nat:=if 0<=i then (if i<n then some i.toNat else none) else if -(n:Int)<=i then some (i+n).toNat else none
def atI {α:Type}(xs:List α)(i:Int):Option α:=(ixN xs.length i).bind fun j=>xs[j]?
theorem zhj {n:Nat}{i:Int}{j:Nat}(h:ixN n i=some j):seqIndex? i n=some j/\j<n/\-(n:Int)<=i/\i<n:=by
 unfold ixN at h
 by_cases h0:0<=i
 ·rw [if_pos h0] at h
  by_cases h1:i<n
  ·rw [if_pos h1] at h
   have e:i.toNat=j:=Option.some.inj h
   exact ⟨by rw [seqIndex_of h0 h1,e],by lia,by lia,h1⟩
  ·rw [if_neg h1] at h;cases h
 ·rw [if_neg h0] at h
  by_cases h1:-(n:Int)<=i
  ·rw [if_pos h1] at h
   have e:(i+n).toNat=j:=Option.some.inj h
   exact ⟨by rw [seqIndex_neg (by lia) h1,e],by lia,h1,by lia⟩
  ·rw [if_neg h1] at h;cases h
theorem zgt {α:Type}{xs:List α}{i:Int}{v:α}(h:atI xs i=some v):∃ j,seqIndex? i xs.length=some j/\xs[j]?=some v/\j<xs.length/\-(xs.length:Int)<=i/\i<xs.length:=by
 unfold atI at h
 cases e:ixN xs.length i with
 | none=>rw [e] at h;cases h
 | some j=>
  rw [e] at h
  obtain ⟨h1,h2,h3,h4⟩:=zhj e
  exact ⟨j,h1,h,h2,h3,h4⟩
theorem zlb {α:Type}{xs:List α}{j:Nat}{v:α}(h:xs[j]?=some v):atI xs (j:Int)=some v:=by
 have hj:j<xs.length:=(List.getElem?_eq_some_iff.mp h).1
 have e:ixN xs.length (j:Int)=some j:=by
  unfold ixN
  rw [if_pos (by lia),if_pos (by lia)];simp
 unfold atI;rw [e];exact h
def zeo (b:Expr):Prop:=∀ o i,subscripted b false o i=operate [o,i] (getItem o i)
def IxR (X:Cx)(r:R2):Prop:=
 ∀ (value slice:Expr) (pins:List (Addr×Obj)) (s:Shared) (σ:St) (H:Hp) (x y:V) (v u:Value) (Q:VK),Inv X pins σ H s->yu x v->yu y u->r x y H Q->
  subscripted slice false v u=operate [v,u] (getItem v u)->wpAny (model X.prog X.w) X.A (subscriptTail value slice v u) (EP X pins σ Q) X.xe s
def MtR (X:Cx)(id:String)(r:V->List V->Hp->VK->Prop):Prop:=
 ∀ (pins:List (Addr×Obj)) (s:Shared) (σ:St) (H:Hp) (x:V) (xs:List V) (v:Value) (us:List Value) (Q:VK),Inv X pins σ H s->yu x v->z0 xs us->r x xs H Q->
  wpAny (model X.prog X.w) X.A (call (.builtin id) (v::us)) (EP X pins σ Q) X.xe s
section
variable {X:Cx}{a b:Expr}{ta tb:TE}{pos:Pos}
theorem zrL {r:R2}(hr:IxR X r)(ha:PE X a ta)(hb:PE X b tb)(hs:zeo b):PE X (.Subscript a b pos) (tOp r ta tb):=by
 intro pins s σ H Q I h
 exact Subscript_ (zqR ha hb I h fun v u s2 x y H2 I2 rx ry q=>hr a b pins s2 σ H2 x y v u Q I2 rx ry q (hs _ _))
def zqA (K:PySem.W.Frag):R2:=fun x y H Q=>∃ p xs i v,x = .ref p/\y = .int i/\SqL K H p xs/\atI xs i=some v/\Q v H
def zqB (K:PySem.W.Frag):R2:=fun x y H Q=>∃ p xs i v,x = .ref p/\y = .int i/\SqT K H p xs/\atI xs i=some v/\Q v H
theorem zlL:IxR X (zqA X.K):=by
 intro value slice pins s σ H x y v u Q I rx ry h hs
 obtain ⟨p,xs,i,z,rfl,rfl,hq,he,q⟩:=h
 cases rx
 obtain ⟨t,rfl⟩:=ry
 obtain ⟨its,r,pl,hz⟩:=I.list hq
 obtain ⟨j,h1,h2,h3,h4,h5⟩:=zgt he
 obtain ⟨w,ew,a⟩:=r.get h2
 have hl:=r.length
 have hn:=zd1
 have fin:EP X pins σ Q w s:=⟨z,H,I,a,q⟩
 by_cases h0:0<=i
 ·have hj:i.toNat=j:=by
   rw [seqIndex_of h0 h5] at h1
   exact Option.some.inj h1
  exact item_listR pl.isList h0 (by lia) (by rw [hj];simpa using ew) fin hs
 ·have hj:(i+(its.toArray.size:Int)).toNat=j:=by
   rw [seqIndex_neg (by lia) h4] at h1
   rw [List.size_toArray,<- hl]
   exact Option.some.inj h1
  exact subscriptTail_builtinR (x:=w) pl.isList.typeIs slot_list_getitem.lookup
   (wpAny_getItem_list_neg (Q:=fun r s'=>r=w/\EP X pins σ Q r s') pl.isList (by lia) (by rw [List.size_toArray] <;> lia) (by lia) (by rw [hj];simpa using ew) ⟨rfl,fin⟩) hs
theorem zol:IxR X (zqB X.K):=by
 intro value slice pins s σ H x y v u Q I rx ry h hs
 obtain ⟨p,xs,i,z,rfl,rfl,hq,he,q⟩:=h
 cases rx
 obtain ⟨t,rfl⟩:=ry
 obtain ⟨its,r,pl,hz⟩:=I.tuple hq
 obtain ⟨j,h1,h2,h3,h4,h5⟩:=zgt he
 obtain ⟨w,ew,a⟩:=r.get h2
 have hl:=r.length
 have hn:=zd1
 have fin:EP X pins σ Q w s:=⟨z,H,I,a,q⟩
 exact subscriptTail_builtinR (x:=w) pl.typeIs slot_tuple_getitem.lookup
  (getItem_tuple (j:=j) (Q:=fun r s'=>r=w/\EP X pins σ Q r s') pl (by lia) (by lia) (by rw [List.size_toArray,<- hl];exact h1) (by simpa using ew) ⟨rfl,fin⟩) hs
theorem zf3 (its:List Value)(n j:Nat)(u:Value):Obj.mapSeq (·.setIfInBounds j u) { cls:=.type "list",data:=.seq its.toArray n }={ cls:=.type "list",data:=.seq (its.set j u).toArray n }:=by
 simp [Obj.mapSeq]
theorem Inv.lst {pins:List (Addr×Obj)}{σ:St}{H:Hp}{s:Shared}{p:Addr}{xs:List V}(I:Inv X pins σ H s)(h:H p=some (.lst xs)) :
  ∃ (its:List Value) (n:Nat),z0 xs its/\s.heap.get? p=some { cls:=.type "list",data:=.seq its.toArray n }/\xs.length<=sizeLine:=by
 obtain ⟨z,its,n,r,e⟩:=I.hok p _ h
 exact ⟨its,n,r,e,z⟩
theorem Inv.lstUpd {pins:List (Addr×Obj)}{σ:St}{H:Hp}{s:Shared}{p:Addr}{xs ys:List V}{its its':List Value}{n n':Nat}{f:Obj->Obj}(I:Inv X pins σ H s)(h:H p=some (.lst xs))
  (ho:s.heap.get? p=some { cls:=.type "list",data:=.seq its.toArray n }) (hf:f { cls:=.type "list",data:=.seq its.toArray n }={ cls:=.type "list",data:=.seq its'.toArray n' }) (r:z0 ys its') (hz:ys.length<=sizeLine) (t:Nat) :
  Inv X pins σ (upd H p (.lst ys)) { s with heap:=s.heap.update p f,toks:=t }:=by
 have e:(s.heap.update p f).get? p=some { cls:=.type "list",data:=.seq its'.toArray n' }:=by
  rw [Heap.get?_update_self f ho (by rw [hf] <;> rfl),hf]
 refine I.write (x:=p) (e:=p) (by rw [h];trivial) (.inl rfl) (fun b u hb q=>(Heap.get?_update_other _ _ (Ne.symm hb)).trans q) ⟨_,e⟩ ?_
 exact ⟨hz,its',n',r,e⟩
def zrW:V->V->V->Hp->(Hp->Prop)->Prop:=fun o i v H Q=>∃ p xs k j,o = .ref p/\i = .int k/\H p=some (.lst xs)/\ixN xs.length k=some j/\Q (upd H p (.lst (xs.set j v)))
theorem zkd:PSet X zrW:=by
 intro pins s σ H o i v ov iv u Q I ro ri rv h
 obtain ⟨p,xs,k,j,rfl,rfl,hp,hj,q⟩:=h
 cases ro
 obtain ⟨t,rfl⟩:=ri
 obtain ⟨its,n,r,ho,hz⟩:=I.lst hp
 obtain ⟨h1,h2,h3,h4⟩:=zhj hj
 have hl:=r.length
 have hn:=zd1
 have I':Inv X pins σ (upd H p (.lst (xs.set j v))) { s with heap:=s.heap.update p (Obj.mapSeq (·.setIfInBounds j u)) }:=
  I.lstUpd hp ho (zf3 its n j u) (r.set rv j) (by rw [List.length_set];exact hz) s.toks
 by_cases h0:0<=k
 ·have hk:k.toNat=j:=by
   rw [seqIndex_of h0 h4] at h1
   exact Option.some.inj h1
  exact PySem.W.ki_setAt ho h0 (by lia) (by rw [List.size_toArray,<- hl];exact h4) (by rw [hk];exact ⟨_,I',q⟩)
 ·have hk:(k+(its.toArray.size:Int)).toNat=j:=by
   rw [seqIndex_neg (by lia) h3] at h1
   rw [List.size_toArray,<- hl]
   exact Option.some.inj h1
  exact PySem.W.ki_setBack ho (by lia) (by rw [List.size_toArray,<- hl];exact h3) (by lia) (by rw [hk];exact ⟨_,I',q⟩)
theorem zed (lo hi:Option Int)(n:Nat):(sliceBounds lo hi none n).1=((HT.sIx n 0 lo:Nat):Int)/\(sliceBounds lo hi none n).2.1=((HT.sIx n n hi:Nat):Int)/\(sliceBounds lo hi none n).2.2=1:=by
 refine ⟨?_,?_,rfl⟩
 ·cases lo with
  | none=>simp [sliceBounds,HT.sIx]
  | some i=>
   simp only [sliceBounds,HT.sIx,Option.getD_none,show (1:Int) > 0 by decide,if_true]
   by_cases h:i<0
   ·simp only [h,if_true] <;> lia
   ·simp only [h,if_false] <;> lia
 ·cases hi with
  | none=>simp [sliceBounds,HT.sIx]
  | some i=>
   simp only [sliceBounds,HT.sIx,Option.getD_none,show (1:Int) > 0 by decide,if_true]
   by_cases h:i<0
   ·simp only [h,if_true] <;> lia
   ·simp only [h,if_false] <;> lia
theorem zdr (its:List Value)(lo hi:Option Int):slicePick its.toArray lo hi none=((its.drop (HT.sIx its.length 0 lo)).take (HT.sIx its.length its.length hi - HT.sIx its.length 0 lo)).toArray:=by
 obtain ⟨h1,h2,h3⟩:=zed lo hi its.toArray.size
 unfold slicePick
 rw [h1,h2,h3]
 simp only [sliceRange_one,pick_run,List.size_toArray] <;> rfl
def rSlL (K:PySem.W.Frag):V->Option Int->Option Int->Hp->VK->Prop:=fun x lo hi H Q=>∃ a xs,x = .ref a/\SqL K H a xs/\∀ p,H p=none->Q (.ref p) (upd H p (.lst (zcT xs lo hi)))
theorem znd:SlR X (rSlL X.K):=by
 intro pins s σ H x v vl vu lo hi sl Q I rx hs pl pu h
 obtain ⟨a,xs,rfl,hx,q⟩:=h
 cases rx
 obtain ⟨its,r,ht,hz⟩:=I.list hx
 have hlen:=r.length
 refine ⟨"list",_,slot_list_getitem.lookup,ht.isList.typeIs,?_⟩
 refine wpAny_getItem_list_slice ht.isList hs pl pu .none (by simp) ?_ (by rw [List.size_toArray] <;> lia)
 rw [zdr,<- hlen]
 refine ⟨.ref s.heap.objs.size,_,I.laid (t':=s.toks) (o:=.lst (zcT xs lo hi)) (fun b ob q=>Heap.get?_push_of_some _ q) (Nat.le_refl _) ?_,rfl,q _ (I.hok.fresh (Nat.le_refl _))⟩
 exact ⟨Nat.le_trans (zbF xs lo hi) hz,_,0,(r.drop (HT.sIx xs.length 0 lo)).take (HT.sIx xs.length xs.length hi - HT.sIx xs.length 0 lo),Heap.get?_push_size _ rfl⟩
def zcV:V->Bool
 | .non=>true
 | .bl _=>true
 | .int _=>true
 | .str _=>true
 | _=>false
def eqV:V->V->Bool
 | .non,.non=>true
 | .bl a,.bl b=>a==b
 | .bl a,.int b=>(if a then 1 else 0)==b
 | .int a,.bl b=>a==(if b then 1 else 0)
 | .int a,.int b=>a==b
 | .str a,.str b=>a==b
 | _,_=>false
theorem zn9 {A:Around}{s:Shared}{y x:V}{u v:Value}(ry:yu y u)(rx:yu x v)(fy:zcV y=true)(fx:zcV x=true):SeqAt.EqAt A s u v (eqV y x):=by
 cases y with
 | non=>
  cases ry
  cases x with
  | non=>cases rx;exact SeqAt.EqAt.same _
  | bl b=>cases rx;exact SeqAt.EqAt.none_bool b
  | int b=>obtain ⟨t,rfl⟩:=rx;exact SeqAt.EqAt.none_int b t
  | str b=>obtain ⟨t,rfl⟩:=rx;exact SeqAt.EqAt.none_str b t
  | _=>exact absurd (show false=true from fx) Bool.false_ne_true
 | bl a=>
  cases ry
  cases x with
  | non=>cases rx;exact SeqAt.EqAt.bool_none a
  | bl b=>cases rx;exact SeqAt.EqAt.bool_bool a b
  | int b=>obtain ⟨t,rfl⟩:=rx;exact SeqAt.EqAt.bool_int a b t
  | str b=>obtain ⟨t,rfl⟩:=rx;exact SeqAt.EqAt.bool_str a b t
  | _=>exact absurd (show false=true from fx) Bool.false_ne_true
 | int a=>
  obtain ⟨t',rfl⟩:=ry
  cases x with
  | non=>cases rx;exact SeqAt.EqAt.int_none a t'
  | bl b=>cases rx;exact SeqAt.EqAt.int_bool a t' b
  | int b=>obtain ⟨t,rfl⟩:=rx;exact SeqAt.EqAt.int_int a t' b t
  | str b=>obtain ⟨t,rfl⟩:=rx;exact SeqAt.EqAt.int_str a t' b t
  | _=>exact absurd (show false=true from fx) Bool.false_ne_true
 | str a=>
  obtain ⟨t',rfl⟩:=ry
  cases x with
  | non=>cases rx;exact SeqAt.EqAt.str_none a t'
  | bl b=>cases rx;exact SeqAt.EqAt.str_bool a t' b
  | int b=>obtain ⟨t,rfl⟩:=rx;exact SeqAt.EqAt.str_int a t' b t
  | str b=>obtain ⟨t,rfl⟩:=rx;exact SeqAt.EqAt.str_str a t' b t
  | _=>exact absurd (show false=true from fx) Bool.false_ne_true
 | _=>exact absurd (show false=true from fy) Bool.false_ne_true
def eqU (x:V)(u:Value):Bool:=match u with
 | .none=>eqV .non x
 | .bool b=>eqV (.bl b) x
 | .int i _=>eqV (.int i) x
 | .str z _=>eqV (.str z) x
 | _=>false
theorem zkw {x y:V}{u:Value}(r:yu y u)(f:zcV y=true):eqU x u=eqV y x:=by
 cases y with
 | non=>cases r;rfl
 | bl b=>cases r;rfl
 | int i=>obtain ⟨t,rfl⟩:=r;rfl
 | str z=>obtain ⟨t,rfl⟩:=r;rfl
 | _=>exact absurd (show false=true from f) Bool.false_ne_true
theorem zeq {x:V}:∀ {xs:List V} {us:List Value},z0 xs us->xs.all zcV=true->us.any (eqU x)=xs.any fun y=>eqV y x
 | _,_,.nil,_=>rfl
 | y::xs,u::us,.cons r t,f=>by
  rw [List.all_cons,Bool.and_eq_true] at f
  rw [List.any_cons,List.any_cons,zkw r f.1,zeq t f.2]
theorem zdb {A:Around}{s:Shared}{x:V}{v:Value}(rx:yu x v)(fx:zcV x=true):∀ {xs:List V} {us:List Value},z0 xs us->xs.all zcV=true->∀ u∈us,SeqAt.EqAt A s u v (eqU x u)
 | _,_,.nil,_=>fun u hu=>by cases hu
 | y::xs,u::us,.cons r t,f=>fun u' hu=>by
  rw [List.all_cons,Bool.and_eq_true] at f
  rcases List.mem_cons.mp hu with rfl | hu
  ·rw [zkw r f.1];exact zn9 r rx f.1 fx
  ·exact zdb rx fx t f.2 u' hu
def inV (x:V)(xs:List V):Bool:=xs.any fun y=>eqV y x
def rIn (K:PySem.W.Frag)(neg:Bool):R2:=fun x y H Q=>∃ p xs,y = .ref p/\(SqL K H p xs\/SqT K H p xs)/\zcV x=true/\xs.all zcV=true/\Q (.bl (if neg then !inV x xs else inV x xs)) H
theorem zd6:OpR X (compareOp .NotIn) (rIn X.K true):=by
 intro pins s σ H x y v u Q I rx ry h
 obtain ⟨p,xs,rfl,hq,fx,fs,q⟩:=h
 cases ry
 rcases hq with hq | hq
 ·obtain ⟨its,r,pl,hz⟩:=I.list hq
  refine SeqAt.notIn_listAt (eqU x) pl.isList (fun w hw=>zdb rx fx r fs w (by simpa using hw)) ⟨.bl _,H,I,rfl,?_⟩
  rw [show its.toArray.any (eqU x)=its.any (eqU x) by simp,zeq r fs]
  exact q
 ·obtain ⟨its,r,pl,hz⟩:=I.tuple hq
  refine SeqAt.notIn_tupleAt (eqU x) pl (fun w hw=>zdb rx fx r fs w (by simpa using hw)) ⟨.bl _,H,I,rfl,?_⟩
  rw [show its.toArray.any (eqU x)=its.any (eqU x) by simp,zeq r fs]
  exact q
theorem zdK:zcH X (.type "list") (fun xs H Q=>∃ p ys,xs=[.ref p]/\(SqL X.K H p ys\/SqT X.K H p ys)/\∀ l,H l=none->Q (.ref l) (upd H l (.lst ys))):=by
 intro pins s σ H xs us Q I r h
 obtain ⟨p,ys,rfl,hq,q⟩:=h
 obtain ⟨u,rfl,rx⟩:=zaU r
 cases rx
 have fin:∀ (its:List Value),z0 ys its->ys.length<=sizeLine->∀ (h':Heap) (c':Nat),(∀ b o',s.heap.get? b=some o'->h'.get? b=some o')->
   h'.get? s.heap.objs.size=some { cls:=.type "list",dict:=none,data:=.seq its.toArray c',slots:=#[] }->EP X pins σ Q (.ref s.heap.objs.size) { s with heap:=h' }:=fun its r' hz h' c' kp e=>
  ⟨.ref s.heap.objs.size,_,I.laid (t':=s.toks) kp (Nat.le_refl _) (show yh X.prog X.w _ h' _ (.lst ys) from ⟨hz,its,c',r',e⟩),rfl,q _ (I.hok.fresh (Nat.le_refl _))⟩
 rcases hq with hq | hq
 ·obtain ⟨its,r',pl,hz⟩:=I.list hq
  have hlen:=r'.length
  obtain ⟨o,ho,hc,n,hd⟩:=pl.isList
  exact call_list_seq p (.inl rfl) ho hc hd (fun h' c' kp e=>fin its r' hz h' c' kp e) (by simp only [List.size_toArray] <;> lia)
 ·obtain ⟨its,r',pl,hz⟩:=I.tuple hq
  have hlen:=r'.length
  obtain ⟨o,ho,hc,n,hd⟩:=pl
  exact call_list_seq p (.inr rfl) ho hc hd (fun h' c' kp e=>fin its r' hz h' c' kp e) (by simp only [List.size_toArray] <;> lia)
theorem zcP:zcH X (.type "tuple") (fun xs H Q=>∃ p ys,xs=[.ref p]/\((SqL X.K H p ys/\∀ l,H l=none->Q (.ref l) (upd H l (.tup ys)))\/(SqT X.K H p ys/\Q (.ref p) H))):=by
 intro pins s σ H xs us Q I r h
 obtain ⟨p,ys,rfl,h⟩:=h
 obtain ⟨u,rfl,rx⟩:=zaU r
 cases rx
 rcases h with ⟨hq,q⟩ | ⟨hq,q⟩
 ·obtain ⟨its,r',pl,hz⟩:=I.list hq
  have hlen:=r'.length
  refine call_tuple_list pl.isList (fun h' kp=>?_) (by simp only [List.size_toArray] <;> lia)
  have I1:Inv X pins σ H { s with heap:=h' }:=I.kept (t':=s.toks) kp
  have I2:Inv X pins σ (upd H h'.objs.size (.tup ys)) { s with heap:=h'.push { cls:=.type "tuple",data:=.seq its.toArray } }:=
   I1.laid (t':=s.toks) (fun b o e=>Heap.get?_push_of_some _ e) (Nat.le_refl _) (show yh X.prog X.w _ _ _ (.tup ys) from ⟨hz,its,r',zab.new _ _⟩)
  exact ⟨.ref h'.objs.size,_,I2,rfl,q _ (I1.hok.fresh (Nat.le_refl _))⟩
 ·obtain ⟨its,r',pl,hz⟩:=I.tuple hq
  exact call_tuple_same pl ⟨.ref p,H,I,rfl,q⟩
def tyV (K:PySem.W.Frag)(T:String)(x:V)(H:Hp):Prop:=match x with
 | .str _=>T = "str"
 | .int _=>T = "int"
 | .ref p=>(T = "list" /\ ∃ xs,SqL K H p xs)\/(T = "tuple" /\ ∃ o,K.lookup p=some o/\o.cls = .type "tuple" /\ o.dict=none)\/
   (T = "dict" /\ ((∃ kvs,H p=some (.dK kvs))\/∃ kvs,H p=some (.dT kvs)))\/(T = "set" /\ ∃ S n,H p=some (.set S n))
 | _=>False
theorem zp3 {pins:List (Addr×Obj)}{σ:St}{H:Hp}{s:Shared}{T:String}{x:V}{v:Value}(I:Inv X pins σ H s)(r:yu x v)(ty:tyV X.K T x H) :
  s.TypeIs v T/\∀ a,v = .ref a->∃ ob,s.heap.get? a=some ob/\ob.dict=none:=by
 cases x with
 | str z=>
  obtain ⟨t,rfl⟩:=r
  cases (show T = "str" from ty)
  exact ⟨typeIs_str s z t,fun _ e=>nomatch e⟩
 | int i=>
  obtain ⟨t,rfl⟩:=r
  cases (show T = "int" from ty)
  exact ⟨typeIs_int s i t,fun _ e=>nomatch e⟩
 | ref p=>
  cases r
  rcases ty with ⟨rfl,xs,hq⟩ | ⟨rfl,o,hk,hc,hd⟩ | ⟨rfl,hk⟩ | ⟨rfl,S,n,hk⟩
  ·obtain ⟨its,_,pl,_⟩:=I.list hq
   refine ⟨pl.isList.typeIs,fun a e=>?_⟩
   cases e
   obtain ⟨o,n,e,c,hd,_⟩:=pl
   exact ⟨o,e,hd⟩
  ·refine ⟨⟨o,I.kIn p o hk,hc⟩,fun a e=>?_⟩
   cases e
   exact ⟨o,I.kIn _ o hk,hd⟩
  ·have z:∃ o,s.heap.get? p=some o/\o.ExactDict:=by
    rcases hk with ⟨kvs,hk⟩ | ⟨kvs,hk⟩
    ·obtain ⟨_,_,_,_,o,_,_,e,ex,_⟩:=I.hok p _ hk
     exact ⟨o,e,ex⟩
    ·obtain ⟨_,_,_,_,o,_,_,e,ex,_⟩:=I.hok p _ hk
     exact ⟨o,e,ex⟩
   obtain ⟨o,e,ex⟩:=z
   refine ⟨⟨o,e,ex.1⟩,fun a e2=>?_⟩
   cases e2
   exact ⟨o,e,ex.2.1⟩
  ·obtain ⟨o,_,_,_,e,ex,_⟩:=I.hok p _ hk
   refine ⟨⟨o,e,ex.1⟩,fun a e2=>?_⟩
   cases e2
   exact ⟨o,e,ex.2.1⟩
 | _=>exact False.elim ty
def tBM (K:PySem.W.Frag)(T:String)(r:V->List V->Hp->VK->Prop)(to:TE)(t:TA):TE:=fun σ H Q=>to σ H fun x H1=>tyV K T x H1/\t σ H1 fun xs H2=>r x xs H2 Q
variable {o e:Expr}{es:List Expr}{to:TE}{t:TA}{name:Str}{apos cpos:Pos}{T id:String}{r:V->List V->Hp->VK->Prop}
theorem zoZ (pa:PlainAttrs T)(slot:Slot T name id)(hty:typeOf (.builtin id)=pure (.type "method_descriptor"))(hm:MtR X id r)(ho:PE X o to)(ha:PA X (e::es) t)
  (hbase:attributeBase o name X.env (eval o X.env)=eval o X.env:=by rfl)
  (hfew:((backTo cpos (starEach (e::es) X.env)).all (fun x=>!x.1)&&(backToKw cpos (keywordEach [] X.env)).all (fun x=>x.1.isSome)
   && decide ((e::es).length+([]:List Keyword).length+(if ([]:List Keyword).isEmpty then 0 else 1)<30))=true:=by rfl)
  (hline:(apos.endLine==cpos.line)=true:=by rfl) (hs:starEach (e::es) X.env=(false,eval e X.env)::starEach es X.env:=by rfl) (hplain:(backTo cpos (starEach es X.env)).any (·.1)=false:=by rfl) :
  PE X (.Call (.Attribute o name apos) (e::es) [] cpos) (tBM X.K T r to t):=by
 intro pins s σ H Q I h
 refine wpAny_Call_method_late hbase hfew hline rfl (thn (ho pins s σ H _ I h) fun v s1 ⟨x,H1,I1,r1,ty,q1⟩=>?_)
 obtain ⟨h1,h2⟩:=zp3 I1 r1 ty
 refine ⟨T,id,pa,slot,hty,h1,h2,?_⟩
 have hA:=ha cpos pins s1 σ H1 _ I1 q1
 rw [hs] at hA ⊢
 refine Calls.callWith_builtin (by show (false || (backTo cpos (starEach es X.env)).any (·.1))=false;rw [hplain] <;> rfl) (Calls.evalArgs_plain ?_)
 exact thn hA fun us s2 ⟨vs,H2,I2,r2,q2⟩=>hm pins s2 σ H2 x vs v us Q I2 r1 r2 q2
end
def MtM (X:Cx)(id:String)(r:V->List V->Hp->VK->Prop):Prop:=
 ∀ (pins:List (Addr×Obj)) (s:Shared) (σ:St) (H:Hp) (x:V) (xs:List V) (v:Value) (us:List Value) (Q:VK),Inv X pins σ H s->yu x v->z0 xs us->r x xs H Q->
  wpAny (model X.prog X.w) X.A (call (.builtin id) (v::us)) (EP X pins σ Q) X.xe s
theorem z0.one:∀ {x:V} {us:List Value},z0 [x] us->∃ u,us=[u]/\yu x u
 | _,_,.cons r .nil=>⟨_,rfl,r⟩
section
variable {X:Cx}{pins:List (Addr×Obj)}{σ:St}{H:Hp}{s:Shared}{l b:Addr}{xs ys zs:List V}
theorem Inv.lset {its its':List Value}{n:Nat}{f:Array Value->Array Value}{t':Nat}(I:Inv X pins σ H s)(hH:H l=some (.lst xs))
  (e:s.heap.get? l=some { cls:=.type "list",data:=.seq its.toArray n }) (hf:f its.toArray=its'.toArray) (hv:z0 ys its') (hz:ys.length<=sizeLine) :
  Inv X pins σ (upd H l (.lst ys)) { s with heap:=s.heap.update l (Obj.mapSeq f),toks:=t' }:=by
 have q:=PySem.IsL.update e f
 rw [hf] at q
 refine I.write (x:=l) (e:=l) (by rw [hH];exact trivial) (.inl rfl) (fun b' u hb hu=>(Heap.get?_update_other s.heap (Obj.mapSeq f) (Ne.symm hb)).trans hu) ⟨_,q⟩ ?_
 exact ⟨hz,its',_,hv,q⟩
theorem Inv.lnew {its:List Value}{t':Nat}(I:Inv X pins σ H s)(hv:z0 ys its)(hz:ys.length<=sizeLine) :
  Inv X pins σ (upd H s.heap.objs.size (.lst ys)) { s with heap:=s.heap.push { cls:=.type "list",data:=.seq its.toArray },toks:=t' }:=
 I.laid (fun _ _ q=>Heap.get?_push_of_some _ q) (Nat.le_refl _) ⟨hz,its,0,hv,Heap.get?_push_size _ rfl⟩
theorem Inv.fresh (I:Inv X pins σ H s):H s.heap.objs.size=none:=I.hok.fresh (Nat.le_refl _)
theorem Inv.lstM (I:Inv X pins σ H s)(hH:H l=some (.lst xs)):xs.length<=sizeLine/\∃ (its:List Value) (n:Nat),z0 xs its/\xs.length=its.length/\s.heap.get? l=some { cls:=.type "list",data:=.seq its.toArray n }:=by
 obtain ⟨z,its,n,r,e⟩:=I.hok l _ hH
 exact ⟨z,its,n,r,r.length,e⟩
theorem zjG {n:Nat}(h:n<=sizeLine):Builtin.List.listTooLong n=false:=by
 unfold Builtin.List.listTooLong
 exact decide_eq_false (by lia)
end
section
variable {X:Cx}
def ze4:V->List V->Hp->VK->Prop:=fun x vs H Q=>∃ l xs y,x = .ref l/\vs=[y]/\H l=some (.lst xs)/\xs.length<sizeLine/\Q .non (upd H l (.lst (xs++[y])))
theorem zaH:MtM X "list.append" ze4:=by
 intro pins s σ H x vs v us Q I rx rv h
 obtain ⟨l,xs,y,rfl,rfl,hH,hz,q⟩:=h
 cases rx
 obtain ⟨u,rfl,ru⟩:=rv.one
 obtain ⟨z,its,n,r,hl,e⟩:=I.lstM hH
 refine call_meets F.slot_list_append ⟨_,e,rfl⟩ F.entry_list_append (F.args_list_append_2 _ _) (PySem.list_append l its.toArray n u (by rw [List.size_toArray];lia)) ⟨e,?_⟩
 refine ⟨.non,_,I.lset (its':=its++[u]) hH e (by simp) (r.append (.cons ru .nil)) ?_,rfl,q⟩
 rw [List.length_append,List.length_singleton]
 lia
def zm2:V->List V->Hp->VK->Prop:=fun x vs H Q=>∃ l b xs zs,x = .ref l/\vs=[.ref b]/\H l=some (.lst xs)/\H b=some (.lst zs)/\xs.length+zs.length<=sizeLine/\Q .non (upd H l (.lst (xs++zs)))
theorem zhM:MtM X "list.extend" zm2:=by
 intro pins s σ H x vs v us Q I rx rv h
 obtain ⟨l,b,xs,zs,rfl,rfl,hH,hB,hz,q⟩:=h
 cases rx
 obtain ⟨u,rfl,ru⟩:=rv.one
 cases ru
 obtain ⟨z,its,n,r,hl,e⟩:=I.lstM hH
 obtain ⟨z2,a,n2,r2,d,e2⟩:=I.lstM hB
 have hsz:its.toArray.size+a.toArray.size<=sizeLine:=by rw [List.size_toArray,List.size_toArray];lia
 have c:¬ (!its.toArray.isEmpty&&Builtin.List.listTooLong (its.toArray.size+a.toArray.size))=true:=by
  rw [zjG hsz,Bool.and_false]
  exact Bool.false_ne_true
 refine call_meets F.slot_list_extend ⟨_,e,rfl⟩ F.entry_list_extend (F.args_list_extend_2 _ _)
  (AutoSeq1.list_extend_list_list_0 l its.toArray n b a.toArray n2 c (by rw [List.size_toArray];lia) (by lia)) ⟨e,e2,?_⟩
 refine ⟨.non,_,I.lset (its':=its++a) hH e (by simp) (r.append r2) ?_,rfl,q⟩
 rw [List.length_append]
 lia
def rCat:R2:=fun x y H Q=>∃ l b xs zs,x = .ref l/\y = .ref b/\H l=some (.lst xs)/\H b=some (.lst zs)/\xs.length+zs.length<=sizeLine/\∀ p,H p=none->Q (.ref p) (upd H p (.lst (xs++zs)))
theorem zoL:OpR X (binaryOp .Add) rCat:=by
 intro pins s σ H x y v u Q I rx ry h
 obtain ⟨l,b,xs,zs,rfl,rfl,hH,hB,hz,q⟩:=h
 cases rx
 cases ry
 obtain ⟨z,its,n,r,hl,e⟩:=I.lstM hH
 obtain ⟨z2,a,n2,r2,c,e2⟩:=I.lstM hB
 refine PySem.P.add_list e e2 ?_ (by rw [List.size_toArray,List.size_toArray];lia)
 have ea:its.toArray++a.toArray=(its++a).toArray:=by simp
 rw [ea]
 exact ⟨.ref _,_,I.lnew (t':=s.toks) (r.append r2) (by rw [List.length_append];lia),rfl,q _ I.fresh⟩
end
section
variable {prog:Program}{w:World}{A:Around}{E:Value->Shared->Prop}{s:Shared}
end
section
variable {X:Cx}
end
end L2
namespace Att
open PySem PySem.W PySem.Calls PyProof.Rows
theorem zbK {P:Params}{h:Heap}:∀ (ns:List Int) (vs:List Value),WellAll P h vs (ns.map WData.int)->IntsAre vs ns:=by
 intro ns
 induction ns with
 | nil=>
  intro vs w
  rw [List.map_nil] at w
  cases w
  exact .nil
 | cons n ns ih=>
  intro vs w
  rw [List.map_cons] at w
  cases w with
  | cons a b=>
   cases a
   exact .cons _ _ (ih _ b)
theorem zio {l:OpenLaw}{n:Nat}(hn:l.most=some n){P:Params}{h:Heap}{args:List WData}{vals:List Value}
  (hpre:l.row.toRowW.claim.pre args=true) (hwl:WellAll P h vals args) :
  ∃ a vs ns,vals=[Value.ref a]/\args=[WData.list (ns.map WData.int)]/\h.get? a=some { cls:=.type "list",data:=.seq vs.toArray }/\IntsAre vs ns/\ns.length<=n:=by
 have c:WShape.hasAll [] args [.list .int]=true:=(pre_splitW hpre).1
 have hc:l.pre.holds [] { args:=args }=true:=(pre_splitW hpre).2
 obtain ⟨d,r,rfl,h1,h2⟩:=hasAllW_cons c
 obtain rfl:=hasAllW_nil h2
 obtain ⟨xs,rfl,h3⟩:=hasW_list h1
 obtain ⟨ns,rfl⟩:=items_int h3
 have hlen:ns.length<=n:=by
  unfold OpenLaw.pre at hc
  have h4:(WTm.not (.lt (.lit (.int (n:Int))) (.len (.arg 0)))).holds [] { args:=[.list (ns.map .int)] }=true:=by
   have h4:=(holds_andW hc).1
   rw [hn] at h4
   exact h4
  have h5:=condW_of h4 (w_not (w_lt w_lit (w_len_list (w_arg rfl))))
  rw [List.length_map] at h5
  refine Nat.le_of_not_lt fun q=>?_
  have q':(n:Int)<((ns.length:Nat):Int):=by lia
  first
   | (rw [decide_eq_true q'] at h5;exact absurd h5 (by decide))
   | (simp at h5;lia)
 cases hwl with
 | cons w1 w2=>
  cases w2
  cases w1 with
  | list ho b=>exact ⟨_,_,ns,rfl,rfl,ho,zbK ns _ b,hlen⟩
theorem zh6 (l:OpenLaw)(args:List WData):l.row.toRowW.claim.post args (.bool true) args=true:=
 postW_of (r:=l.row.toRowW) (X:=(true==true))
  (show WShape.has [] (.bool true) .bool=true by first | rfl | decide | simp [WShape.has,WShape.arms,WShape.armsAll])
  (show (WTm.eq .res (.lit (.bool true))).value [] { args:=args,res:=some (.bool true),after:=args }=some (.bool (true==true)) from w_eq_bool (w_res rfl) w_lit) rfl
theorem attach_call {l:OpenLaw}{n:Nat}{q:Program}{loose:List Str}{XP:(Str->Option Value)->Heap->Prop}{YP:World->Heap->Prop}{d:DefRec}
  (hn:l.most=some n) (hdf:d.params.defaults=[])
  (call:∀ (w:World) (s₀ s₁:Shared) (mg mb:Str->Option Value) (fa:Addr) (o:Obj) (pm cd doc:Value) (a:Addr) (vs:List Value) (ns:List Int),
   Ground q loose [] XP w s₀ mg mb s₁.heap->YP w s₁.heap->
   s₁.heap.get? fa=some o->o.data = .func (docDef d.name d.params d.body d.scope pm cd doc)->s₁.heap.CodeRec cd d.name->mg d.name=some (.ref fa)->
   s₁.heap.get? a=some { cls:=.type "list",data:=.seq vs.toArray }->IntsAre vs ns->ns.length<=n->s₁.gens = #[]->
   codeAny (model l.prog w) callerA (.call (.ref fa) ⟨[.ref a],[]⟩) (fun r s'=>r = .ok (.ret (.bool true))/\OldK s₁.heap s'.heap/\s'.os=s₁.os/\AllBare s'.gens) s₁) :
  WalkO q loose XP YP l.row.toRowW d [] (fun f vs=>PySem.call f vs):=by
 intro w s₀ s₁ mg mb G Y fa o pm cd doc dV kV ho hd e hD g hg args vals as b i j h k
 obtain rfl:dV = .none:=Dflts.none hD hdf
 obtain rfl:kV = .none:=Dflts.noKw hD
 obtain ⟨a,vs,ns,rfl,rfl,c,hints,hlen⟩:=zio hn b h
 refine enter_call (codeAny_mono (call w s₀ s₁ mg mb fa o pm cd doc a vs ns G Y ho (fd_plain hd) e g c hints hlen hg) fun r s' hq=>?_)
 obtain ⟨rfl,h2,h3,h4⟩:=hq
 exact ⟨.inl ⟨.bool true,.bool true,[],rfl,fun _=>rfl,.bool true,zh6 l _,fun _=>⟨List.Pairwise.nil,fun _ hm=>(nomatch hm)⟩⟩,h2,h3,h4⟩
section
variable {prog:Program}{w:World}{A:Around}{E:Value->Shared->Prop}{s:Shared}{K:Frag}
def ledger (h:Heap)(L d:Addr):List (Addr×Obj):=(List.range h.objs.size).filterMap fun a=>if a=L\/a=d then none else (h.get? a).map fun o=>(a,o)
end
end Att
namespace L2
open PySem PySem.Spec PyProof.Rows
theorem zeh:∀ {vs:List Value} {ns:List Int},IntsAre vs ns->z0 (ns.map V.int) vs
 | _,_,.nil=>.nil
 | _,_,.cons n t h=>.cons ⟨t,rfl⟩ (zeh h)
def zqL (H:Hp):Prop:=∀ b,H b=none\/∃ o xs,H b=some (.frz o (.lst xs))
theorem zjv {P:Program}{w:World}{K:PySem.W.Frag}{mg mb:Str->Option Value}{CX:CXT}{k:Nat}{fa a:Addr}{fd:FuncData}{x:Str}{sp:Sp}{s₁:Shared}{vs:List Value}{ns:List Int}
  (KX:K.In s₁.heap) (hns:s₁.heap.Ns mainGlobals mg) (hb:s₁.heap.Ns builtinsNs mb) (hbb:∀ x:Str,x ≠ "__name__" -> mb x=bootBuiltins x) (hlim:s₁.heap.NoLimit) (hg:s₁.gens = #[])
  (ha:s₁.heap.get? a=some { cls:=.type "list",data:=.seq vs.toArray }) (hi:IntsAre vs ns) (hl:ns.length<=sizeLine) (hr:Room k callerA)
  (F:∀ base:Heap,K.In base->base.Ns mainGlobals mg->FnOk P w K mg base CX k fa fd [x] sp) (hbind:∀ (s:Shared) (u:Value),BindsTo s fd ⟨[u],[]⟩ [(x,u)])
  (hsp:∀ H:Hp,zqL H->SqL K H a (ns.map V.int)->sp [.ref a] H (fun v _=>v = .bl true) fun _ _ _=>False)
  (hCX:∀ H e s',CX [] H s₁ (fun _ _ _=>False) e s'->False) :
  codeAny (model P w) callerA (.call (.ref fa) ⟨[.ref a],[]⟩) (fun r s'=>r = .ok (.ret (.bool true))/\OldK s₁.heap s'.heap/\s'.os=s₁.os/\AllBare s'.gens) s₁:=by
 have rv:=zeh hi
 have g:=hi.length
 have core:∀ H:Hp,zqL H->SqL K H a (ns.map V.int)->HOk P w H s₁.heap->(∀ b,H b≠none->b=a)->(H a≠none->K.lookup a=none)->
   codeAny (model P w) callerA (.call (.ref fa) ⟨[.ref a],[]⟩) (fun r s'=>r = .ok (.ret (.bool true))/\OldK s₁.heap s'.heap/\s'.os=s₁.os/\AllBare s'.gens) s₁:=by
  intro H hO hS hok hA hK
  have c:∀ {b:Addr} {o:Obj},s₁.heap.get? b=some o->H b=none->(zjg s₁.heap H).get? b=some o:=fun e n=>zjh e n
  have l:∀ {b:Addr} {o:Obj} {es:Array DictEntry} {ep:Nat},s₁.heap.get? b=some o->o.data = .dict es ep->H b=none:=fun {b o es ep} e d=>by
   cases q:H b with
   | none=>rfl
   | some u=>
    have e':b=a:=hA b (by rw [q];simp)
    subst e'
    rw [ha] at e;cases e
    have d':Data.seq vs.toArray _=Data.dict es ep:=d
    cases d'
  have f:∀ {b:Addr} {m:Str->Option Value},s₁.heap.Ns b m->(zjg s₁.heap H).Ns b m:=fun {b m} ⟨o,es,ep,e,d,r⟩=>⟨o,es,ep,c e (l e d),d,r⟩
  have i:K.In (zjg s₁.heap H):=fun b o e=>c (KX b o e) (by
   cases q:H b with
   | none=>rfl
   | some u=>
    have e':b=a:=hA b (by rw [q];simp)
    subst e'
    rw [hK (by rw [q];simp)] at e;cases e)
  have hM:Mod K mg (zjg s₁.heap H):=⟨i,f hns,⟨mb,f hb,hbb⟩,let ⟨mc,h1,h2⟩:=hlim;⟨mc,f h1,h2⟩⟩
  have e0:Env0 P w K mg (zjg s₁.heap H) callerA [] s₁ H:=⟨rfl,hM,fun b o e=>zmd e,Nat.le_of_eq (zg8 _ _),trivial,fun b hb=>absurd (show b∈([]:List Addr) from hb) (by simp),hok,.of_eq hg⟩
  refine codeAny_mono ((F _ i (f hns)).run callerA [] s₁ H ⟨[.ref a],[]⟩ [.ref a] [.ref a] _ _ hr e0 (hbind s₁ (.ref a)) (.cons rfl .nil) (hsp H hO hS)) fun r s' h=>?_
  cases r with
  | error e=>exact (hCX H e s' h).elim
  | ok fl=>
   cases fl with
   | next=>exact False.elim h
   | brk=>exact False.elim h
   | cont=>exact False.elim h
   | ret u=>
    obtain ⟨v,H',os,bare,un,j,r',q⟩:=h
    have q':v = .bl true:=q
    subst q'
    obtain rfl:u=Value.bool true:=r'
    refine ⟨rfl,OldK.of_keep fun b o e=>?_,os,bare⟩
    cases q:H b with
    | none=>exact un.keep b o e q (by intro z;exact absurd (show b∈([]:List Addr) from z) (by simp)) (by simp)
    | some u=>
     rcases hO b with z | ⟨ob,xs,z⟩
     ·rw [q] at z;cases z
     ·have z2:=un.frzs b ob _ z
      obtain ⟨e1,_⟩:=hok b _ z
      obtain ⟨e2,_⟩:=j b _ z2
      rw [e] at e1;cases e1
      exact e2
 cases hk:K.lookup a with
 | some o=>
  have e:=KX a o hk
  rw [ha] at e
  cases e
  refine core (fun _=>none) (fun _=>.inl rfl) (.inr ⟨_,vs.toArray,_,hk,rfl,rfl,rfl,by rw [List.size_toArray,g];exact hl,by simpa using rv⟩) (fun b u z=>by have z':(none:Option HO)=some u:=z;cases z') (fun b z=>absurd rfl z) fun z=>absurd rfl z
 | none=>
  refine core (fun b=>if b=a then some (.frz { cls:=.type "list",data:=.seq vs.toArray } (.lst (ns.map V.int))) else none) (fun b=>?_) (.inl (.inr ⟨{ cls:=.type "list",data:=.seq vs.toArray },if_pos rfl⟩)) (fun b u z=>?_) (fun b z=>?_) fun _=>hk
  ·by_cases hb:b=a
   ·exact .inr ⟨_,_,if_pos hb⟩
   ·exact .inl (if_neg hb)
  ·by_cases hb:b=a
   ·have z':=(if_pos hb).symm.trans z
    cases z'
    subst hb
    exact ⟨ha,by rw [List.length_map];exact hl,vs,_,rv,ha⟩
   ·have z':=(if_neg hb).symm.trans z
    cases z'
  ·by_cases hb:b=a
   ·exact hb
   ·exact absurd (if_neg hb) z
theorem znG {l:PySem.W.OpenLaw}{n k:Nat}{q:Program}{loose:List Str}{XP:(Str->Option Value)->Heap->Prop}{YP:World->Heap->Prop}{d:DefRec}{K:Params->PySem.W.Frag}{CX:World->CXT}{sp:World->Sp}{x:Str}
  (hn:l.most=some n) (hn2:n<=sizeLine) (hdf:d.params.defaults=[]) (hr:Room k callerA)
  (hY:∀ (w:World) (h:Heap),YP w h->(K w.params).In h)
  (F:∀ (w:World) (mg:Str->Option Value) (fa:Addr) (h:Heap),(K w.params).In h->h.Ns mainGlobals mg->mg d.name=some (.ref fa)->
   ∃ fd:FuncData,(∀ (s:Shared) (u:Value),BindsTo s fd ⟨[u],[]⟩ [(x,u)])/\
    ∀ base:Heap,(K w.params).In base->base.Ns mainGlobals mg->FnOk l.prog w (K w.params) mg base (CX w) k fa fd [x] (sp w))
  (hsp:∀ (w:World) (H:Hp) (a:Addr) (ns:List Int),ns.length<=n->zqL H->SqL (K w.params) H a (ns.map V.int)->sp w [.ref a] H (fun v _=>v = .bl true) fun _ _ _=>False)
  (hCX:∀ (w:World) (H:Hp) (s:Shared) (e:Value) (s':Shared),CX w [] H s (fun _ _ _=>False) e s'->False) :
  PySem.W.WalkO q loose XP YP l.row.toRowW d [] (fun f vs=>PySem.call f vs):=by
 refine Att.attach_call hn hdf fun w s₀ s₁ mg mb fa o pm cd doc a vs ns G Y ho hd j i c hints hlen hg=>?_
 have KX:=hY w _ Y
 obtain ⟨fd,hb,hF⟩:=F w mg fa _ KX G.T.g i
 exact zjv KX G.T.g G.T.b G.T.builtins G.T.nolimit hg c hints (Nat.le_trans hlen hn2) hr hF hb (fun H hO hS=>hsp w H a ns hlen hO hS) fun H e s'=>hCX w H s₁ e s'
def zv (s:Stmt):Arguments:=match s with
 | .FunctionDef _ a _ _ _ _ _ _ _ _=>a
 | _=>{ posonlyargs:=[],args:=[],vararg:=none,kwonlyargs:=[],kw_defaults:=[],kwarg:=none,defaults:=[] }
def zp (s:Stmt):List Stmt:=match s with
 | .FunctionDef _ _ b _ _ _ _ _ _ _=>b
 | _=>[]
def zc (s:Stmt):Scope:=match s with
 | .FunctionDef _ _ _ _ _ _ sc _ _ _=>sc
 | _=>{ kind:=.function,names:=[],isGenerator:=false,isCoroutine:=false }
abbrev CX0:CXT:=fun _ _ _ _ _ _=>False
abbrev E0:XK:=fun _ _ _=>False
theorem zoW {X:Cx}:zgp CX0 X E0:=fun _ _ _ _ _ _ _ h=>h.elim
structure Fun (K:PySem.W.Frag)(x qual:Str)(st:Stmt)(f:Addr)(fd:FuncData):Prop where
 ex:∃ (oc:Value) (od:Option Addr) (kV doc pm:Value) (an:Option Addr) (cdv ct:Value) (osl:Array (Option Value)),
  fd=PySem.W.fnOf x qual (zv st) (zp st) (zc st) .none kV doc pm an cdv ct/\K.lookup f=some ⟨oc,od,.func fd,osl⟩/\PySem.W.codeIn K cdv qual=true
 kp:PySem.W.keepIn K (.ref f)=true
section
variable {P:Program}{w:World}{K:PySem.W.Frag}{mg:Str->Option Value}{base:Heap}
theorem Fun.ok {x qual:Str}{st:Stmt}{f:Addr}{fd:FuncData}{N ps:List Str}{k:Nat}{sp:Sp}(F:Fun K x qual st f fd)(S:FnScope N ps (zc st))(len:∀ vs H Q E,sp vs H Q E->vs.length=ps.length)
  (hbody:∀ (a:Value) (A:Around) (outer:List Env) (s:Shared) (H:Hp) (vs:List V) (Q:VK) (E:XK),Room k (A.deeper (envOfC qual (zc st) s.heap.objs.size f a))->sp vs H Q E->
   ∃ t,PSs (zdz CX0 P w K mg base N qual (zc st) f a A outer s H E).nox (zp st) t/\t { nx:=fun _ H'=>Q .non H',rt:=Q } (uc N vs) H):FnOk P w K mg base CX0 (k+1) f fd ps sp:=by
 obtain ⟨oc,od,kV,doc,pm,an,a,ct,d,rfl,lk,b⟩:=F.ex
 refine zod lk b S len fun A outer s H vs Q E hr c=>?_
 obtain ⟨t,h,q⟩:=hbody a A outer s H vs Q E hr c
 exact ⟨t,h.nox,q⟩
theorem Fun.binds {x qual:Str}{st:Stmt}{f:Addr}{fd:FuncData}{ps:List Str}(F:Fun K x qual st f fd)
  (h:∀ (kV doc pm:Value) (an:Option Addr) (a ct:Value) (us:List Value),us.length=ps.length->bindArgs (PySem.W.fnOf x qual (zv st) (zp st) (zc st) .none kV doc pm an a ct) ⟨us,[]⟩=pure (ps.zip us)):zcG K fd ps []:=by
 obtain ⟨oc,od,kV,doc,pm,an,a,ct,b,rfl,lk,c⟩:=F.ex
 exact .all (h kV doc pm an a ct)
theorem z5 {x qual:Str}{st:Stmt}{f:Addr}{oc:Value}{od an:Option Addr}{osl:Array (Option Value)}{kV doc pm cdv ct:Value}(l:K.lookup f=some ⟨oc,od,.func (PySem.W.fnOf x qual (zv st) (zp st) (zc st) .none kV doc pm an cdv ct),osl⟩)
  (c:PySem.W.codeIn K cdv qual=true) (k:PySem.W.keepIn K (.ref f)=true):Fun K x qual st f (PySem.W.fnOf x qual (zv st) (zp st) (zc st) .none kV doc pm an cdv ct):=⟨⟨oc,od,kV,doc,pm,an,cdv,ct,osl,rfl,l,c⟩,k⟩
end
theorem zg9 {A:Around}{k:Nat}(hr:Room k A):A.units+1<cLine:=Nat.lt_of_le_of_lt (Nat.add_le_add_left (by decide:1<=64) _) hr.units
theorem zaR {n:Nat}(h:n<=1000):n<sizeLine:=Nat.lt_of_le_of_lt h (by decide)
section
variable {X:Cx}
end
theorem iteF {A B:Prop}(h:B):if false=true then A else B:=by
 rw [if_neg Bool.false_ne_true]
 exact h
theorem zqn {c A B:Prop}[Decidable c](h1:c->A)(h2:¬ c->B):if c then A else B:=by
 by_cases h:c
 ·rw [if_pos h]
  exact h1 h
 ·rw [if_neg h]
  exact h2 h
def xB (H H':Hp):Prop:=∀ b o,H b=some o->H' b=some o
section
variable {κ:Type}[DecidableEq κ]
end
section
variable {X:Cx}
theorem zet:zcH X (.builtin "isinstance") (fun xs H Q=>∃ x T t b,xs=[x,.ty T]/\TyOf X.K H x t/\PySem.W.kitOne X.K t (.type T)=some b/\Q (.bl b) H):=by
 intro pins s σ H xs us Q I r h
 obtain ⟨x,T,t,b,rfl,ty,e,q⟩:=h
 obtain ⟨u,c,rfl,ru,rc⟩:=zsg r
 cases rc
 exact zhf I ru ty e fun tk=>⟨.bl b,H,I.tok tk,rfl,q⟩
def zic (K:PySem.W.Frag):R2:=fun x y H Q=>∃ a b xs ys,x = .ref a/\y = .ref b/\H a=some (.tup xs)/\H b=some (.tup ys)/\xs.length+ys.length<=sizeLine/\
 ∀ p H',H' p=some (.tup (xs++ys))->xB H H'->Q (.ref p) H'
theorem zme:OpR X (binaryOp .Add) (zic X.K):=by
 intro pins s σ H x y v u Q I rx ry h
 obtain ⟨a,b,xs,ys,rfl,rfl,ha,hb,hz,q⟩:=h
 by_cases hx:xs=[]
 ·subst hx
  cases rx
  cases ry
  obtain ⟨its,r1,p1,_⟩:=I.tuple (.of ha)
  obtain ⟨d,r2,p2,_⟩:=I.tuple (.of hb)
  obtain ⟨⟨cls,dd,data,sl⟩,ho,hc,n,hd⟩:=id p1
  obtain ⟨⟨k,i,data2,j⟩,f,g,n2,hd2⟩:=id p2
  simp only at hc hd g hd2
  subst hc hd g hd2
  have hi:its=[]:=r1.nil_iff.mpr rfl
  exact concat_meets ⟨_,ho,rfl⟩ ⟨_,f,rfl⟩ noFill_tuple_add seq_tuple_add PySem.F.slot_tuple_add PySem.F.entry_tuple_add (PySem.F.args_tuple_add_2 _ _)
   (tuple_addW0 a b its.toArray d.toArray n n2 dd i sl j (by simp [hi])) ⟨ho,f,⟨.ref b,H,I,rfl,q b H hb fun _ _ e=>e⟩⟩
 ·refine zmf pins s σ H _ _ v u Q I rx ry ⟨a,b,xs,ys,rfl,rfl,.of ha,.of hb,hx,hz,fun e=>?_,fun e p hp=>?_⟩
  ·subst e
   exact q a H (by rw [List.append_nil];exact ha) fun _ _ e=>e
  ·exact q p _ zo fun c o e=>by rw [zf (zb e hp)];exact e
end
section
variable {X:Cx}
end
end L2
namespace HT
open PySem PySem.Spec PyProof.Rows
section
variable {prog:Program}{w:World}{A:Around}{E:Value->Shared->Prop}{s:Shared}
theorem getItem_tuple_whole {t sl:Addr}{items:Array Value}{vl vu:Value}{lo hi:Option Int}{Q:Value->Shared->Prop}(ht:IsTup s.heap t items)(hs:s.heap.IsSliceOf sl vl vu .none)(pl:IsPart vl lo)(pu:IsPart vu hi)
  (hw:sIx items.size 0 lo=0/\sIx items.size items.size hi=items.size) (h:Q (.ref t) s) (hsz:items.size<=sizeLine):wpAny (model prog w) A (getItem (.ref t) (.ref sl)) Q E s:=by
 obtain ⟨os,b,c,e⟩:=id hs
 have d:s.TypeIs (.ref sl) "slice" := ⟨os,b,c⟩
 unfold getItem
 try with_reducible refine wpAny_holding ?_
 first | refine wpAny_bind (wpAny_pure ?_) | skip
 refine wpAny_bind (wpAny_sequenceKey ht.typeIs (by decide) ?_)
 refine wpAny_bind (wpAny_callSpecial?_slot (name:=Str.ofString "__getitem__") ht.typeIs PyProof.Rows.slot_tuple_getitem
  (wpAny_call_entry PyProof.Rows.slot_tuple_getitem ht.typeIs entry_tuple_getitem ?_ (args_tuple_getitem _ _)))
 show wpAny _ _ (Builtin.Tuple.tupleItemsOf (.ref t) >>= _) _ _ s
 refine wpAny_bind (tupleItemsOf_ ht ?_)
 refine wpAny_bind (wpAny_typeOf d ?_)
 rw [if_pos (by decide)]
 refine wpAny_bind (uz hs pl pu ?_)
 have a:(((sIx items.size 0 lo:Nat):Int)==0&&(1:Int)==1&&(sIx items.size items.size hi - sIx items.size 0 lo)==items.size)=true:=by
  rw [hw.1,hw.2]
  simp
 show wpAny _ _ (if (((sIx items.size 0 lo:Nat):Int)==0&&(1:Int)==1&&(sIx items.size items.size hi - sIx items.size 0 lo)==items.size)=true then _ else _) _ _ s
 rw [if_pos a]
 unfold Builtin.Tuple.tupleIsExact
 refine wpAny_bind (wpAny_bind (wpAny_typeOf ht.typeIs ?_))
 refine wpAny_pure ?_
 rw [if_pos (by decide)]
 refine wpAny_bind (wpAny_rule ?_)
 exact wpAny_pure ⟨_,rfl,wpAny_pure h⟩
end
end HT
namespace L2
open PySem PySem.Spec PyProof.Rows
section
variable {X:Cx}
def rSlA:V->Option Int->Option Int->Hp->VK->Prop:=fun x lo hi H Q=>∃ a xs,x = .ref a/\H a=some (.tup xs)/\∀ p H',H' p=some (.tup (zcT xs lo hi))->xB H H'->Q (.ref p) H'
theorem zne:SlR X rSlA:=by
 intro pins s σ H x v vl vu lo hi sl Q I rx hs pl pu h
 obtain ⟨a,xs,rfl,ha,q⟩:=h
 by_cases hw:HT.sIx xs.length 0 lo=0/\HT.sIx xs.length xs.length hi=xs.length
 ·cases rx
  obtain ⟨its,r,ht,hz⟩:=I.tuple (.of ha)
  have hlen:its.toArray.size=xs.length:=by rw [List.size_toArray];exact r.length.symm
  refine ⟨"tuple",_,PyProof.Rows.slot_tuple_getitem.lookup,ht.typeIs,?_⟩
  refine HT.getItem_tuple_whole ht hs pl pu (by rw [hlen];exact hw) ⟨.ref a,H,I,rfl,q a H ?_ fun _ _ e=>e⟩ (by rw [hlen];exact hz)
  unfold zcT
  rw [hw.1,hw.2,List.drop_zero,Nat.sub_zero,List.take_length]
  exact ha
 ·exact zpS pins s σ H _ v vl vu lo hi sl Q I rx hs pl pu ⟨a,xs,rfl,.of ha,hw,fun p hp=>q p _ zo fun c o e=>by rw [zf (zb e hp)];exact e⟩
inductive Dt where
 | non | bl (b:Bool) | int (i:Int) | str (x:Str) | tup (l:List Dt) | lst (l:List Dt) | dct
mutual
def Is (H:Hp):Dt->V->Prop
 | .non,v=>v = .non
 | .bl b,v=>v = .bl b
 | .int i,v=>v = .int i
 | .str x,v=>v = .str x
 | .tup l,v=>∃ a xs,v = .ref a/\H a=some (.tup xs)/\IsL H l xs
 | .lst l,v=>∃ a xs,v = .ref a/\H a=some (.lst xs)/\IsL H l xs
 | .dct,v=>∃ a kvs,v = .ref a/\H a=some (.dK kvs)/\zbs kvs (Sum.inr "at" : Key)=none
def IsL (H:Hp):List Dt->List V->Prop
 | [],xs=>xs=[]
 | d::ds,xs=>∃ x r,xs=x::r/\Is H d x/\IsL H ds r
end
def zw (H H':Hp):Prop:=∀ b o,H b=some o->(∀ kvs,o = .dK kvs->zbs kvs (Sum.inr "at" : Key)=none)->H' b=some o
theorem zw.refl (H:Hp):zw H H:=fun _ _ e _=>e
theorem zw.trans {H H1 H2:Hp}(a:zw H H1)(b:zw H1 H2):zw H H2:=fun c o e n=>b c o (a c o e n) n
theorem zw.same {H H1:Hp}(a:xB H H1):zw H H1:=fun c o e _=>a c o e
theorem zw.upd {H:Hp}{p:Addr}{o:HO}(h:H p=none):zw H (upd H p o):=fun c u e _=>by rw [zf (zb e h)];exact e
theorem xB.upd {H:Hp}{p:Addr}{o:HO}(h:H p=none):xB H (upd H p o):=fun c u e=>by rw [zf (zb e h)];exact e
theorem zw.tup {H H1:Hp}(a:zw H H1){p:Addr}{xs:List V}(h:H p=some (.tup xs)):H1 p=some (.tup xs):=a _ _ h fun _ e=>by cases e
theorem zw.lst {H H1:Hp}(a:zw H H1){p:Addr}{xs:List V}(h:H p=some (.lst xs)):H1 p=some (.lst xs):=a _ _ h fun _ e=>by cases e
mutual
theorem Is.stay {H H1:Hp}(a:zw H H1):∀ {d:Dt} {v:V},Is H d v->Is H1 d v
 | .non,_,h=>h
 | .bl _,_,h=>h
 | .int _,_,h=>h
 | .str _,_,h=>h
 | .tup l,v,h=>by
  obtain ⟨p,xs,e,hp,hl⟩:=h
  exact ⟨p,xs,e,a.tup hp,IsL.stay a hl⟩
 | .lst l,v,h=>by
  obtain ⟨p,xs,e,hp,hl⟩:=h
  exact ⟨p,xs,e,a.lst hp,IsL.stay a hl⟩
 | .dct,v,h=>by
  obtain ⟨p,kvs,e,hp,hl⟩:=h
  exact ⟨p,kvs,e,a _ _ hp fun kvs' e=>by cases e;exact hl,hl⟩
theorem IsL.stay {H H1:Hp}(a:zw H H1):∀ {ds:List Dt} {xs:List V},IsL H ds xs->IsL H1 ds xs
 | [],_,h=>h
 | d::ds,xs,h=>by
  obtain ⟨x,r,e,h1,h2⟩:=h
  exact ⟨x,r,e,Is.stay a h1,IsL.stay a h2⟩
end
theorem IsL.length {H:Hp}:∀ {ds:List Dt} {xs:List V},IsL H ds xs->xs.length=ds.length
 | [],_,h=>by cases h;rfl
 | d::ds,xs,h=>by
  obtain ⟨x,r,rfl,_,h2⟩:=h
  rw [List.length_cons,List.length_cons,IsL.length h2]
theorem IsL.get {H:Hp}:∀ {ds:List Dt} {xs:List V} {i:Nat} {x:V},IsL H ds xs->xs[i]?=some x->∃ d,ds[i]?=some d/\Is H d x
 | [],_,_,_,h,e=>by cases h;simp at e
 | d::ds,xs,i,x,h,e=>by
  obtain ⟨y,r,rfl,h1,h2⟩:=h
  cases i with
  | zero=>simp at e;subst e;exact ⟨d,rfl,h1⟩
  | succ i=>
   obtain ⟨d',q1,q2⟩:=IsL.get (i:=i) (x:=x) h2 (by simpa using e)
   exact ⟨d',by simpa using q1,q2⟩
theorem IsL.getD {H:Hp}:∀ {ds:List Dt} {xs:List V} {i:Nat} {d:Dt},IsL H ds xs->ds[i]?=some d->∃ x,xs[i]?=some x/\Is H d x
 | [],_,_,_,_,e=>by simp at e
 | d::ds,xs,i,x,h,e=>by
  obtain ⟨y,r,rfl,h1,h2⟩:=h
  cases i with
  | zero=>simp at e;subst e;exact ⟨y,rfl,h1⟩
  | succ i=>
   obtain ⟨d',q1,q2⟩:=IsL.getD (i:=i) (d:=x) h2 (by simpa using e)
   exact ⟨d',by simpa using q1,q2⟩
theorem IsL.append {H:Hp}:∀ {ds es:List Dt} {xs ys:List V},IsL H ds xs->IsL H es ys->IsL H (ds++es) (xs++ys)
 | [],_,_,_,h,k=>by cases h;exact k
 | d::ds,es,xs,ys,h,k=>by
  obtain ⟨y,r,rfl,h1,h2⟩:=h
  exact ⟨y,r++ys,rfl,h1,IsL.append h2 k⟩
theorem IsL.take {H:Hp}:∀ {ds:List Dt} {xs:List V} (n:Nat),IsL H ds xs->IsL H (ds.take n) (xs.take n)
 | _,_,0,_=>by simp [IsL]
 | [],_,n+1,h=>by cases h;simp [IsL]
 | d::ds,xs,n+1,h=>by
  obtain ⟨y,r,rfl,h1,h2⟩:=h
  exact ⟨y,r.take n,rfl,h1,IsL.take n h2⟩
theorem IsL.drop {H:Hp}:∀ {ds:List Dt} {xs:List V} (n:Nat),IsL H ds xs->IsL H (ds.drop n) (xs.drop n)
 | _,_,0,h=>h
 | [],_,n+1,h=>by cases h;simp [IsL]
 | d::ds,xs,n+1,h=>by
  obtain ⟨y,r,rfl,h1,h2⟩:=h
  exact IsL.drop n h2
theorem IsL.one {H:Hp}{d:Dt}{x:V}(h:Is H d x):IsL H [d] [x]:=⟨x,[],rfl,h,rfl⟩
theorem IsL.ints {H:Hp}:∀ {ns:List Int},IsL H (ns.map .int) (ns.map .int)
 | []=>rfl
 | n::ns=>⟨_,_,rfl,rfl,IsL.ints⟩
theorem IsL.of_ints {H:Hp}:∀ {ns:List Int} {xs:List V},IsL H (ns.map .int) xs->xs=ns.map .int
 | [],_,h=>h
 | n::ns,xs,h=>by
  obtain ⟨y,r,rfl,h1,h2⟩:=h
  cases h1
  rw [IsL.of_ints h2]
  rfl
def Dt.ty:Dt->String
 | .non => "NoneType" | .bl _ => "bool" | .int _ => "int" | .str _ => "str" | .tup _ => "tuple" | .lst _ => "list" | .dct => "dict"
theorem Is.ty {K:PySem.W.Frag}{H:Hp}:∀ {d:Dt} {v:V},Is H d v->TyOf K H v (.type d.ty)
 | .non,_,h=>by cases h;exact .non
 | .bl _,_,h=>by cases h;exact .bl _
 | .int _,_,h=>by cases h;exact .int _
 | .str _,_,h=>by cases h;exact .str _
 | .tup l,v,h=>by obtain ⟨p,xs,rfl,hp,hl⟩:=h;exact .tup hp
 | .lst l,v,h=>by obtain ⟨p,xs,rfl,hp,hl⟩:=h;exact .lst hp
 | .dct,v,h=>by obtain ⟨p,xs,rfl,hp,hl⟩:=h;exact .dK hp
@[reducible] def Dt.isTup:Dt->Bool
 | .tup _=>true | _=>false
@[reducible] def Dt.isLst:Dt->Bool
 | .lst _=>true | _=>false
@[reducible] def Dt.isInt:Dt->Bool
 | .int _=>true | .bl _=>true | _=>false
@[reducible] def Dt.isBl:Dt->Bool
 | .bl _=>true | _=>false
def Dt.isWhole:Dt->Bool
 | .int _=>true | _=>false
theorem zlV (K:PySem.W.Frag)(d:Dt):PySem.W.kitOne K (.type d.ty) (.type "tuple")=some d.isTup:=by cases d <;> rfl
theorem zlU (K:PySem.W.Frag)(d:Dt):PySem.W.kitOne K (.type d.ty) (.type "list")=some d.isLst:=by cases d <;> rfl
theorem zlT (K:PySem.W.Frag)(d:Dt):PySem.W.kitOne K (.type d.ty) (.type "int")=some d.isInt:=by cases d <;> rfl
theorem zow (K:PySem.W.Frag)(d:Dt):PySem.W.kitOne K (.type d.ty) (.type "bool")=some d.isBl:=by cases d <;> rfl
end
def zel (env:Env):List (Str×NameKind)->List (Str×Addr)->List (Str×Addr)
 | [],cs=>cs
 | x::r,cs=>zel env r (if (x.2==NameKind.free)=true then (x.1,(env.cells.lookup x.1).getD 0)::cs else cs)
theorem uW {env:Env}{scope:Scope}(h:∀ x∈scope.names,x.2 = .free->∃ c,env.cells.lookup x.1=some c):closureFor scope env=pure (zel env scope.names []):=by
 have gen:∀ (names:List (Str×NameKind)) (cs:List (Str×Addr)),(∀ x∈names,x.2 = .free->∃ c,env.cells.lookup x.1=some c)->
   (forIn names cs (fun x r=>match x with
    | (name,kind)=>if (kind==NameKind.free)=true then do let a <- cellOf env name;pure (ForInStep.yield ((name,a)::r)) else pure (ForInStep.yield r)):Sem (List (Str×Addr)))=pure (zel env names cs):=by
  intro names
  induction names with
  | nil=>intro cs _;rfl
  | cons x r ih=>
   intro cs hh
   obtain ⟨n,k⟩:=x
   rw [List.forIn_cons]
   by_cases hk:(k==NameKind.free)=true
   ·obtain ⟨c,hc⟩:=hh (n,k) List.mem_cons_self (eq_of_beq hk)
    have hc':env.cells.lookup n=some c:=hc
    have e:cellOf env n=pure c:=by unfold cellOf;rw [hc']
    simp only [hk,if_true,e,pure_bind]
    rw [ih _ fun y hy=>hh y (List.mem_cons_of_mem _ hy)]
    show pure _=pure (zel env r (if (k==NameKind.free)=true then (n,(env.cells.lookup n).getD 0)::cs else cs))
    rw [if_pos hk,hc']
    rfl
   ·simp only [hk,pure_bind]
    have e2:zel env ((n,k)::r) cs=zel env r cs:=by
     show zel env r (if (k==NameKind.free)=true then _ else cs)=_
     rw [if_neg hk]
    rw [e2]
    exact ih _ fun y hy=>hh y (List.mem_cons_of_mem _ hy)
 unfold closureFor
 have:=gen scope.names [] h
 simpa using this
theorem xY {env:Env}:∀ {names:List (Str×NameKind)} {cs:List (Str×Addr)} {x:Str} {c:Addr},(∀ y∈names,y.2 = .free->∃ c,env.cells.lookup y.1=some c)->(zel env names cs).lookup x=some c->env.cells.lookup x=some c\/cs.lookup x=some c
 | [],_,_,_,_,h=>.inr h
 | (n,k)::r,cs,x,c,hh,h=>by
  have ih:=xY (names:=r) (x:=x) (c:=c) (fun y hy=>hh y (List.mem_cons_of_mem _ hy)) h
  rcases ih with ih | ih
  ·exact .inl ih
  ·by_cases hk:(k==NameKind.free)=true
   ·obtain ⟨c',hc⟩:=hh (n,k) List.mem_cons_self (eq_of_beq hk)
    have a:env.cells.lookup n=some c':=hc
    rw [if_pos hk,a] at ih
    rw [List.lookup_cons] at ih
    cases e:x==n with
    | true=>
     rw [e] at ih
     have:=eq_of_beq e
     subst this
     have b:some c'=some c:=ih
     cases b
     exact .inl a
    | false=>
     rw [e] at ih
     exact .inr ih
   ·rw [if_neg hk] at ih
    exact .inr ih
theorem zcr {env:Env}:∀ {names:List (Str×NameKind)} {cs:List (Str×Addr)} {x:Str},(∃ c,cs.lookup x=some c)->∃ c,(zel env names cs).lookup x=some c
 | [],_,_,h=>h
 | (n,k)::r,cs,x,h=>by
  refine zcr (names:=r) ?_
  by_cases hk:(k==NameKind.free)=true
  ·rw [if_pos hk,List.lookup_cons]
   cases e:x==n with
   | true=>exact ⟨_,rfl⟩
   | false=>exact h
  ·rw [if_neg hk]
   exact h
theorem zbu {env:Env}:∀ {names:List (Str×NameKind)} {cs:List (Str×Addr)} {x:Str},names.lookup x=some .free->∃ c,(zel env names cs).lookup x=some c
 | [],_,_,h=>by simp at h
 | (n,k)::r,cs,x,h=>by
  rw [List.lookup_cons] at h
  cases e:x==n with
  | true=>
   rw [e] at h
   have h':some k=some NameKind.free:=h
   cases h'
   refine zcr (names:=r) ?_
   rw [if_pos (by rfl),List.lookup_cons,e]
   exact ⟨_,rfl⟩
  | false=>
   rw [e] at h
   exact zbu (names:=r) h
theorem yB {env:Env}:∀ {names:List (Str×NameKind)} {x:Str} {k:NameKind},(∀ y∈names,y.2≠.cell)->
  (names.map fun (n,k)=>if (k==NameKind.free&&env.scope.kind==.function&&env.kindOf n==some .cell) then (n,NameKind.cell) else (n,k)).lookup x=some k->(k = .cell\/k = .free)->names.lookup x=some .free
 | [],_,_,_,h,_=>by simp at h
 | (n,k)::r,x,k',hc,h,hk=>by
  have ih:=@yB env r x k' (fun y hy=>hc y (List.mem_cons_of_mem _ hy))
  rw [List.map_cons] at h
  rw [List.lookup_cons]
  by_cases hcond:(k==NameKind.free&&env.scope.kind==.function&&env.kindOf n==some .cell)=true
  ·have h':List.lookup x ((n,NameKind.cell)::r.map fun (n,k)=>if (k==NameKind.free&&env.scope.kind==.function&&env.kindOf n==some .cell) then (n,NameKind.cell) else (n,k))=some k':=by
    have:=h
    simp only [hcond,if_true] at this
    exact this
   rw [List.lookup_cons] at h'
   cases e:x==n with
   | true=>
    have:k = .free:=by
     rw [Bool.and_eq_true,Bool.and_eq_true] at hcond
     exact eq_of_beq hcond.1.1
    subst this
    rfl
   | false=>
    rw [e] at h'
    exact ih h' hk
  ·have h':List.lookup x ((n,k)::r.map fun (n,k)=>if (k==NameKind.free&&env.scope.kind==.function&&env.kindOf n==some .cell) then (n,NameKind.cell) else (n,k))=some k':=by
    have:=h
    simp only [hcond] at this
    exact this
   rw [List.lookup_cons] at h'
   cases e:x==n with
   | true=>
    rw [e] at h'
    have h2:some k=some k':=h'
    cases h2
    rcases hk with hk | hk
    ·exact absurd hk (hc (n,k) List.mem_cons_self)
    ·subst hk;rfl
   | false=>
    rw [e] at h'
    exact ih h' hk
theorem xw {env:Env}:∀ {names:List (Str×NameKind)} {x:Str},names.lookup x=some .free->
  (names.map fun (n,k)=>if (k==NameKind.free&&env.scope.kind==.function&&env.kindOf n==some .cell) then (n,NameKind.cell) else (n,k)).lookup x=some .cell\/
  (names.map fun (n,k)=>if (k==NameKind.free&&env.scope.kind==.function&&env.kindOf n==some .cell) then (n,NameKind.cell) else (n,k)).lookup x=some .free
 | [],_,h=>by simp at h
 | (n,k)::r,x,h=>by
  have ih:=@xw env r x
  rw [List.lookup_cons] at h
  rw [List.map_cons]
  cases e:x==n with
  | true=>
   rw [e] at h
   have h':some k=some NameKind.free:=h
   cases h'
   by_cases hcond:((NameKind.free==NameKind.free)&&env.scope.kind==.function&&env.kindOf n==some .cell)=true
   ·left;simp only [hcond,if_true];rw [List.lookup_cons,e]
   ·right;simp only [hcond];rw [if_neg Bool.false_ne_true,List.lookup_cons,e]
  | false=>
   rw [e] at h
   have h':r.lookup x=some NameKind.free:=h
   by_cases hcond:((k==NameKind.free)&&env.scope.kind==.function&&env.kindOf n==some .cell)=true
   ·simp only [hcond,if_true];rw [List.lookup_cons,e];exact ih h'
   ·simp only [hcond];rw [if_neg Bool.false_ne_true,List.lookup_cons,e];exact ih h'
def zt (X:Cx)(scope:Scope)(N:List Str)(C:Addr)(s:Shared)(H:Hp)(ex:List Addr):Cx where
 prog:=X.prog
 w:=X.w
 K:=X.K
 mg:=X.mg
 base:=X.base
 A:=X.A
 N:=N
 s₀:=s
 H₀:=H
 env:=compEnvC scope (zel X.env scope.names []) C X.env
 outer:=X.stack
 stack:=X.stack
 ex:=ex
 fn:=fun _=>false
 calm:=X.calm
 pn:=[]
 xe:=fun _ _=>False
def caps (XN:List Str)(Xnames names:List (Str×NameKind))(N:List Str)(cix:List (Option Nat)):Bool:=
 N.length==cix.length&&(names.all fun y=>y.2 != .cell)&&((N.zip cix).all fun p=>match p.2 with
  | none=>true
  | some i=>XN[i]?==some p.1&&names.lookup p.1==some .free&&(Xnames.lookup p.1==some .cell || Xnames.lookup p.1==some .free)) &&
 (names.all fun y=>y.2 != .free || (Xnames.lookup y.1==some .cell || Xnames.lookup y.1==some .free))
def zbv (σ:St)(cix:List (Option Nat)):St:=cix.map fun o=>match o with
 | none=>none
 | some i=>(σ[i]?).join
structure CompOk (X:Cx)(scope:Scope)(N:List Str)(cix:List (Option Nat)):Prop where
 kind:scope.kind = .function
 names:∀ x∈scope.names,x.2 = .local->scope.names.lookup x.1=some .local
 caps:caps X.N X.env.scope.names scope.names N cix=true
section
variable {X:Cx}{pins:List (Addr×Obj)}{σ:St}{H:Hp}{s:Shared}{scope:Scope}{N:List Str}{cix:List (Option Nat)}
theorem CompOk.cell (c:CompOk X scope N cix):∀ y∈scope.names,y.2≠.cell:=fun y hy e=>by
 have h:=c.caps
 unfold L2.caps at h
 rw [Bool.and_eq_true,Bool.and_eq_true,Bool.and_eq_true] at h
 have:=List.all_eq_true.mp h.1.1.2 y hy
 rw [e] at this
 exact absurd this (by decide)
theorem CompOk.len (c:CompOk X scope N cix):N.length=cix.length:=by
 have h:=c.caps
 unfold L2.caps at h
 rw [Bool.and_eq_true,Bool.and_eq_true,Bool.and_eq_true] at h
 exact eq_of_beq h.1.1.1
theorem CompOk.cells (c:CompOk X scope N cix)(ok:X.Ok):∀ x∈scope.names,x.2 = .free->∃ a,X.env.cells.lookup x.1=some a:=fun x hx e=>by
 have h:=c.caps
 unfold L2.caps at h
 rw [Bool.and_eq_true] at h
 have q:=List.all_eq_true.mp h.2 x hx
 rw [e] at q
 have q':(X.env.scope.names.lookup x.1==some NameKind.cell || X.env.scope.names.lookup x.1==some NameKind.free)=true:=by simpa using q
 rcases Bool.or_eq_true_iff.mp q' with q | q
 ·exact ok.has _ (.inl (eq_of_beq q))
 ·exact ok.has _ (.inr (eq_of_beq q))
theorem CompOk.cap (c:CompOk X scope N cix){j i:Nat}{x:Str}(h1:N[j]?=some x)(h2:cix[j]?=some (some i)):X.N[i]?=some x/\scope.names.lookup x=some .free/\(X.env.scope.names.lookup x=some .cell\/X.env.scope.names.lookup x=some .free):=by
 have h:=c.caps
 unfold L2.caps at h
 rw [Bool.and_eq_true,Bool.and_eq_true] at h
 have hm:(x,some i)∈N.zip cix:=by
  refine List.mem_of_getElem? (i:=j) ?_
  rw [List.getElem?_zip_eq_some]
  exact ⟨h1,h2⟩
 have q:=List.all_eq_true.mp h.1.2 _ hm
 simp only [Bool.and_eq_true] at q
 refine ⟨eq_of_beq q.1.1,eq_of_beq q.1.2,?_⟩
 rcases Bool.or_eq_true_iff.mp q.2 with q | q
 ·exact .inl (eq_of_beq q)
 ·exact .inr (eq_of_beq q)
theorem zbw {fp:List Addr}{h':Heap}{tk:Nat}{m:Str->Option Value}(I:Inv X pins σ H s)(c:CompOk X scope N cix)(hf:∀ b∈fp,zdC X pins H b)(hfo:∀ b∈fp,b<s.heap.objs.size)
  (hn:h'.Ns s.heap.objs.size m) (hk:∀ b o,s.heap.get? b=some o->h'.get? b=some o) :
  Inv (zt X scope N s.heap.objs.size s H fp) [] (zbv σ cix) H { s with heap:=h',toks:=tk }:=by
 have l:=c.cells I.ok
 have back:∀ x a,(zel X.env scope.names []).lookup x=some a->X.env.cells.lookup x=some a:=fun x a e=>by
  rcases xY l e with z | z
  ·exact z
  ·simp at z
 refine ⟨⟨I.mod,c.kind,I.ok.glob,I.ok.blt,Nat.le_refl _,fun x y a e1 e2=>I.ok.inj x y a (back x a e1) (back y a e2),fun x hx=>?_,fun x a z _=>absurd (show (false:Bool)=true from z) (by decide),I.ok.hd,I.ok.frames,.inl rfl,
  fun b hb=>⟨Nat.ne_of_lt (hfo b hb),fun x a e=>(hf b hb).2.2.2.2.1 x a (back x a e)⟩,I.bs,Nat.le_trans I.ok.bsz I.sz,fun b o e hb=>?_,fun b hb z=>?_,I.stack,I.stkFree⟩,
  I.os ▸ rfl,I.bare,Un.kept hk,⟨m,hn,fun j x v h1 h2 h3=>?_⟩,fun x a e=>?_,I.hok.fresh (Nat.le_refl _),fun x a e=>I.freeC x a (back x a e),fun p hp=>absurd (show p∈([]:List (Addr×Obj)) from hp) (by simp),I.hok.kept hk,?_⟩
 ·have n:((relabel scope X.env).names.lookup x=some .cell\/(relabel scope X.env).names.lookup x=some .free):=hx
  rcases n with z | z
  ·exact zbu (yB c.cell z (.inl rfl))
  ·exact zbu (yB c.cell z (.inr rfl))
 ·rcases (hf b hb).2.2.2.1 with z | z
  ·exact I.ok.noex b o e z
  ·exact absurd (Nat.lt_of_lt_of_le (Heap.lt_size e) (Nat.le_trans I.ok.bsz z)) (Nat.lt_irrefl _)
 ·rcases List.mem_cons.mp (I.stkSub b z) with e | e
  ·exact (hf b hb).2.1 e
  ·exact (hf b hb).2.2.1 e
 ·have r:N[j]?=some x:=h1
  unfold zbv at h2
  rw [List.getElem?_map] at h2
  cases e:cix[j]? with
  | none=>rw [e] at h2;cases h2
  | some o=>
   rw [e] at h2
   cases o with
   | none=>cases h2
   | some i=>
    have d:(σ[i]?).join=some v:=Option.some.inj h2
    have g:σ[i]?=some (some v):=by
     cases q:σ[i]? with
     | none=>rw [q] at d;cases d
     | some z=>rw [q] at d;have:z=some v:=d;rw [this]
    obtain ⟨q1,q2,q3⟩:=c.cap r e
    obtain ⟨m0,w,t⟩:=I.loc
    obtain ⟨u,ru,hu⟩:=t i x v q1 g (q3.elim (fun z=>.inr (.inl z)) fun z=>.inr (.inr z))
    refine ⟨u,ru,.inr ⟨xw q2,?_⟩⟩
    rcases hu with ⟨z,_⟩ | ⟨_,a,ha,hcell⟩
    ·have z':X.env.scope.names.lookup x=some .local:=z
     rcases q3 with q3 | q3 <;> rw [z'] at q3 <;> cases q3
    ·obtain ⟨a',k⟩:=zbu (env:=X.env) (cs:=[]) q2
     have:a'=a:=by have:=(back x a' k).symm.trans ha;exact Option.some.inj this
     subst this
     obtain ⟨oc,f,hd⟩:=hcell
     exact ⟨a',k,oc,hk _ _ f,hd⟩
 ·obtain ⟨v,oc,f,hd⟩:=I.cell x a (back x a e)
  exact ⟨v,oc,hk _ _ f,hd⟩
 ·show (zbv σ cix).length=N.length
  unfold zbv
  rw [List.length_map,c.len]
theorem zeI {P:Program}{w:World}{H:Hp}{h h':Heap}{a:Addr}(x:HOk P w H h)(hn:H a=none)(hs:Heap.SameBut a h h'):HOk P w H h':=fun b o e=>by
 refine (x b o e).stay (fun c u hc q=>(hs.2 c ?_).trans q) (fun _ q=>q) fun _ _ q=>q
 rcases hc with rfl | hc
 ·exact zb e hn
 ·exact zb hc hn
theorem uY {fp:List Addr}{σ':St}{H':Hp}{s':Shared}{h'':Heap}(I:Inv X pins σ H s)(hf:∀ b∈fp,zdC X pins H b)(I':Inv (zt X scope N s.heap.objs.size s H fp) [] σ' H' s')(hs:Heap.SameBut s.heap.objs.size s'.heap h'') :
  Inv X pins σ H' { s' with heap:=h'' }:=by
 have ne:∀ b o,s.heap.get? b=some o->b≠s.heap.objs.size:=fun b o e=>Nat.ne_of_lt (Heap.lt_size e)
 have u:=I'.base
 refine Inv.call' (ch:=fp) I I'.os ⟨fun b o e n hb hx=>?_,fun b o e n hb hx=>?_,u.free,fun b o e hx=>?_,u.tups,u.frzs,u.tbls⟩ (zeI I'.hok I'.free hs) I'.bare fun b hb=>⟨(hf b hb).2.2.2.1,(hf b hb).2.1,(hf b hb).2.2.2.2.1,(hf b hb).2.2.2.2.2⟩
 ·exact (hs.2 b (ne b o e)).trans (u.keep b o e n hb hx)
 ·obtain ⟨sl,q⟩:=u.slot b o e n hb hx
  exact ⟨sl,(hs.2 b (ne b o e)).trans q⟩
 ·obtain ⟨o',q⟩:=u.there b o e hx
  exact ⟨o',(hs.2 b (ne b o e)).trans q⟩
end
section
variable {prog:Program}{w:World}{A:Around}{R:Result->Shared->Prop}{s:Shared}
theorem zaz {elt target iter:Expr}{ifs:List Expr}{scope:Scope}{pos:Pos}{it acc:Value}{env:Env}(I:Nat->Shared->Prop)
  (turn:∀ n s,I n s->wpAny (model prog w) A (pyNext it) (fun r s₁=>match r with
   | none=>R (.ok .next) s₁
   | some v=>wpAny (model prog w) A (letOwnedTupleGo target it v) (fun _ s₂=>wpAny (model prog w) A (assign target env v) (fun _ s₃=>
     wpAny (model prog w) A (forIn ifs true fun c r=>if r=true then do let ok <- isTrue c env (eval c env);pure (ForInStep.yield ok) else pure (ForInStep.yield r)) (fun ok s₄=>
      if ok=true then wpAny (model prog w) A (eval elt env) (fun x s₅=>
       wpAny (model prog w) A (call (.builtin "list.append") [acc,x]) (fun _ s₆=>∃ m,m<n/\I m s₆) (fun _ _=>False) s₅) (fun _ _=>False) s₄
      else ∃ m,m<n/\I m s₄) (fun _ _=>False) s₃) (fun _ _=>False) s₂) (fun _ _=>False) s₁) (fun _ _=>False) s)
  (n:Nat) (h:I n s) :
  codeAny (model prog w) A (.compLoop (.ListComp elt [⟨target,iter,ifs,0⟩] scope pos) 0 it acc env) R s:=by
 refine codeAny_loop rfl I (fun n s hI=>?_) n h
 show wpAny _ A ((compTurn (.ListComp elt [⟨target,iter,ifs,0⟩] scope pos) 0 it acc env).onRaise (fun x=>do noteFrame x env;theTreesLotGoes x)) _ _ s
 refine wpAny_noted ?_
 rw [compTurn_list]
 refine wpAny_bind (wpAny_standAt (wpAny_bind (wpAny_mono (turn n s hI) (fun r s₁ h₁=>?_) fun _ _ h'=>h'.elim)))
 cases r with
 | none=>exact wpAny_pure h₁
 | some v=>
  refine wpAny_bind (wpAny_mono h₁ (fun _ s₂ h₂=>?_) fun _ _ h'=>h'.elim)
  refine wpAny_bind (wpAny_mono h₂ (fun _ s₃ h₃=>wpAny_bind (wpAny_mono h₃ (fun ok s₄ h₄=>?_) fun _ _ h'=>h'.elim)) fun _ _ h'=>h'.elim)
  cases ok with
  | false=>exact wpAny_pure ⟨rfl,h₄⟩
  | true=>
   exact wpAny_bind (wpAny_bind (wpAny_mono h₄ (fun x s₅ h₅=>wpAny_bind (wpAny_mono h₅ (fun _ s₆ h₆=>wpAny_pure (wpAny_pure ⟨rfl,h₆⟩)) fun _ _ h'=>h'.elim)) fun _ _ h'=>h'.elim))
end
def PTs (X:Cx)(ifs:List Expr)(t:TT):Prop:=
 ∀ (pins:List (Addr×Obj)) (s:Shared) (σ:St) (H:Hp) (Q:Bool->Hp->Prop),Inv X pins σ H s->t σ H Q->
  wpAny (model X.prog X.w) X.A (forIn ifs true fun c r=>if r=true then do let ok <- isTrue c X.env (eval c X.env);pure (ForInStep.yield ok) else pure (ForInStep.yield r)) (TP X pins σ Q) X.xe s
def zbb:TT:=fun _ H Q=>Q true H
theorem zmF {X:Cx}:PTs X [] zbb:=fun pins s σ H Q I h=>wpAny_tests_nil ⟨H,I,h⟩
theorem zmG {X:Cx}{c:Expr}{t:TT}(h:PT X c t):PTs X [c] t:=fun pins s σ H Q I q=>wpAny_tests_one (h pins s σ H Q I q)
def zkg (wi:TI)(g:TG)(ti:TT)(te:TE)(cix:List (Option Nat)):TE:=fun σ H Q=>wi σ H fun J H1=>∀ acc,H1 acc=none->∃ W:Nat->Nat->St->Hp->Prop,(∃ m,W 0 m (zbv σ cix) (upd H1 acc (.lst [])))/\
 ∀ i m σ' H',W i m σ' H'->(J.stop i H'/\Q (.ref acc) H')\/(J.go i H'/\∃ N:St->Hp->Prop,(∀ σ2 H2,N σ2 H2->∃ m',m'<m/\W (i+1) m' σ2 H2)/\
  ∀ x H2,J.yld i H' x H2->g x σ' H2 fun σ3 H3=>ti σ3 H3 fun ok H4=>if ok=true then te σ3 H4 fun v H5=>∃ xs,H5 acc=some (.lst xs)/\xs.length<sizeLine/\N σ3 (upd H5 acc (.lst (xs++[v]))) else N σ3 H4)
theorem zmk {X:Cx}{elt tg iter:Expr}{ifs:List Expr}{scope:Scope}{pos:Pos}{wi:TI}{g:TG}{ti:TT}{te:TE}{N:List Str}{cix:List (Option Nat)}(hc:X.calm=true)(c:CompOk X scope N cix)
  (hi:PI X tg iter wi) (hg:∀ C s H ex,PG (zt X scope N C s H ex) tg g) (ht:∀ C s H ex,PTs (zt X scope N C s H ex) ifs ti) (he:∀ C s H ex,PE (zt X scope N C s H ex) elt te)
  (hs:∀ x,foldedSetIterable iter X.env x=pure x:=by intro _;rfl):PE X (.ListComp elt [⟨tg,iter,ifs,0⟩] scope pos) (zkg wi g ti te cix):=by
 intro pins s σ H Q I h
 rw [eval_ListComp]
 refine wpAny_comprehension_free (use:=none) rfl hs (uW (c.cells I.ok)) c.kind c.names (thn (hi pins s σ H _ I h) fun xv s1 h1=>thn h1 fun itv s2 h2=>?_)
 obtain ⟨it,fp,tn,J,H2,e,I2,T,B,f2,q2⟩:=h2
 subst e
 refine wpAny_newObj_type (wpAny_newFunctionEnv c.cell (by intro y hy;simp at hy) (fun h4 f j=>?_) c.kind)
 dsimp only at f j ⊢
 have k:=I2.hok.fresh (Nat.le_refl s2.heap.objs.size)
 have I3:Inv X pins σ (upd H2 s2.heap.objs.size (.lst [])) { s2 with heap:=s2.heap.push { cls:=.type "list",dict:=none,data:=.seq ([]:List Value).toArray },toks:=s2.toks }:=I2.lnew (t':=s2.toks) .nil (by simp)
 obtain ⟨W,⟨m0,w0⟩,turn⟩:=q2 s2.heap.objs.size k
 have l:∀ b∈fp,b<s2.heap.objs.size:=fun b hb=>by
  obtain ⟨o,ho,_⟩:=T.obj _ _ B b hb
  exact Heap.lt_size ho
 have f3:∀ b∈fp,zdC X pins (upd H2 s2.heap.objs.size (.lst [])) b:=fun b hb=>⟨by rw [zf (Nat.ne_of_lt (l b hb))];exact (f2 b hb).1,(f2 b hb).2⟩
 have kp:∀ b o,(s2.heap.push { cls:=.type "list",dict:=none,data:=.seq ([]:List Value).toArray }).get? b=some o->h4.get? b=some o:=fun b o e=>
  j.extBut b o (Nat.ne_of_lt (Heap.lt_size e)) (Heap.get?_push_of_some _ e)
 have D:s2.heap.objs.size<(s2.heap.push { cls:=.type "list",dict:=none,data:=.seq ([]:List Value).toArray }).objs.size:=by rw [Heap.size_push];exact Nat.lt_succ_self _
 have I4:=zbw (tk:=s2.toks+([]:List (Str×Value)).length) I3 c f3 (fun b hb=>Nat.lt_trans (l b hb) D) f kp
 have E:tn 0 h4:=T.keep _ _ _ B fun b hb o e=>kp b o (Heap.get?_push_of_some _ e)
 generalize hX:zt X scope N (s2.heap.push { cls:=.type "list",dict:=none,data:=.seq ([]:List Value).toArray }).objs.size
  { s2 with heap:=s2.heap.push { cls:=.type "list",dict:=none,data:=.seq ([]:List Value).toArray },toks:=s2.toks } (upd H2 s2.heap.objs.size (.lst [])) fp=X' at I4
 have pX:X'.prog=X.prog:=by rw [<- hX];rfl
 have wX:X'.w=X.w:=by rw [<- hX];rfl
 have KX:X'.K=X.K:=by rw [<- hX];rfl
 have AX:X'.A=X.A:=by rw [<- hX];rfl
 have cX:X'.calm=true:=by rw [<- hX];exact hc
 have xX:X'.xe=fun _ _=>False:=by rw [<- hX];rfl
 have eX:X'.env=compEnvC scope (zel X.env scope.names []) (s2.heap.push { cls:=.type "list",dict:=none,data:=.seq ([]:List Value).toArray }).objs.size X.env:=by rw [<- hX];rfl
 have O:PG X' tg g:=by rw [<- hX];exact hg _ _ _ _
 have P:PTs X' ifs ti:=by rw [<- hX];exact ht _ _ _ _
 have R:PE X' elt te:=by rw [<- hX];exact he _ _ _ _
 have f4:∀ {H':Hp},(∀ b∈fp,H' b=none)->∀ b∈fp,zdC X' [] H' b:=fun {H'} hn b hb=>by
  refine ⟨hn b hb,?_,?_,.inl ?_,?_,?_⟩
  ·rw [eX];exact Nat.ne_of_lt (Nat.lt_trans (l b hb) D)
  ·have e1:X'.fs=frs X.stack:=by rw [<- hX];rfl
   rw [e1]
   intro z
   rcases List.mem_cons.mp (I2.stkSub b z) with e | e
   ·exact (f2 b hb).2.1 e
   ·exact (f2 b hb).2.2.1 e
  ·rw [<- hX];exact hb
  ·rw [eX]
   intro x a e
   rcases xY (c.cells I.ok) e with z | z
   ·exact (f2 b hb).2.2.2.2.1 x a z
   ·simp at z
  ·intro p hp
   have e1:X'.pn++([]:List (Addr×Obj))=[]:=by rw [<- hX];rfl
   rw [e1] at hp
   simp at hp
 have loop:∀ s4:Shared,s4={ s2 with heap:=h4,toks:=s2.toks+([]:List (Str×Value)).length }->
   codeAny (model X.prog X.w) X.A (.compLoop (.ListComp elt [⟨tg,iter,ifs,0⟩] scope pos) 0 (.ref it) (.ref s2.heap.objs.size) X'.env)
    (compPost (model X.prog X.w) X.A X.xe none (EP X pins σ Q) (.ref s2.heap.objs.size) (s2.heap.push { cls:=.type "list",dict:=none,data:=.seq ([]:List Value).toArray }).objs.size) s4:=by
  rintro s4 rfl
  refine zaz (fun n s'=>∃ i σ' H',Inv X' [] σ' H' s'/\tn i s'.heap/\(∀ b∈fp,H' b=none)/\W i n σ' H') ?_ m0 ⟨0,zbv σ cix,_,I4,E,fun b hb=>(f3 b hb).1,w0⟩
  rintro n s5 ⟨i,σ5,H5,I5,F,G,w5⟩
  rcases turn i n σ5 H5 w5 with ⟨stop,qn⟩ | ⟨go,Nx,hN,step⟩
  ·have:=T.done X' pX wX KX cX i [] s5 σ5 H5 (fun _ _=>False) I5 (f4 G) F stop
   rw [AX] at this
   refine thn this fun r s6 ⟨hr,I6⟩=>?_
   subst hr
   obtain ⟨m6,L,_⟩:=I6.loc
   rw [eX] at L
   refine ⟨m6,L,fun h7 S=>?_⟩
   have I6':=I6
   rw [<- hX] at I6'
   exact ⟨.ref s2.heap.objs.size,H5,uY I3 f3 I6' S,rfl,qn⟩
  ·have:=T.item X' pX wX KX cX i [] s5 σ5 H5 (fun _ _=>False) I5 (f4 G) F go
   rw [AX] at this
   refine thn this fun r s6 ⟨u,hr,h6⟩=>?_
   subst hr
   refine thn h6 fun _ s7 ⟨x,H7,I7,r7,y7,q,U⟩=>?_
   have I7':=I7.pinned (f4 U) (T.obj _ _ q)
   have a7:=O _ s7 σ5 H7 x u _ I7' r7 (step x H7 y7)
   rw [pX,wX,AX,xX] at a7
   refine thn a7 fun _ s8 ⟨σ8,H8,I8,q8⟩=>?_
   have t8:=P _ s8 σ8 H8 _ I8 q8
   rw [pX,wX,AX,xX] at t8
   refine thn t8 fun ok s9 ⟨H9,I9,q9⟩=>?_
   have again:∀ {s':Shared} {σ':St} {H':Hp},Inv X' ([]++x8 fp s7.heap) σ' H' s'->Nx σ' H'->∃ m,m<n/\∃ i σ' H',Inv X' [] σ' H' s'/\tn i s'.heap/\(∀ b∈fp,H' b=none)/\W i m σ' H':=fun {s' σ' H'} J' n'=>by
    obtain ⟨m',hm,w'⟩:=hN σ' H' n'
    refine ⟨m',hm,i+1,σ',H',J'.unpinned,T.keep _ _ _ q fun b hb o e=>(J'.pin (b,o) (List.mem_append_right _ (List.mem_append_right _ (zT hb e)))).1,fun b hb=>?_,w'⟩
    obtain ⟨o,e,d⟩:=T.obj _ _ q b hb
    exact (J'.pin (b,o) (List.mem_append_right _ (List.mem_append_right _ (zT hb e)))).2.1
   cases ok with
   | false=>exact again I9 q9
   | true=>
    have e9:=R _ s9 σ8 H9 _ I9 q9
    rw [pX,wX,AX,xX] at e9
    refine thn e9 fun u2 V ⟨v,H10,I10,Y,Z⟩=>?_
    obtain ⟨xs,va,vb,nx⟩:=Z
    have M:=zaH (X:=X') _ V σ8 H10 (.ref s2.heap.objs.size) [v] (.ref s2.heap.objs.size) [u2] (fun _ H'=>Nx σ8 H') I10 rfl (.cons Y .nil) ⟨_,xs,v,rfl,rfl,va,vb,nx⟩
    rw [pX,wX,AX,xX] at M
    refine thn M fun _ s11 ⟨_,H11,I11,_,vc⟩=>again I11 vc
 have l0:=loop _ rfl
 rw [eX] at l0
 exact codeAny_compStart_list l0 (T.self X.A 0 _ _ _ E l0)
structure Dfn (K:PySem.W.Frag)(mg:Str->Option Value)(x:Str)(st:Stmt)(ps:List Str)(f:Addr)(fd:FuncData):Prop where
 F:Fun K x x st f fd
 b:zcG K fd ps []
 m:mg x=some (.ref f)
section
variable {X:Cx}
theorem zrK {x:Str}{st:Stmt}{ps:List Str}{f:Addr}{fd:FuncData}{sp:Sp}{j k:Nat}{e:Expr}{es:List Expr}{t:TA}{p pos:Pos}(D:Dfn X.K X.mg x st ps f fd)(G:FnOk X.prog X.w X.K X.mg X.base CX0 j f fd ps sp)(hr:Room k X.A)
  (ha:PA X (e::es) t) (hjk:j<=k:=by decide) (hg:Gl X x:=by rfl) (hdb:(x==("__debug__" : Str))=false:=by decide) (he:starEach (e::es) X.env=(false,eval e X.env)::starEach es X.env:=by rfl) (hpl:(backTo pos (starEach es X.env)).any (·.1)=false:=by rfl) :
  PE X (.Call (.Name x p) (e::es) [] pos) (zef sp [] E0 t):=
 zh2 G (hr.mono hjk) hg D.m D.F.kp D.b .nil zoW ha hdb he hpl
end
structure QE (X:Cx)(e:Expr)(t:TE):Prop where
 run:PE X e t
structure QT (X:Cx)(e:Expr)(t:TT):Prop where
 run:PT X e t
structure QW (X:Cx)(e:Expr)(t:TT):Prop where
 run:PW X e t
structure QC (X:Cx)(op:CmpOp)(a b:Expr)(t:TE):Prop where
 run:PC X op a b t
structure QA (X:Cx)(es:List Expr)(t:TA):Prop where
 run:PA X es t
structure QS (X:Cx)(s:Stmt)(t:TS):Prop where
 run:PS X s t
structure QSs (X:Cx)(s:List Stmt)(t:TS):Prop where
 run:PSs X s t
structure QG (X:Cx)(e:Expr)(t:TG):Prop where
 run:PG X e t
structure QGs (X:Cx)(es:List Expr)(t:TGs):Prop where
 run:PGs X es t
structure QI (X:Cx)(tg e:Expr)(t:TI):Prop where
 run:PI X tg e t
structure QO (X:Cx)(e:Option Expr)(t:TO):Prop where
 run:PO X e t
structure QP (X:Cx)(pos:Pos)(ks:List (Option Expr))(vs:List Expr)(t:List (TE×TE)):Prop where
 run:PPs X pos ks vs t
structure QTs (X:Cx)(es:List Expr)(t:TT):Prop where
 run:PTs X es t
structure OpQ (X:Cx)(f:Value->Value->Sem Value)(r:R2):Prop where
 run:OpR X f r
structure CallQ (X:Cx)(f:Value)(r:List V->Hp->VK->Prop):Prop where
 run:zcH X f r
structure IxQ (X:Cx)(r:R2):Prop where
 run:IxR X r
structure SlQ (X:Cx)(r:V->Option Int->Option Int->Hp->VK->Prop):Prop where
 run:SlR X r
section
variable {X:Cx}{e a b c:Expr}{es:List Expr}{te ta tb tc:TE}{t u:TT}{pos p:Pos}
theorem qv (i:Nat){x:Str}{pos:Pos}(hN:X.N[i]?=some x:=by rfl)(hv:Vis X.env.scope x:=by first | exact Or.inl rfl | exact Or.inr (Or.inl rfl) | exact Or.inr (Or.inr rfl))(hd:(x==("__debug__" : Str))=false:=by decide)
  (hcd:(x==("__classdict__" : Str))=false:=by decide):QE X (.Name x pos) (zk5 i):=⟨zo1 hN hv hd hcd⟩
theorem yy {i:Int}{j:Nat}:QE X (.Constant (.int i) j pos) (tC (.int i)):=⟨zkR⟩
theorem zrS {k:Bool}{j:Nat}:QE X (.Constant (.bool k) j pos) (tC (.bl k)):=⟨zrJ⟩
theorem xG {x:Str}{j:Nat}:QE X (.Constant (.str x) j pos) (tC (.str x)):=⟨zo0⟩
theorem zmJ {x:Str}{v:V}{w:Value}(hg:Gl X x)(hm:X.mg x=none)(hv:bootBuiltins x=some w)(r:yu v w)(hn:x ≠ "__name__" := by decide)(hd:(x==("__debug__" : Str))=false:=by decide):QE X (.Name x pos) (tC v):=⟨zmi hg hm hv r hn hd⟩
theorem yj:OpQ X (binaryOp .Add) (rI0 fun i j=>.int (i+j)):=⟨zoK⟩
theorem zh1:OpQ X (binaryOp .Sub) (rI0 fun i j=>.int (i - j)):=⟨zoR⟩
theorem uy:OpQ X (binaryOp .Mult) (rI zkl fun i j=>.int (i * j)):=⟨zoO⟩
theorem zbY:OpQ X (binaryOp .FloorDiv) (rI znI fun i j=>.int (i / j)):=⟨zmg⟩
theorem uO:OpQ X (binaryOp .Mod) (rI (fun _ j=>0<j) fun i j=>.int (i % j)):=⟨zoN⟩
theorem zoT:OpQ X (binaryOp .Pow) (rI CPow fun i j=>.int (i ^ j.toNat)):=⟨zoQ⟩
theorem xy:OpQ X (binaryOp .Add) (zic X.K):=⟨zme⟩
theorem zoS:OpQ X (binaryOp .Add) rCat:=⟨zoL⟩
theorem zjK:OpQ X (compareOp .Lt) (rI0 fun i j=>.bl (decide (i<j))):=⟨zrF⟩
theorem zjJ:OpQ X (compareOp .LtE) (rI0 fun i j=>.bl (decide (i<=j))):=⟨zrE⟩
theorem zf6:OpQ X (compareOp .Gt) (rI0 fun i j=>.bl (decide (j<i))):=⟨zrD⟩
theorem zrH:OpQ X (compareOp .GtE) (rI0 fun i j=>.bl (decide (j<=i))):=⟨zrC⟩
theorem zau:OpQ X (compareOp .Eq) rEq:=⟨zrB⟩
theorem zeZ:OpQ X (compareOp .NotEq) rNe:=⟨zrG⟩
theorem zbi:OpQ X (compareOp .NotIn) (rIn X.K true):=⟨zd6⟩
theorem yO {op:Operator}{r:R2}(ho:OpQ X (binaryOp op) r)(ha:QE X a ta)(hb:QE X b tb):QE X (.BinOp a op b pos) (tOp r ta tb):=⟨zrM ho.run ha.run hb.run⟩
theorem zmK {op:CmpOp}{r:R2}(ho:OpQ X (compareOp op) r)(ha:QE X a ta)(hb:QE X b tb)(hm:behindInMarks op b=false):QE X (.Compare a [op] [b] pos) (tOp r ta tb):=⟨zmj ho.run ha.run hb.run hm⟩
theorem zb4 {op:CmpOp}{r:R2}(ho:OpQ X (compareOp op) r)(ha:QE X a ta)(hb:QE X b tb)(hm:behindInMarks op b=false):QT X (.Compare a [op] [b] pos) (znp (tOp r ta tb)):=⟨zmE ho.run ha.run hb.run hm⟩
theorem zpm {j:Nat}{pos':Pos}(ha:QE X a ta):QC X .Is a (.Constant .none j pos') (zr3 ta):=⟨zoY ha.run⟩
theorem zpl (hu:X.A.units+1<cLine)(ha:QE X a ta)(hb:QE X b tb):QC X .In a b (zr1 ta tb):=⟨zoX hu ha.run hb.run⟩
theorem zkW {op:CmpOp}(h:QC X op a b te)(h1:behindInMarks op b=false:=by first | exact zdc _ (by decide) (by decide) | rfl):QT X (.Compare a [op] [b] pos) (tB te):=⟨zpf h.run h1⟩
theorem zpu (h:QE X e te)(he:∀ whole,isTrue e X.env whole=(do let v <- whole;standAt e.pos;holding [v] (truthy v)):=by intro _;rfl):QT X e (tB te):=⟨zph h.run he⟩
theorem zj6 (h:QE X e te)(he:∀ whole,isTrue e X.env whole=(do let v <- whole;standAt e.pos;holding [v] (truthy v)):=by intro _;rfl):QT X e (fun σ H Q=>te σ H fun x H'=>∃ k,zqO X.K x H' k/\Q k H'):=⟨zjY h.run he⟩
theorem zpt (h:QT X a t):QT X (.UnaryOp .Not a pos) (tNot t):=⟨zpg h.run⟩
theorem zib (h:QT X a t):QW X (.BoolOp .And [a] pos) t:=⟨zmI h.run⟩
theorem zpv (h:QT X a t):QW X (.BoolOp .Or [a] pos) t:=⟨zpk h.run⟩
theorem zkX {z6:List Expr}(h:QT X a t)(h':QW X (.BoolOp .And (b::z6) pos) u):QW X (.BoolOp .And (a::b::z6) pos) (zr0 t u):=⟨zpj h.run h'.run⟩
theorem zrU {z6:List Expr}(h:QT X a t)(h':QW X (.BoolOp .Or (b::z6) pos) u):QW X (.BoolOp .Or (a::b::z6) pos) (tOr t u):=⟨zrR h.run h'.run⟩
theorem QW.pt (h:QW X e t):QT X e t:=⟨h.run.pt⟩
theorem zj2 (hc:QT X c t)(ha:QE X a ta)(hb:QE X b tb):QE X (.IfExp c a b pos) (tIf t ta tb):=⟨zjQ hc.run ha.run hb.run⟩
theorem y8:QA X [] znn:=⟨zoU⟩
theorem z8 {ts:TA}(ha:QE X e te)(hr:QA X es ts)(hs:starEach (e::es) X.env=(false,eval e X.env)::starEach es X.env:=by rfl):QA X (e::es) (zeg te ts):=⟨zmh ha.run hr.run hs⟩
theorem zmY:QP X pos [] [] []:=⟨zmy⟩
theorem zdl {k v:Expr}{ks:List (Option Expr)}{vs:List Expr}{tk tv:TE}{trs:List (TE×TE)}(hk:QE X k tk)(hv:QE X v tv)(hr:QP X pos ks vs trs):QP X pos (some k::ks) (v::vs) ((tk,tv)::trs):=⟨zjV hk.run hv.run hr.run⟩
theorem zmM {keys:List (Option Expr)}{values:List Expr}{trs:List (TE×TE)}(h:QP X pos keys values trs)(hall:keys.all (·.isSome)=true)(hl:keys.length=values.length)(h0:keys≠[])(h15:keys.length<=15):QE X (.Dict keys values pos) (zpW trs):=⟨zmm h.run hall hl h0 h15⟩
theorem zmW:QO X none ziy:=⟨zmw⟩
theorem zmX (h:QE X e te):QO X (some e) (zpZ te):=⟨zmx h.run⟩
theorem zni:SlQ X rSlA:=⟨zne⟩
theorem znh:SlQ X (rSlL X.K):=⟨znd⟩
theorem zfE {r:V->Option Int->Option Int->Hp->VK->Prop}{lo hi:Option Expr}{tl th:TO}{p2:Pos}(hr:SlQ X r)(he:QE X e te)(hl:QO X lo tl)(hu:QO X hi th):QE X (.Subscript e (.Slice lo hi none p2) pos) (tSl r te tl th):=⟨zjR hr.run he.run hl.run hu.run⟩
theorem yn:IxQ X (zqA X.K):=⟨zlL⟩
theorem yo:IxQ X (zqB X.K):=⟨zol⟩
theorem zpp {r:R2}(hr:IxQ X r)(ha:QE X a ta)(hb:QE X b tb)(hs:zeo b):QE X (.Subscript a b pos) (tOp r ta tb):=⟨zrL hr.run ha.run hb.run hs⟩
theorem um (hu:X.A.units+1<cLine)(ha:QE X a ta)(hb:QE X b tb)(hs:zqk b):QE X (.Subscript a b pos) (zpU ta tb):=⟨zml hu ha.run hb.run hs⟩
theorem yv:CallQ X (.builtin "len") (fun xs H Q=>∃ x n,xs=[x]/\zqj X.K x H n/\Q (.int n) H):=⟨ziS⟩
theorem zgD:CallQ X (.builtin "abs") (fun xs H Q=>∃ i,xs=[.int i]/\Q (.int (if i<0 then -i else i)) H):=⟨ziR⟩
theorem zgE:CallQ X (.builtin "isinstance") (fun xs H Q=>∃ x T t b,xs=[x,.ty T]/\TyOf X.K H x t/\PySem.W.kitOne X.K t (.type T)=some b/\Q (.bl b) H):=⟨zet⟩
theorem zfW:CallQ X (.type "list") (fun xs H Q=>∃ p ys,xs=[.ref p]/\(SqL X.K H p ys\/SqT X.K H p ys)/\∀ l,H l=none->Q (.ref l) (upd H l (.lst ys))):=⟨zdK⟩
theorem zex:CallQ X (.type "tuple") (fun xs H Q=>∃ p ys,xs=[.ref p]/\((SqL X.K H p ys/\∀ l,H l=none->Q (.ref l) (upd H l (.tup ys)))\/(SqT X.K H p ys/\Q (.ref p) H))):=⟨zcP⟩
theorem zlh:CallQ X (.type "int") (fun xs H Q=>(∃ i,xs=[.int i]/\Q (.int i) H)\/∃ k,xs=[.bl k]/\Q (.int (if k then 1 else 0)) H):=⟨zgx⟩
theorem xj {id:String}{r:List V->Hp->VK->Prop}{x:Str}{ts:TA}(hc:CallQ X (.builtin id) r)(hg:Gl X x)(hm:X.mg x=none)(hv:bootBuiltins x=some (.builtin id))(ha:QA X (e::es) ts)(hn:x ≠ "__name__" := by decide)(hdb:(x==("__debug__" : Str))=false:=by decide)
  (he:starEach (e::es) X.env=(false,eval e X.env)::starEach es X.env:=by rfl) (hpl:(backTo pos (starEach es X.env)).any (·.1)=false:=by rfl):QE X (.Call (.Name x p) (e::es) [] pos) (tCB r ts):=⟨zjO hc.run hg hm hv ha.run hn hdb he hpl⟩
theorem zb2 {T:String}{r:List V->Hp->VK->Prop}{x:Str}{ts:TA}(hc:CallQ X (.type T) r)(hg:Gl X x)(hm:X.mg x=none)(hv:bootBuiltins x=some (.type T))(ha:QA X (e::es) ts)(hn:x ≠ "__name__" := by decide)(hdb:(x==("__debug__" : Str))=false:=by decide)
  (he:starEach (e::es) X.env=(false,eval e X.env)::starEach es X.env:=by rfl) (hpl:(backTo pos (starEach es X.env)).any (·.1)=false:=by rfl):QE X (.Call (.Name x p) (e::es) [] pos) (tCB r ts):=⟨zh3 hc.run hg hm hv ha.run hn hdb he hpl⟩
theorem zmN {x:Str}{st:Stmt}{ps:List Str}{f:Addr}{fd:FuncData}{sp:Sp}{j k:Nat}{ts:TA}(D:Dfn X.K X.mg x st ps f fd)(G:FnOk X.prog X.w X.K X.mg X.base CX0 j f fd ps sp)(hr:Room k X.A)
  (ha:QA X (e::es) ts) (hjk:j<=k:=by decide) (hg:Gl X x:=by rfl) (hdb:(x==("__debug__" : Str))=false:=by decide) (he:starEach (e::es) X.env=(false,eval e X.env)::starEach es X.env:=by rfl) (hpl:(backTo pos (starEach es X.env)).any (·.1)=false:=by rfl) :
  QE X (.Call (.Name x p) (e::es) [] pos) (zef sp [] E0 ts):=⟨zrK D G hr ha.run hjk hg hdb he hpl⟩
theorem zdk {i:Nat}{x:Str}(hN:X.N.Nodup)(hi:X.N[i]?=some x)(hx:Loc X.env.scope x)(hf:X.fn x=true\/X.env.scope.names.lookup x=some .local:=by first | exact .inl rfl | exact .inr rfl | assumption):QG X (.Name x pos) (zao i):=⟨zmq hN hi hx hf⟩
theorem zmR:QGs X [] gNil:=⟨zmr⟩
theorem zj3 {g:TG}{gs:TGs}(h1:QG X e g)(h2:QGs X es gs)(hs:(assignEach (e::es) X.env).map (·.2)=assign e X.env::(assignEach es X.env).map (·.2):=by rfl):QGs X (e::es) (zog g gs):=⟨zjT h1.run h2.run hs⟩
theorem zpq {k:Nat}{gs:TGs}{n:Nat}(hc:X.calm=true)(h:QGs X es gs)(hn:(assignEach es X.env).length=n:=by rfl)(hst:(assignEach es X.env).findIdx? (·.1)=none:=by rfl):QG X (.Tuple es k pos) (zq9 X.K n gs):=⟨zo8 hc h.run hn hst⟩
theorem ze1 {tg:Expr}(hl:QE X e te):QI X tg e (zlE X.K te):=⟨zmt hl.run⟩
theorem zpr {tg:Expr}(hl:QE X e te):QI X tg e (zra X.K te):=⟨zo9 hl.run⟩
theorem zia {tg:Expr}{ts:TA}(hg:Gl X "range")(hm:X.mg "range" = none)(ha:QA X [a] ts)(hs:starEach [a] X.env=[(false,eval a X.env)]:=by rfl):QI X tg (.Call (.Name "range" p) [a] [] pos) (zoi ts):=⟨zh5 hg hm ha.run hs⟩
theorem ze3:QTs X [] zbb:=⟨zmF⟩
theorem zm0 (h:QT X c t):QTs X [c] t:=⟨zmG h.run⟩
theorem zmL {elt tg iter:Expr}{ifs:List Expr}{scope:Scope}{wi:TI}{g:TG}{ti:TT}{N:List Str}{cix:List (Option Nat)}(hc:X.calm=true)(c:CompOk X scope N cix)
  (hi:QI X tg iter wi) (hg:∀ C s H ex,QG (zt X scope N C s H ex) tg g) (ht:∀ C s H ex,QTs (zt X scope N C s H ex) ifs ti) (he:∀ C s H ex,QE (zt X scope N C s H ex) elt te)
  (hs:∀ x,foldedSetIterable iter X.env x=pure x:=by intro _;rfl):QE X (.ListComp elt [⟨tg,iter,ifs,0⟩] scope pos) (zkg wi g ti te cix):=⟨zmk hc c hi.run (fun C s H ex=>(hg C s H ex).run) (fun C s H ex=>(ht C s H ex).run) (fun C s H ex=>(he C s H ex).run) hs⟩
end
section
variable {X:Cx}{st:Stmt}{sts body a b:List Stmt}{t u:TS}{e o i:Expr}{te td ty tv:TE}{pos:Pos}
theorem zdn:QSs X [] zpY:=⟨zmC⟩
theorem z9 (h1:QS X st t)(h2:QSs X sts u):QSs X (st::sts) (zr4 t u):=⟨zjX h1.run h2.run⟩
theorem uQ (h1:QS X st t):QSs X [st] t:=⟨zmD h1.run⟩
theorem ze2 (he:QE X e te)(hs:swapsWith e none pos.line X.env=pure false:=by rfl):QS X (.Expr e pos) (znm te):=⟨zmA he.run hs⟩
theorem zb3 (he:QE X e te):QS X (.Return (some e) pos) (zqE te):=⟨zpd he.run⟩
theorem zj4 {c:Expr}{tc:TT}(hc:QT X c tc)(ha:QSs X a t)(hb:QSs X b u):QS X (.If c a b pos) (tIfS tc t u):=⟨zrQ hc.run ha.run hb.run⟩
theorem uP {i:Nat}{x:Str}{pos':Pos}(hN:X.N.Nodup)(hi:X.N[i]?=some x)(hx:Loc X.env.scope x)(he:QE X e te)(hs:swapsWith e (some (.Name x pos')) pos.line X.env=pure false:=by rfl)(hf:X.fn x=true\/X.env.scope.names.lookup x=some .local:=by first | exact .inl rfl | exact .inr rfl | assumption) :
  QS X (.Assign [.Name x pos'] e pos) (zfa te (zao i)):=⟨zpe hN hi hx he.run hs hf⟩
theorem zps {tg:Expr}{g:TG}(he:QE X e te)(hg:QG X tg g)(hs:swapsWithSole [tg] e pos.line X.env=pure false:=by rfl)(hw:swappedStores [tg] e X.env=pure none:=by rfl)
  (h1:(assignEach [tg] X.env).map (·.2)=[assign tg X.env]:=by rfl):QS X (.Assign [tg] e pos) (zfa te g):=⟨zpa he.run hg.run hs hw h1⟩
theorem zdm {pos':Pos}(hu:X.A.units+1<cLine)(ho:QE X o td)(hi:QE X i ty)(hv:QE X e tv)(hs:swapsWith e (some (.Subscript o i pos')) pos.line X.env=pure false):QS X (.Assign [.Subscript o i pos'] e pos) (zpQ td ty tv):=⟨zmz hu ho.run hi.run hv.run hs⟩
theorem zkV {tg iter:Expr}{wi:TI}{g:TG}(hp:PassesOwn (model X.prog X.w) X.A X.env X.xe)(hc:X.calm=true)(hi:QI X tg iter wi)(hg:QG X tg g)(hb:QSs X body t)(hs:∀ x,foldedSetIterable iter X.env x=pure x:=by intro _;rfl):QS X (.For tg iter body [] pos) (zr2 wi g t):=⟨zpb hp hc hi.run hg.run hb.run hs⟩
end
theorem Fun.okQ {P:Program}{w:World}{K:PySem.W.Frag}{mg:Str->Option Value}{base:Heap}{x qual:Str}{st:Stmt}{f:Addr}{fd:FuncData}{N ps:List Str}{k:Nat}{sp:Sp}(F:Fun K x qual st f fd)(S:FnScope N ps (zc st))(len:∀ vs H Q E,sp vs H Q E->vs.length=ps.length)
  (hbody:∀ (a:Value) (A:Around) (outer:List Env) (s:Shared) (H:Hp) (vs:List V) (Q:VK) (E:XK),Room k (A.deeper (envOfC qual (zc st) s.heap.objs.size f a))->sp vs H Q E->
   ∃ t,QSs (zdz CX0 P w K mg base N qual (zc st) f a A outer s H E).nox (zp st) t/\t { nx:=fun _ H'=>Q .non H',rt:=Q } (uc N vs) H):FnOk P w K mg base CX0 (k+1) f fd ps sp:=
 F.ok S len fun a A outer s H vs Q E hr h=>by
  obtain ⟨t,h1,h2⟩:=hbody a A outer s H vs Q E hr h
  exact ⟨t,h1.run,h2⟩
theorem s_ca:¬ (("script" : Str) = "at"):=by decide +kernel
theorem s_cl:¬ (("script" : Str) = "left"):=by decide +kernel
theorem s_al:¬ (("at" : Str) = "left"):=by decide +kernel
theorem zrf:¬ (Sum.inr "script" : Key)=(Sum.inr "at" : Key):=fun z=>s_ca (Sum.inr.inj z)
theorem zrg:¬ (Sum.inr "script" : Key)=(Sum.inr "left" : Key):=fun z=>s_cl (Sum.inr.inj z)
theorem zqo:¬ (Sum.inr "at" : Key)=(Sum.inr "left" : Key):=fun z=>s_al (Sum.inr.inj z)
def zaL (c:Addr)(a l:Int):List (Key×V):=[(Sum.inr "script",.ref c),(Sum.inr "at",.int a),(Sum.inr "left",.int l)]
theorem zrO (c:Addr)(a l:Int):zbs (zaL c a l) (Sum.inr "script" : Key)=some (.ref c):=ut rfl
theorem zjS (c:Addr)(a l:Int):zbs (zaL c a l) (Sum.inr "at" : Key)=some (.int a):=by
 unfold zaL
 rw [xL zrf,ut rfl]
theorem zrP (c:Addr)(a l:Int):zbs (zaL c a l) (Sum.inr "left" : Key)=some (.int l):=by
 unfold zaL
 rw [xL zrg,xL zqo,ut rfl]
theorem zo4 (c:Addr)(a l b:Int):za8 (zaL c a l) (Sum.inr "at" : Key) (.int b)=zaL c b l:=by
 unfold za8 zaL
 have e1:=zrf
 have e2:¬ (Sum.inr "left" : Key)=(Sum.inr "at" : Key):=fun z=>zqo z.symm
 simp [e1,e2]
theorem zo5 (c:Addr)(a l b:Int):za8 (zaL c a l) (Sum.inr "left" : Key) (.int b)=zaL c a b:=by
 unfold za8 zaL
 have e1:=zrg
 have e2:=zqo
 simp [e1,e2]
theorem zo3 (c:Addr)(a l:Int):zbT [] (zaL c a l)=zaL c a l:=by
 unfold zbT zaL
 have e1:=zrf
 have e2:=zrg
 have e3:=zqo
 simp [za8,e1,e2,e3]
def PLs (H:Hp)(c:Addr)(ns:List Int):Prop:=(∃ r,ns=0::r/\Rd H c (.lst (r.map V.int)))\/∃ r,ns=1::r
theorem PLs.same {H H':Hp}{c:Addr}{ns:List Int}(P:PLs H c ns)(h:xB H H'):PLs H' c ns:=by
 rcases P with ⟨r,e,z | ⟨o,z⟩⟩ | P
 ·exact .inl ⟨r,e,.inl (h _ _ z)⟩
 ·exact .inl ⟨r,e,.inr ⟨o,h _ _ z⟩⟩
 ·exact .inr P
theorem PLs.upd {H:Hp}{c b:Addr}{u:HO}{ns:List Int}(P:PLs H c ns)(h:∀ r,ns=0::r->c≠b):PLs (upd H b u) c ns:=by
 rcases P with ⟨r,e,z | ⟨o,z⟩⟩ | P
 ·exact .inl ⟨r,e,.inl (by rw [zf (h r e)];exact z)⟩
 ·exact .inl ⟨r,e,.inr ⟨o,by rw [zf (h r e)];exact z⟩⟩
 ·exact .inr P
def KL (K:PySem.W.Frag)(c:Addr)(ns:List Int):Prop:=∃ r,ns=0::r\/(ns=1::r/\∃ (o:Obj) (its:Array Value) (n:Nat),K.lookup c=some o/\o.cls = .type "list" /\ o.dict=none/\o.data = .seq its n/\its.size<=sizeLine/\z0 (r.map V.int) its.toList)
theorem KL.seq {K:PySem.W.Frag}{H:Hp}{c:Addr}{ns:List Int}(k:KL K c ns)(P:PLs H c ns):∃ r:List Int,ns.length=r.length+1/\SqL K H c (r.map V.int):=by
 obtain ⟨r,e | ⟨e,k⟩⟩:=k
 ·rcases P with ⟨r',e',z⟩ | ⟨r',e'⟩
  ·rw [e] at e';cases e';exact ⟨r,by rw [e];rfl,.inl z⟩
  ·rw [e] at e';cases e'
 ·exact ⟨r,by rw [e];rfl,.inr k⟩
theorem KL.of {K:PySem.W.Frag}{H:Hp}{c:Addr}{r:List Int}(h:SqL K H c (r.map V.int)):∃ ns,ns.length=r.length+1/\KL K c ns/\PLs H c ns:=by
 rcases h with h | h
 ·exact ⟨0::r,rfl,⟨r,.inl rfl⟩,.inl ⟨r,rfl,h⟩⟩
 ·exact ⟨1::r,rfl,⟨r,.inr ⟨rfl,h⟩⟩,.inr ⟨r,rfl⟩⟩
structure Pen (H:Hp)(p c:Addr)(ns:List Int)(n:Nat):Prop where
 ob:∃ a l:Int,H p=some (.dK (zaL c a l))/\0<=a/\a<=n/\0<=l
 ls:PLs H c ns
 len:ns.length<=64
theorem Pen.same {H H':Hp}{p c:Addr}{ns:List Int}{n:Nat}(P:Pen H p c ns n)(h:xB H H'):Pen H' p c ns n:=by
 obtain ⟨⟨a,l,h1,h2,h3,h4⟩,h5,h6⟩:=P
 exact ⟨⟨a,l,h _ _ h1,h2,h3,h4⟩,h5.same h,h6⟩
theorem zdt {H:Hp}{p c:Addr}{a l:Int}{o:HO}(h:H p=some (.dK (zaL c a l))):zw H (upd H p o):=fun b u e n=>by
 by_cases hb:b=p
 ·subst hb
  rw [h] at e
  cases e
  have:=n _ rfl
  rw [zjS] at this
  cases this
 ·rw [zf hb];exact e
section
variable {H:Hp}{p c:Addr}{a l:Int}
theorem zfC (h:H p=some (.dK (zaL c a l))):zen H p (.str "script") (some (.ref c)):=by
 have:=zen.k (k:=(Sum.inr "script" : Key)) h
 rw [zrO] at this
 exact this
theorem zo2 (h:H p=some (.dK (zaL c a l))):zen H p (.str "at") (some (.int a)):=by
 have:=zen.k (k:=(Sum.inr "at" : Key)) h
 rw [zjS] at this
 exact this
theorem zh4 (h:H p=some (.dK (zaL c a l))):zen H p (.str "left") (some (.int l)):=by
 have:=zen.k (k:=(Sum.inr "left" : Key)) h
 rw [zrP] at this
 exact this
theorem zo6 (h:H p=some (.dK (zaL c a l)))(b:Int):zfc H p (.str "at") (.int b) (upd H p (.dK (zaL c b l))):=by
 have:=zfc.k (k:=(Sum.inr "at" : Key)) (v:=.int b) h (by show 3<sizeLine;decide)
 rw [zo4] at this
 exact this
theorem zkS (h:H p=some (.dK (zaL c a l)))(b:Int):zfc H p (.str "left") (.int b) (upd H p (.dK (zaL c a b))):=by
 have:=zfc.k (k:=(Sum.inr "left" : Key)) (v:=.int b) h (by show 3<sizeLine;decide)
 rw [zo5] at this
 exact this
end
theorem znS (ns:List Int)(a:Int)(h:0<((ns.map V.int).length:Int)):∃ z,atI (ns.map V.int) (a % ((ns.map V.int).length:Int))=some (.int z):=by
 have h0:=Int.emod_nonneg a (show ((ns.map V.int).length:Int)≠0 by lia)
 have h1:=Int.emod_lt_of_pos a h
 generalize hm:a % ((ns.map V.int).length:Int)=m at h0 h1
 obtain ⟨j,rfl⟩:∃ j:Nat,m=j:=⟨m.toNat,by lia⟩
 have hj:j<ns.length:=by rw [List.length_map] at h1;lia
 exact ⟨ns[j],zlb (by simp [hj])⟩
theorem meet {α:Type}{G:Prop}(P:α->Prop)(h:(∀ a,P a)->G)(r:∀ a,P a):G:=h r
theorem zrz {G:Prop}(P:Prop)(h:P->G)(r:P):G:=h r
def zk4 (K:PySem.W.Frag):Sp:=fun vs H Q _=>∃ (p c:Addr) (ns:List Int) (n:Nat) (zK:Int),vs=[.ref p,.int zK]/\KL K c ns/\Pen H p c ns n/\n<=1000000/\1<=zK/\zK<1073741824/\
 ∀ (r:Int) (H':Hp),0<=r->r<zK->Pen H' p c ns (n+1)->zw H H'->Q (.int r) H'
def zkf (K:PySem.W.Frag):Sp:=fun vs H Q _=>∃ (a:Addr) (ns:List Int),vs=[.ref a]/\SqL K H a (ns.map V.int)/\ns.length<=63/\∀ (p c:Addr) (ns:List Int) (H':Hp),KL K c ns->Pen H' p c ns 0->xB H H'->Q (.ref p) H'
def yb (ns:List Int):Int:=ns.foldl (· * ·) 1
theorem xm (ns:List Int)(n:Int):yb (ns++[n])=yb ns * n:=by unfold yb;rw [List.foldl_append];rfl
theorem zn {α:Type}{l:List α}{i:Nat}{x:α}(h:l[i]?=some x):l.take (i+1)=l.take i++[x]:=by
 rw [List.take_succ,h];rfl
def ziv (K:PySem.W.Frag):Sp:=fun vs H Q _=>∃ (a:Addr) (ns:List Int),vs=[.ref a]/\SqL K H a (ns.map V.int)/\ns.length<=63/\∀ H',Q (.bl true) H'
theorem zkL {g:TG}{x:V}{σ:St}{H:Hp}{A B:St->Hp->Prop}(h:g x σ H A):g x σ H fun σ3 H3=>zbb σ3 H3 fun ok H4=>if ok=true then A σ3 H4 else B σ3 H4:=by
 have e:(fun σ3 H3=>zbb σ3 H3 fun ok H4=>if ok=true then A σ3 H4 else B σ3 H4)=A:=by
  funext σ3 H3
  show (if true=true then A σ3 H3 else B σ3 H3)=A σ3 H3
  rw [if_pos rfl]
 rw [e]
 exact h
section
variable {prog:Program}{w:World}{A:Around}{E:Value->Shared->Prop}{s:Shared}
theorem x5 {it t:Addr}{i:Nat}{items}{x:Value}{Q:Value->Shared->Prop}(hit:s.heap.IsTupleIter it t i)(ht:s.heap.IsTuple t items)(hx:items[i]?=some x)
  (hQ:∀ h',h'.IsTupleIter it t (i+1)->Heap.SameBut it s.heap h'->Q x { s with heap:=h' }):wpAny (model prog w) A (Builtin.SmallTypes.nextOf (.ref it)) Q E s:=by
 obtain ⟨o,ho,hc,hd⟩:=id hit
 obtain ⟨ol,a,_,nl,b⟩:=ht
 unfold Builtin.SmallTypes.nextOf
 refine wpAny_bind (wpAny_callSpecial?_slot (name:=Str.ofString "__next__") hit.typeIs F.slot_tuple_iterator_next
  (wpAny_call_entry F.slot_tuple_iterator_next hit.typeIs F.entry_tuple_iterator_next ?_ (F.args_tuple_iterator_next_1 _)))
 show wpAny _ _ (field (.ref it) 0 >>= _) _ _ s
 refine wpAny_bind (wpAny_field ho hd (x:=.ref t) rfl ?_)
 show wpAny _ _ (if (Value.ref t==Value.none)=true then _ else _) _ _ s
 rw [if_neg (show ¬ ((Value.ref t==Value.none)=true) from Bool.false_ne_true)]
 show wpAny _ _ (field (.ref it) 1 >>= _) _ _ s
 refine wpAny_bind (wpAny_field ho hd (x:=.int i 0) rfl ?_)
 show wpAny _ _ (seqItems? (.ref t) >>= _) _ _ s
 refine wpAny_bind (wpAny_seqItems a b ?_)
 simp only [Int.toNat_natCast,hx]
 refine wpAny_bind (wpAny_setField ho hd (by simp) (wpAny_pure ⟨x,rfl,wpAny_pure (hQ _ ?_ (Heap.SameBut.update ..))⟩))
 exact ⟨_,Heap.get?_update_self _ ho (Obj.isFreed_of_fields (Obj.data_mapFields hd _)),(Obj.cls_mapFields ..).trans hc,by
  rw [Obj.data_mapFields hd];simp [rawInt]⟩
theorem uv {it t:Addr}{i:Nat}{items}{Q:Value->Shared->Prop}(hh:A.handled=none)(hit:s.heap.IsTupleIter it t i)(ht:s.heap.IsTuple t items)(hx:items[i]?=none)
  (hE:∀ h' e,Heap.ExtBut it s.heap h'->(∃ o,h'.get? e=some o/\o.cls = .type "StopIteration")->E (.ref e) { s with heap:=h' }):wpAny (model prog w) A (Builtin.SmallTypes.nextOf (.ref it)) Q E s:=by
 obtain ⟨o,ho,hc,hd⟩:=id hit
 obtain ⟨ol,b,_,nl,c⟩:=ht
 unfold Builtin.SmallTypes.nextOf
 refine wpAny_bind (wpAny_callSpecial?_slot (name:=Str.ofString "__next__") hit.typeIs F.slot_tuple_iterator_next
  (wpAny_call_entry F.slot_tuple_iterator_next hit.typeIs F.entry_tuple_iterator_next ?_ (F.args_tuple_iterator_next_1 _)))
 show wpAny _ _ (field (.ref it) 0 >>= _) _ _ s
 refine wpAny_bind (wpAny_field ho hd (x:=.ref t) rfl ?_)
 show wpAny _ _ (if (Value.ref t==Value.none)=true then _ else _) _ _ s
 rw [if_neg (show ¬ ((Value.ref t==Value.none)=true) from Bool.false_ne_true)]
 show wpAny _ _ (field (.ref it) 1 >>= _) _ _ s
 refine wpAny_bind (wpAny_field ho hd (x:=.int i 0) rfl ?_)
 show wpAny _ _ (seqItems? (.ref t) >>= _) _ _ s
 refine wpAny_bind (wpAny_seqItems b c ?_)
 simp only [Int.toNat_natCast,hx]
 refine wpAny_bind (wpAny_rule (wpAny_bind (wpAny_setField ho hd (by simp) ?_)))
 show wpAny _ _ (newExc (.type "StopIteration") [] >>= _) _ _ _
 refine wpAny_bind ?_
 simp only [newExc,newTuple]
 refine wpAny_bind (wpAny_newObj_type ?_ (by size_fits))
 refine wpAny_bind (m:=firstArgMember _ _) (wpAny_of_eq (a:=Value.none) (by first | rfl | (simp only [firstArgMember];rfl)) ?_)
 refine wpAny_newObj_type ?_ (by size_fits)
 simp only [raiseNew]
 refine wpAny_bind (wpAny_handled ?_)
 first | rw [show A.in1.handled=none from hh] | rw [hh]
 refine wpAny_bind (wpAny_pure (wpAny_throw ?_))
 exact hE _ _ (((Heap.SameBut.update ..).extBut.push _).push _) ⟨_,Heap.get?_push_size _ rfl,rfl⟩
theorem zeC (hh:A.handled=none)(it l:Addr)(hne:l≠it)(items:Array Value) :
  Draws prog w A it [it,l] items.size (fun i v=>items[i]?=some v) (fun i h=>h.IsTupleIter it l i/\h.IsTuple l items) where
 live:=fun _ _ st=>let ⟨o,ho,_⟩:=st.1;⟨o,ho⟩
 frame:=fun _ _ _ st hk=>⟨let ⟨o,ho,r⟩:=st.1;⟨o,hk it (by simp) o ho,r⟩,let ⟨o,ho,r⟩:=st.2;⟨o,hk l (by simp) o ho,r⟩⟩
 item:=fun i s Q E hi st hQ=>by
  refine x5 st.1 st.2 (x:=items[i]) (by simp [hi]) fun h' a b=>?_
  exact hQ _ h' s.toks (by simp [hi]) ⟨a,st.2.extBut b.extBut hne⟩ b
 done:=fun s Q E st hE=>uv hh st.1 st.2 (by simp) hE
theorem u8 (l:Addr)(items:Array Value)(n:Nat)(dct:Option Addr)(sl:Array (Option Value)) :
  Meets (Builtin.«enumerate.__new__» ⟨[.type "enumerate",.ref l],[]⟩) (fun _ R s=>s.heap.get? l=some { cls:=.type "tuple",dict:=dct,data:=.seq items n,slots:=sl }/\
   R (.ok (.ret (.ref (s.heap.push { cls:=.type "tuple_iterator",data:=.fields #[.ref l,.int 0 0] }).objs.size)))
    { s with heap:=(s.heap.push { cls:=.type "tuple_iterator",data:=.fields #[.ref l,.int 0 0] }).push { cls:=.type "enumerate",data:=.fields #[.none,.bool false,.ref s.heap.objs.size,rawInt 0,.none,.none] } }):=
 .of_wp fun prog w A R s h=>by
  obtain ⟨hp,g,d,tk,os⟩:=s;obtain ⟨hl,h⟩:=h
  have a:=sub_enumerate
  have hL:Heap.IsTuple (Shared.heap ⟨hp,g,d,tk,os⟩) l items:=⟨_,hl,rfl,n,rfl⟩
  wp_walk using AutoSeq1.wpAny_loadPart' hl
  refine wpAny_stack_any fun st=>wpAny_pure ?_
  split
  ·rename_i c _ _ _ _ _
   cases (c==Value.type "enumerate")
   ·wp_walk using AutoSeq1.wpAny_loadPart' hl,wpAny_pyIter_tuple hL
    exact ⟨_,rfl,h⟩
   ·wp_walk using AutoSeq1.wpAny_loadPart' hl,wpAny_pyIter_tuple hL
    exact ⟨_,rfl,h⟩
  ·wp_walk using AutoSeq1.wpAny_loadPart' hl,wpAny_pyIter_tuple hL
   exact ⟨_,rfl,h⟩
theorem u6 {l:Addr}{items:Array Value}{Q:Value->Shared->Prop}(hL:s.heap.IsTuple l items)
  (h:∀ h',IsEnum h' (s.heap.objs.size+1) s.heap.objs.size 0 .none->h'.IsTupleIter s.heap.objs.size l 0->h'.objs.size=s.heap.objs.size+2->
   (∀ b o,s.heap.get? b=some o->h'.get? b=some o)->Q (.ref (s.heap.objs.size+1)) { s with heap:=h' }) :
  wpAny (model prog w) A (call (.type "enumerate") [.ref l]) Q E s:=by
 obtain ⟨⟨c,dct,dt,sl⟩,hl,hc,n,hd⟩:=hL
 replace hc:c = .type "tuple" := hc
 replace hd:dt = .seq items n:=hd
 subst hc hd
 refine callType_new F.called_enumerate (by decide) (F.typeCall_enumerate_1 _) (F.newCall_enumerate_1 _) (fun obj=>F.args_object_init_2 obj _) F.entry_enumerate_new
  (u8 l items n dct sl) ⟨hl,?_⟩
 have hz:(s.heap.push { cls:=.type "tuple_iterator",data:=.fields #[.ref l,.int 0 0] }).objs.size=s.heap.objs.size+1:=Heap.size_push ..
 show _/\_
 rw [hz]
 have he:IsEnum ((s.heap.push { cls:=.type "tuple_iterator",data:=.fields #[.ref l,.int 0 0] }).push
   { cls:=.type "enumerate",data:=.fields #[.none,.bool false,.ref s.heap.objs.size,rawInt 0,.none,.none] }) (s.heap.objs.size+1) s.heap.objs.size 0 .none:=by
  have:=Heap.get?_push_size (s.heap.push { cls:=.type "tuple_iterator",data:=.fields #[.ref l,.int 0 0] })
   (o:={ cls:=.type "enumerate",data:=.fields #[.none,.bool false,.ref s.heap.objs.size,rawInt 0,.none,.none] }) rfl
  rw [hz] at this;exact this
 refine ⟨⟨_,he,rfl⟩,h _ he ⟨_,Heap.get?_push_of_some _ (Heap.get?_push_size _ rfl),rfl,rfl⟩ (by rw [Heap.size_push,hz]) fun b o x=>Heap.get?_push_of_some _ (Heap.get?_push_of_some _ x)⟩
end
def Ite (K:PySem.W.Frag)(a:Addr):It:=
 ⟨fun i H=>∃ xs x,SqT K H a xs/\xs[i]?=some x,fun i H v H'=>∃ T x,v = .ref T/\H T=none/\H'=upd H T (.tup [.int i,x])/\∀ xs,SqT K H a xs->xs[i]?=some x,fun i H=>∃ xs,SqT K H a xs/\xs.length<=i⟩
theorem ziC {P:Program}{w:World}{K:PySem.W.Frag}{elts:List Expr}{x1}{tpos:Pos}(a it e:Addr)(hei:e≠it) :
  Turn P w K (.Tuple elts x1 tpos) (Ite K a) [e,it] e (fun i h=>(∃ old,IsEnum h e it i old)/\h.IsTupleIter it a i) where
 mem:=by simp
 obj:=fun i h st b hb=>by
  rcases List.mem_cons.mp hb with rfl | hb
  ·obtain ⟨⟨old,he⟩,_⟩:=st
   exact ⟨_,he,fun v z=>by
    have z':Data.fields _=Data.cell v:=z
    cases z'⟩
  ·rw [List.mem_singleton.mp hb]
   obtain ⟨_,o,e,c,d⟩:=st
   exact ⟨o,e,fun v z=>by rw [d] at z;cases z⟩
 keep:=fun i h h' st k=>by
  obtain ⟨⟨old,he⟩,o,ho,r⟩:=st
  exact ⟨⟨old,k e (by simp) _ he⟩,o,k it (by simp) _ ho,r⟩
 item:=by
  intro X hP hw hK hc i pins s σ H E I hf st hg
  subst hP hw hK
  obtain ⟨xs,x,hq,hx⟩:=hg
  obtain ⟨its,rv,p,hz⟩:=I.tuple hq
  obtain ⟨u,hu,ru⟩:=rv.get hx
  obtain ⟨f0,f1,f2,f3,f4,f5⟩:=hf e (by simp)
  obtain ⟨g0,g1,g2,g3,g4,g5⟩:=hf it (by simp)
  obtain ⟨⟨old,he⟩,hit⟩:=st
  have hsz:i<its.toArray.size:=by
   have:=(List.getElem?_eq_some_iff.mp hu).1
   simpa using this
  have S:a≠it:=by
   intro z
   obtain ⟨o,ho,B,_⟩:=p
   obtain ⟨o',U,J,_⟩:=hit
   rw [z,U] at ho
   cases ho
   rw [J] at B
   exact absurd (Value.type.inj B) (by decide)
  have V:e≠a:=by
   intro z
   obtain ⟨o,ho,B,_⟩:=p
   rw [<- z,he] at ho
   cases ho
   have:Value.type "enumerate" = Value.type "tuple" := B
   exact absurd (Value.type.inj this) (by decide)
  refine wpAny_pyNext_enum_itemD (zeC (A:=X.A.in1) (I.ok.hd hc) it a S its.toArray) he ⟨hit,p⟩ hsz hei (by simp [hei,V]) fun y h' tk hy ho L hT vf hk=>?_
  have Y:y=u:=by
   have:its.toArray[i]?=some y:=hy
   have:its[i]?=some y:=by simpa using this
   rw [hu] at this
   exact (Option.some.inj this).symm
  subst Y
  refine ⟨_,rfl,?_⟩
  refine wpAny_letOwnedTupleGo_enum ho fun l C j=>?_
  have M:s.heap.objs.size≠e:=Nat.ne_of_gt (Heap.lt_size he)
  have Z:s.heap.objs.size≠it:=by
   obtain ⟨o,N,_⟩:=hit
   exact Nat.ne_of_gt (Heap.lt_size N)
  have f:=I.hok.fresh (Nat.le_refl s.heap.objs.size)
  have kp:∀ b o,b≠e->b≠it->s.heap.get? b=some o->l.get? b=some o:=fun b o h1 h2 hb=>(j.2 b h1).trans (hk b o h1 h2 hb)
  have O:l.get? s.heap.objs.size=some { cls:=.type "tuple",data:=.seq #[.int i tk,y] }:=(j.2 _ M).trans hT
  obtain ⟨oe,hoe⟩:∃ o,l.get? e=some o:=⟨_,C⟩
  obtain ⟨oi,N⟩:∃ o,l.get? it=some o:=by
   obtain ⟨⟨o,G,_⟩,_⟩:=L
   exact ⟨o,(j.2 it (Ne.symm hei)).trans G⟩
  have D:∀ b u',H b=some u'->b≠e/\b≠it:=fun b u' hb=>⟨zb hb f0,zb hb g0⟩
  have R:HOk X.prog X.w (upd H s.heap.objs.size (.tup [.int i,x])) l:=by
   intro b u' hb
   by_cases hbT:b=s.heap.objs.size
   ·subst hbT
    rw [zo] at hb
    cases hb
    exact ⟨by show 2<=sizeLine;decide,[.int i tk,y],.cons ⟨tk,rfl⟩ (.cons ru .nil),_,O,rfl,⟨0,rfl⟩,rfl⟩
   ·rw [zf hbT] at hb
    refine (I.hok b u' hb).stay (fun c v n q=>?_) (fun c q=>?_) (fun c ys q=>?_)
    ·refine kp c v ?_ ?_ q
     ·rcases n with rfl | n
      ·exact (D _ _ hb).1
      ·exact zb n f0
     ·rcases n with rfl | n
      ·exact (D _ _ hb).2
      ·exact zb n g0
    ·rw [zf (zb q f)];exact q
    ·rw [zf (zb q f)];exact q
  have I1:Inv X pins σ (upd H s.heap.objs.size (.tup [.int i,x])) { s with heap:=l,toks:=tk+1 }:=by
   refine Inv.step (ch:=[e,it]) (g':=s.gens) (d':=s.drawn) (t':=tk+1) I (fun b hb=>?_) (fun b o h1 h2 h3 h4 h5=>?_) (fun b o h1 h2 h3 h4 h5=>?_) (fun b o h3 h4 h5=>?_) (fun b o h3 h4=>?_) (fun b ys q=>?_) (fun b o u' q=>?_) (fun b ps q=>?_) (fun m hm=>?_) R I.bare
   ·rcases List.mem_cons.mp hb with rfl | hb
    ·exact ⟨f3,f1,f4,f5⟩
    ·rw [List.mem_singleton.mp hb]
     exact ⟨g3,g1,g4,g5⟩
   ·exact kp b o (fun z=>h3 (by simp [z])) (fun z=>h3 (by simp [z])) h4
   ·exact ⟨o.slots,kp b o (fun z=>h3 (by simp [z])) (fun z=>h3 (by simp [z])) h4⟩
   ·rw [zf (Nat.ne_of_lt (Heap.lt_size h4))];exact h5
   ·exact ⟨o,kp b o (fun z=>h3 (by simp [z])) (fun z=>h3 (by simp [z])) h4⟩
   ·rw [zf (zb q f)];exact q
   ·rw [zf (zb q f)];exact q
   ·exact ⟨#[],by rw [zf (zb q f),Array.append_empty];exact q⟩
   ·obtain ⟨o,es,ep,va,r1⟩:=hm
    exact ⟨o,es,ep,kp _ o (Ne.symm f1) (Ne.symm g1) va,r1⟩
  refine ⟨.ref s.heap.objs.size,_,I1,rfl,⟨s.heap.objs.size,x,rfl,f,rfl,fun ys vb=>by rw [I.tuple_inj vb hq];exact hx⟩,⟨⟨y,by have:=C;push_cast;exact this⟩,?_⟩,fun b hb=>?_⟩
  ·obtain ⟨⟨o,G,r2⟩,_⟩:=L
   exact ⟨o,(j.2 it (Ne.symm hei)).trans G,r2⟩
  ·rcases List.mem_cons.mp hb with rfl | hb
   ·rw [zf (Ne.symm M)];exact f0
   ·rw [List.mem_singleton.mp hb,zf (Ne.symm Z)];exact g0
 done:=by
  intro X hP hw hK hc i pins s σ H E I hf st hg
  subst hP hw hK
  obtain ⟨xs,hq,hx⟩:=hg
  obtain ⟨its,rv,p,hz⟩:=I.tuple hq
  obtain ⟨f0,f1,f2,f3,f4,f5⟩:=hf it (by simp)
  obtain ⟨⟨old,he⟩,hit⟩:=st
  have hl:=rv.length
  have hT:s.TypeIs (.ref e) "enumerate" := ⟨_,he,rfl⟩
  unfold pyNext
  refine wpAny_bind (wpAny_attempt (wpAny_callSpecial?_slot (name:=Str.ofString "__next__") hT F.slot_enumerate_next
   (wpAny_call_entry F.slot_enumerate_next hT F.entry_enumerate_next ?_ (F.args_enumerate_next_1 _))))
  show wpAny _ _ (field (.ref e) 2 >>= _) _ _ _
  refine wpAny_bind (wpAny_field he rfl (x:=.ref it) rfl ?_)
  refine wpAny_bind (uv (A:=X.A.in1) (I.ok.hd hc) hit p (by simp;lia) fun h' x vc vd=>?_)
  obtain ⟨o,ho,ve⟩:=vd
  refine wpAny_bind (wpAny_isInstance (T := "StopIteration") (b:=true) ⟨o,ho,ve⟩ isSubtype_stop ?_)
  exact wpAny_pure ⟨rfl,I.turned (t':=s.toks) (fun b o hb e=>vc b o hb e) f0 f1 f3 f4 f5⟩
 self:=fun A i s Q E st h=>by
  obtain ⟨⟨old,he⟩,hit⟩:=st
  exact wpAny_pyIter_enum he h
def zoh (K:PySem.W.Frag)(ta:TA):TI:=fun σ H R=>ta σ H fun vs H1=>∃ a,vs=[.ref a]/\(∃ xs,SqT K H1 a xs)/\R (Ite K a) H1
theorem zms {X:Cx}{elts:List Expr}{x1}{tpos:Pos}{a:Expr}{ta:TA}{p pos:Pos}(hg:Gl X "enumerate")(hm:X.mg "enumerate" = none)(ha:PA X [a] ta)(hs:starEach [a] X.env=[(false,eval a X.env)]:=by rfl) :
  PI X (.Tuple elts x1 tpos) (.Call (.Name "enumerate" p) [a] [] pos) (zoh X.K ta):=by
 intro pins s σ H R I h
 refine Call_ (zbR I hg hm boot_enumerate (PyProof.Rows.callWith_type1 (thn (ha pos pins s σ H _ I h) fun us s1 ⟨vs,H1,I1,r1,q1⟩=>?_) hs rfl))
 obtain ⟨b,rfl,⟨xs,hq⟩,q⟩:=q1
 obtain ⟨u,rfl,ru⟩:=zaU r1
 cases ru
 obtain ⟨its,rv,pt,hz⟩:=I1.tuple hq
 refine u6 (show s1.heap.IsTuple b its.toArray from pt) fun h' he hit hsz hk=>?_
 have I2:Inv X pins σ H1 { s1 with heap:=h',toks:=s1.toks }:=I1.kept (t':=s1.toks) hk
 refine wpAny_pyIter_enum he ?_
 refine ⟨s1.heap.objs.size+1,[s1.heap.objs.size+1,s1.heap.objs.size],_,_,H1,rfl,I2,ziC b s1.heap.objs.size (s1.heap.objs.size+1) (Nat.succ_ne_self _),⟨⟨_,he⟩,hit⟩,fun c hc=>?_,q⟩
 rcases List.mem_cons.mp hc with rfl | hc
 ·exact I1.fpOk (Nat.le_succ _) (I1.hok.fresh (Nat.le_succ _))
 ·rw [List.mem_singleton.mp hc]
  exact I1.fpOk (Nat.le_refl _) (I1.hok.fresh (Nat.le_refl _))
theorem zmS {X:Cx}{elts:List Expr}{x1}{tpos:Pos}{a:Expr}{ta:TA}{p pos:Pos}(hg:Gl X "enumerate")(hm:X.mg "enumerate" = none)(ha:QA X [a] ta)(hs:starEach [a] X.env=[(false,eval a X.env)]:=by rfl) :
  QI X (.Tuple elts x1 tpos) (.Call (.Name "enumerate" p) [a] [] pos) (zoh X.K ta):=⟨zms hg hm ha.run hs⟩
mutual
def Dt.toW:Dt->PySem.W.Dat
 | .non=>.none
 | .bl b=>.bool b
 | .int i=>.int i
 | .str x=>.str x
 | .tup l=>.tuple (Dt.toWs l)
 | .lst l=>.list (Dt.toWs l)
 | .dct=>.bytes #[]
def Dt.toWs:List Dt->List PySem.W.Dat
 | []=>[]
 | d::ds=>d.toW::Dt.toWs ds
end
mutual
theorem ziA:∀ {d e:Dt},d.toW=e.toW->d=e
 | .non,e,h=>by cases e <;> simp [Dt.toW] at h ⊢
 | .bl b,e,h=>by cases e <;> simp [Dt.toW] at h ⊢;exact h
 | .int b,e,h=>by cases e <;> simp [Dt.toW] at h ⊢;exact h
 | .str b,e,h=>by cases e <;> simp [Dt.toW] at h ⊢;exact h
 | .tup l,e,h=>by
  cases e with
  | tup m=>simp only [Dt.toW,PySem.W.Dat.tuple.injEq] at h;rw [zdv h]
  | _=>simp [Dt.toW] at h
 | .lst l,e,h=>by
  cases e with
  | lst m=>simp only [Dt.toW,PySem.W.Dat.list.injEq] at h;rw [zdv h]
  | _=>simp [Dt.toW] at h
 | .dct,e,h=>by cases e <;> simp [Dt.toW] at h ⊢
theorem zdv:∀ {l m:List Dt},Dt.toWs l=Dt.toWs m->l=m
 | [],m,h=>by cases m <;> simp [Dt.toWs] at h ⊢
 | d::l,m,h=>by
  cases m with
  | nil=>simp [Dt.toWs] at h
  | cons e m=>
   simp only [Dt.toWs,List.cons.injEq] at h
   rw [ziA h.1,zdv h.2]
end
def Dt.eqOk (d:Dt):Prop:=PySem.W.kqdOk 8 d.toW=true
section
variable {P:Program}{w:World}{H:Hp}{h:Heap}
mutual
theorem zaC (ok:HOk P w H h):∀ (n:Nat) {d:Dt} {v:V} {u:Value},Is H d v->yu v u->PySem.W.kqdOk n d.toW=true->∃ as,Reads h u (PySem.W.kqdP d.toW) as
 | _,.non,_,_,h1,r,_=>by cases h1;cases r;exact ⟨_,Reads.none⟩
 | n,.bl b,_,_,_,_,k=>by cases n <;> simp [Dt.toW,PySem.W.kqdOk] at k
 | _,.int i,_,_,h1,r,_=>by cases h1;obtain ⟨t,rfl⟩:=r;exact ⟨_,Reads.int i t⟩
 | _,.str x,_,_,h1,r,_=>by cases h1;obtain ⟨t,rfl⟩:=r;exact ⟨_,Reads.str x t⟩
 | 0,.tup l,_,_,_,_,k=>by simp [Dt.toW,PySem.W.kqdOk] at k
 | n+1,.tup l,_,_,h1,r,k=>by
  obtain ⟨a,xs,rfl,ha,hl⟩:=h1
  cases r
  obtain ⟨_,its,rv,o,ho,hc,⟨m,hd⟩,_⟩:=ok a _ ha
  obtain ⟨as,q⟩:=zap ok n hl rv (by simpa [Dt.toW,PySem.W.kqdOk] using k)
  exact ⟨as,reads_tuple_at ho hc hd (by simpa using q)⟩
 | 0,.lst l,_,_,_,_,k=>by simp [Dt.toW,PySem.W.kqdOk] at k
 | n+1,.lst l,_,_,h1,r,k=>by
  obtain ⟨a,xs,rfl,ha,hl⟩:=h1
  cases r
  obtain ⟨_,its,m,rv,e⟩:=ok a _ ha
  obtain ⟨as,q⟩:=zap ok n hl rv (by simpa [Dt.toW,PySem.W.kqdOk] using k)
  exact ⟨_,reads_list_at e rfl rfl (by simpa using q)⟩
 | n,.dct,_,_,_,_,k=>by cases n <;> simp [Dt.toW,PySem.W.kqdOk] at k
theorem zap (ok:HOk P w H h):∀ (n:Nat) {ds:List Dt} {xs:List V} {us:List Value},IsL H ds xs->z0 xs us->(∀ d∈Dt.toWs ds,PySem.W.kqdOk n d=true)->∃ as,ReadsAll h us (PySem.W.kqdPs (Dt.toWs ds)) as
 | _,[],_,_,h1,r,_=>by cases h1;cases r;exact ⟨_,ReadsAll.nil⟩
 | n,d::ds,_,_,h1,r,k=>by
  obtain ⟨x,xr,rfl,hd,hr⟩:=h1
  cases r with
  | cons rx rr=>
   obtain ⟨as,q⟩:=zaC ok n hd rx (k _ (by simp [Dt.toWs]))
   obtain ⟨bs,q2⟩:=zap ok n hr rr fun e he=>k e (by simp [Dt.toWs,he])
   exact ⟨_,ReadsAll.cons q q2⟩
end
end
theorem uh {d:Dt}(h:d.eqOk):SeqAt.shaped (PySem.W.kqdP d.toW)=true:=by
 have l:=PySem.W.kqd_lay 8 _ h
 unfold SeqAt.shaped
 rw [l.1,Bool.true_and]
 exact decide_eq_true (Nat.le_trans l.2 (by decide))
def zqz:R2:=fun x y H Q=>∃ d e,Is H d x/\Is H e y/\d.eqOk/\e.eqOk/\∀ b:Bool,(b=true↔d=e)->Q (.bl b) H
def zqC:R2:=fun x y H Q=>∃ d e,Is H d x/\Is H e y/\d.eqOk/\e.eqOk/\∀ b:Bool,(b=true↔d=e)->Q (.bl (!b)) H
section
variable {X:Cx}
theorem zgU {d e:Dt}(h1:d.eqOk)(h2:e.eqOk):PyData.eqv (PySem.W.kqdP d.toW) (PySem.W.kqdP e.toW)=true↔d=e:=
 (PySem.W.kqd_eqv 8 d.toW e.toW 8 h1 h2).trans ⟨ziA,fun z=>by rw [z]⟩
theorem zoM (hu:X.A.units+64<cLine):OpR X (compareOp .Eq) zqz:=by
 intro pins s σ H x y v u Q I rx ry h
 obtain ⟨d,e,hd,he,kd,ke,q⟩:=h
 obtain ⟨as,ra⟩:=zaC I.hok 8 hd rx kd
 obtain ⟨bs,rb⟩:=zaC I.hok 8 he ry ke
 exact eq_dataH ra rb (uh kd) (uh ke) hu ⟨.bl _,H,I,rfl,q _ (zgU kd ke)⟩
theorem zoP (hu:X.A.units+64<cLine):OpR X (compareOp .NotEq) zqC:=by
 intro pins s σ H x y v u Q I rx ry h
 obtain ⟨d,e,hd,he,kd,ke,q⟩:=h
 obtain ⟨as,ra⟩:=zaC I.hok 8 hd rx kd
 obtain ⟨bs,rb⟩:=zaC I.hok 8 he ry ke
 exact ne_dataH ra rb (uh kd) (uh ke) hu ⟨.bl _,H,I,rfl,q _ (zgU kd ke)⟩
theorem zh0 (hu:X.A.units+64<cLine):OpQ X (compareOp .Eq) zqz:=⟨zoM hu⟩
theorem zkQ (hu:X.A.units+64<cLine):OpQ X (compareOp .NotEq) zqC:=⟨zoP hu⟩
theorem zpn {o e:Expr}{to:TE}{t:TA}{apos cpos:Pos}(ho:QE X o to)(ha:QA X [e] t)(hbase:attributeBase o "append" X.env (eval o X.env)=eval o X.env:=by rfl)
  (hfew:((backTo cpos (starEach [e] X.env)).all (fun x=>!x.1)&&(backToKw cpos (keywordEach [] X.env)).all (fun x=>x.1.isSome)&&decide (([e]:List Expr).length+([]:List Keyword).length+(if ([]:List Keyword).isEmpty then 0 else 1)<30))=true:=by rfl)
  (hline:(apos.endLine==cpos.line)=true:=by rfl) (hs:starEach [e] X.env=(false,eval e X.env)::starEach [] X.env:=by rfl) (hplain:(backTo cpos (starEach [] X.env)).any (·.1)=false:=by rfl) :
  QE X (.Call (.Attribute o "append" apos) [e] [] cpos) (tBM X.K "list" ze4 to t):=⟨zoZ PySem.F.plainAttrs_list PySem.F.slot_list_append PySem.F.type_list_append zaH ho.run ha.run hbase hfew hline hs hplain⟩
end
theorem zbG {ns:List Int}:(Dt.tup (ns.map .int)).eqOk:=by
 have e:∀ ns:List Int,(Dt.toWs (ns.map .int)).all (PySem.W.kqdOk 7)=true:=by
  intro ns
  induction ns with
  | nil=>rfl
  | cons n ns ih=>simp only [List.map_cons,Dt.toWs,List.all_cons,ih,Bool.and_true];rfl
 exact e ns
def zK (rm:List Int)(i:Int):Int:=rm.getD i.toNat 0
@[reducible] def u9 (q:Int×Int):Dt:=.tup [.int q.1,.int q.2]
structure Giv (rm:List Int)(g:List (Int×Int)):Prop where
 ok:∀ q∈g,0<=q.1/\q.1<rm.length/\0<=q.2/\q.2<zK rm q.1
 up:g.Pairwise fun a b=>a.1<b.1
def zgr (H H':Hp):Prop:=∀ b xs,H b=some (.tup xs)->H' b=some (.tup xs)
theorem zgr.app {H:Hp}{a:Addr}{xs ys:List V}(h:H a=some (.lst xs)):zgr H (upd H a (.lst ys)):=fun b zs e=>by
 by_cases hb:b=a
 ·subst hb;rw [h] at e;cases e
 ·rw [zf hb];exact e
mutual
def Dt.noL:Dt->Bool
 | .tup l=>Dt.noLs l
 | .lst _=>false
 | .dct=>false
 | _=>true
def Dt.noLs:List Dt->Bool
 | []=>true
 | d::ds=>d.noL&&Dt.noLs ds
end
mutual
theorem Is.stayT {H H1:Hp}(a:zgr H H1):∀ {d:Dt} {v:V},d.noL=true->Is H d v->Is H1 d v
 | .non,_,_,h=>h
 | .bl _,_,_,h=>h
 | .int _,_,_,h=>h
 | .str _,_,_,h=>h
 | .tup l,_,n,h=>by
  obtain ⟨p,xs,e,hp,hl⟩:=h
  exact ⟨p,xs,e,a _ _ hp,IsL.stayT a (by simpa [Dt.noL] using n) hl⟩
 | .lst l,_,n,_=>by simp [Dt.noL] at n
 | .dct,_,n,_=>by simp [Dt.noL] at n
theorem IsL.stayT {H H1:Hp}(a:zgr H H1):∀ {ds:List Dt} {xs:List V},Dt.noLs ds=true->IsL H ds xs->IsL H1 ds xs
 | [],_,_,h=>h
 | d::ds,_,n,h=>by
  obtain ⟨x,r,e,hd,hr⟩:=h
  have n':d.noL=true/\Dt.noLs ds=true:=by simpa [Dt.noLs] using n
  exact ⟨x,r,e,Is.stayT a n'.1 hd,IsL.stayT a n'.2 hr⟩
end
theorem Giv.snoc {rm:List Int}{g:List (Int×Int)}{i w:Int}(h:Giv rm g)(hl:∀ q∈g,q.1<i)(h0:0<=i)(h1:i<rm.length)(h2:0<=w)(h3:w<zK rm i):Giv rm (g++[(i,w)]):=by
 refine ⟨fun q hq=>?_,List.pairwise_append.mpr ⟨h.up,List.pairwise_singleton _ _,fun a ha b hb=>?_⟩⟩
 ·rcases List.mem_append.mp hq with z | z
  ·exact h.ok q z
  ·rw [List.mem_singleton.mp z];exact ⟨h0,h1,h2,h3⟩
 ·rw [List.mem_singleton.mp hb];exact hl a ha
def New (H:Hp)(o:HO)(R:V->Hp->Prop):Prop:=∀ (p:Addr) (H':Hp),H p=none->H' p=some o->xB H H'->R (.ref p) H'
theorem New.at {H:Hp}{o:HO}{R:V->Hp->Prop}(h:New H o R){p:Addr}(hp:H p=none):R (.ref p) (upd H p o):=h p _ hp zo (xB.upd hp)
def zp1 (t:TA):TE:=fun σ H Q=>t σ H fun xs H1=>xs.length<=sizeLine/\New H1 (.tup xs) Q
def zpX (t:TA):TE:=fun σ H Q=>t σ H fun xs H1=>xs.length<=sizeLine/\New H1 (.lst xs) Q
section
variable {X:Cx}{es:List Expr}{t:TA}{pos:Pos}
theorem zmp {x1}(h:PA X es t):PE X (.Tuple es x1 pos) (zp1 t):=by
 intro pins s σ H Q I hq
 refine wpAny_Tuple_spliced (thn (h pos pins s σ H _ I hq) fun us s1 ⟨xs,H1,I1,r,z,q⟩=>⟨by rw [<- r.length];exact z,?_⟩)
 have hf:H1 s1.heap.objs.size=none:=I1.hok.fresh (Nat.le_refl _)
 refine ⟨.ref s1.heap.objs.size,upd H1 s1.heap.objs.size (.tup xs),I1.laid (t':=s1.toks) (fun b u e=>Heap.get?_push_of_some _ e) (Nat.le_refl _) ?_,rfl,q.at hf⟩
 exact ⟨z,us,r,⟨_,Heap.get?_push_size _ rfl,rfl,⟨_,rfl⟩,rfl⟩⟩
theorem zmn (h:PA X es t):PE X (.List es pos) (zpX t):=by
 intro pins s σ H Q I hq
 refine wpAny_List_spliced (thn (h pos pins s σ H _ I hq) fun us s1 ⟨xs,H1,I1,r,z,q⟩=>⟨by rw [<- r.length];exact z,?_⟩)
 have hf:H1 s1.heap.objs.size=none:=I1.hok.fresh (Nat.le_refl _)
 refine ⟨.ref s1.heap.objs.size,upd H1 s1.heap.objs.size (.lst xs),I1.laid (t':=s1.toks) (fun b u e=>Heap.get?_push_of_some _ e) (Nat.le_refl _) ?_,rfl,q.at hf⟩
 exact ⟨z,us,0,r,Heap.get?_push_size _ rfl⟩
theorem ze0 {x1}(h:QA X es t):QE X (.Tuple es x1 pos) (zp1 t):=⟨zmp h.run⟩
theorem zh9 (h:QA X es t):QE X (.List es pos) (zpX t):=⟨zmn h.run⟩
theorem CallQ.weak {f:Value}{r r':List V->Hp->VK->Prop}(h:CallQ X f r)(k:∀ xs H Q,r' xs H Q->r xs H Q):CallQ X f r':=⟨fun pins s σ H xs us Q I rr z=>h.run pins s σ H xs us Q I rr (k _ _ _ z)⟩
theorem OpQ.weak {f:Value->Value->Sem Value}{r r':R2}(h:OpQ X f r)(k:∀ x y H Q,r' x y H Q->r x y H Q):OpQ X f r':=⟨fun pins s σ H x y v u Q I rx ry z=>h.run pins s σ H x y v u Q I rx ry (k _ _ _ _ z)⟩
def zif (K:PySem.W.Frag):List V->Hp->VK->Prop:=fun xs H Q=>∃ p ys,xs=[.ref p]/\(SqL K H p ys\/SqT K H p ys)/\New H (.lst ys) Q
def ze5 (K:PySem.W.Frag):List V->Hp->VK->Prop:=fun xs H Q=>∃ p ys,xs=[.ref p]/\((SqL K H p ys/\New H (.tup ys) Q)\/(SqT K H p ys/\Q (.ref p) H))
theorem zev:CallQ X (.type "list") (zif X.K):=zfW.weak fun xs H Q ⟨p,ys,e,h,n⟩=>⟨p,ys,e,h,fun l hl=>n.at hl⟩
theorem zM:CallQ X (.type "tuple") (ze5 X.K):=zex.weak fun xs H Q ⟨p,ys,e,h⟩=>⟨p,ys,e,h.elim (fun ⟨a,n⟩=>.inl ⟨a,fun l hl=>n.at hl⟩) .inr⟩
def zm1:R2:=fun x y H Q=>∃ l b xs zs,x = .ref l/\y = .ref b/\H l=some (.lst xs)/\H b=some (.lst zs)/\xs.length+zs.length<=sizeLine/\New H (.lst (xs++zs)) Q
theorem zhZ:OpQ X (binaryOp .Add) zm1:=zoS.weak fun x y H Q ⟨l,b,xs,zs,e1,e2,h1,h2,z,n⟩=>⟨l,b,xs,zs,e1,e2,h1,h2,z,fun p hp=>n.at hp⟩
end
def ziV (g:TG)(ti:TT)(te:TE)(acc:Addr)(N:St->Hp->Prop)(x:V)(σ:St)(H:Hp):Prop:=
 g x σ H fun σ3 H3=>ti σ3 H3 fun ok H4=>if ok=true then te σ3 H4 fun v H5=>∃ xs,H5 acc=some (.lst xs)/\xs.length<sizeLine/\N σ3 (upd H5 acc (.lst (xs++[v]))) else N σ3 H4
def zqS (J:It)(g:TG)(ti:TT)(te:TE)(acc:Addr)(Q:VK)(σ:St)(H:Hp):Prop:=∃ W:Nat->Nat->St->Hp->Prop,(∃ m,W 0 m σ H)/\
 ∀ i m σ' H',W i m σ' H'->(J.stop i H'/\Q (.ref acc) H')\/(J.go i H'/\∃ N:St->Hp->Prop,(∀ σ2 H2,N σ2 H2->∃ m',m'<m/\W (i+1) m' σ2 H2)/\∀ x H2,J.yld i H' x H2->ziV g ti te acc N x σ' H2)
def zix (wi:TI)(g:TG)(ti:TT)(te:TE)(cix:List (Option Nat)):TE:=fun σ H Q=>wi σ H fun J H1=>∀ acc,H1 acc=none->zqS J g ti te acc Q (zbv σ cix) (upd H1 acc (.lst []))
theorem zj0 {X:Cx}{pos:Pos}{te:TE}{elt tg iter:Expr}{ifs:List Expr}{scope:Scope}{wi:TI}{g:TG}{ti:TT}{N:List Str}{cix:List (Option Nat)}(hc:X.calm=true)(c:CompOk X scope N cix)
  (hi:QI X tg iter wi) (hg:∀ C s H ex,QG (zt X scope N C s H ex) tg g) (ht:∀ C s H ex,QTs (zt X scope N C s H ex) ifs ti) (he:∀ C s H ex,QE (zt X scope N C s H ex) elt te)
  (hs:∀ x,foldedSetIterable iter X.env x=pure x:=by intro _;rfl):QE X (.ListComp elt [⟨tg,iter,ifs,0⟩] scope pos) (zix wi g ti te cix):=zmL hc c hi hg ht he hs
section
variable {K:PySem.W.Frag}{a acc:Addr}{xs:List V}{g:TG}{ti:TT}{te:TE}{σ:St}{H:Hp}{Q:VK}
end
theorem znV {g:TG}{te:TE}{acc:Addr}{N:St->Hp->Prop}{x:V}{σ:St}{H:Hp}(h:g x σ H fun σ3 H3=>te σ3 H3 fun v H5=>∃ xs,H5 acc=some (.lst xs)/\xs.length<sizeLine/\N σ3 (upd H5 acc (.lst (xs++[v])))):ziV g zbb te acc N x σ H:=zkL h
theorem zkb {H H1:Hp}{acc:Addr}{o:HO}(h:H acc=none)(s:xB H H1):xB H (upd H1 acc o):=fun b u e=>by rw [zf (zb e h)];exact s b u e
section
variable {X:Cx}(K:PySem.W.Frag)(h:X.K=K)
include h
theorem zjI:OpQ X (binaryOp .Add) (zic K):=h ▸ xy
end
theorem zmQ {X:Cx}(K:PySem.W.Frag)(hK:X.K=K){es:List Expr}{pos:Pos}{k:Nat}{gs:TGs}{n:Nat}(hc:X.calm=true)(h:QGs X es gs)(hn:(assignEach es X.env).length=n:=by rfl)(hst:(assignEach es X.env).findIdx? (·.1)=none:=by rfl):QG X (.Tuple es k pos) (zq9 K n gs):=hK ▸ zpq hc h hn hst
theorem zmT {X:Cx}(K:PySem.W.Frag)(hK:X.K=K){e tg:Expr}{te:TE}(hl:QE X e te):QI X tg e (zra K te):=hK ▸ zpr hl
theorem zfF {X:Cx}(K:PySem.W.Frag)(hK:X.K=K){e tg:Expr}{te:TE}(hl:QE X e te):QI X tg e (zlE K te):=hK ▸ ze1 hl
structure Wi where
 g:List (Int×Int)
 b:Int
 r:Int
 w:Int
@[reducible] def zaV (x:Wi):Dt:=.tup [.tup (x.g.map u9),.int x.b,.int x.r,.int x.w]
structure WishOk (rm:List Int)(x:Wi):Prop where
 giv:Giv rm x.g
 b0:0<=x.b
 b1:x.b<rm.length
 apart:∀ q∈x.g,q.1≠x.b
 r0:0<=x.r
 r1:x.r<zK rm x.b
 w0:0<=x.w
 w1:x.w<zK rm x.b
 ne:x.r≠x.w
section
variable {H H':Hp}{R:Dt->Prop}{xs ys:List V}
end
theorem zji (b:Int)(ns:List Int):inV (.int b) (ns.map V.int)=ns.contains b:=by
 unfold inV
 induction ns with
 | nil=>rfl
 | cons n ns ih=>
  rw [List.map_cons,List.any_cons,ih,List.contains_cons]
  show ((n==b) || _)=((b==n) || _)
  rw [show (n==b)=(b==n) from BEq.comm]
theorem zg4 (ns:List Int):(ns.map V.int).all zcV=true:=by
 rw [List.all_eq_true]
 intro x hx
 obtain ⟨n,_,rfl⟩:=List.mem_map.mp hx
 rfl
theorem zg6 {m:Int}:∀ {g:List (Int×Int)} {lo:Int},(∀ q∈g,lo<=q.1/\q.1<m)->(g.Pairwise fun a b=>a.1<b.1)->lo<=m->(g.length:Int)<=m - lo
 | [],lo,_,_,h=>by simp;lia
 | q::g,lo,h,hp,hm=>by
  have h1:=h q List.mem_cons_self
  have c:=List.pairwise_cons.mp hp
  have ih:=zg6 (g:=g) (lo:=q.1+1) (fun x hx=>⟨by have:=c.1 x hx;lia,(h x (List.mem_cons_of_mem _ hx)).2⟩) c.2 (by lia)
  rw [List.length_cons]
  lia
theorem zcX {rm:List Int}{g:List (Int×Int)}(h:Giv rm g)(h8:rm.length<=8):g.length<=100:=by
 have:=zg6 (g:=g) (lo:=0) (m:=rm.length) (fun q hq=>⟨(h.ok q hq).1,(h.ok q hq).2.1⟩) h.up (by lia)
 lia
theorem zgG (xs:List V)(k:Nat):zcT xs none (some (k:Int))=xs.take k:=by
 have e:HT.sIx xs.length xs.length (some (k:Int))=min k xs.length:=by simp [HT.sIx];try lia
 unfold zcT
 rw [e,show HT.sIx xs.length 0 none=0 from rfl,List.drop_zero,Nat.sub_zero]
 by_cases h:k<=xs.length
 ·rw [Nat.min_eq_left h]
 ·rw [Nat.min_eq_right (by lia),List.take_of_length_le (Nat.le_refl _),List.take_of_length_le (by lia)]
theorem zgF (xs:List V)(k:Nat):zcT xs (some (k:Int)) none=xs.drop k:=by
 have e:HT.sIx xs.length 0 (some (k:Int))=min k xs.length:=by simp [HT.sIx];try lia
 unfold zcT
 rw [e,show HT.sIx xs.length xs.length none=xs.length from rfl]
 by_cases h:k<=xs.length
 ·rw [Nat.min_eq_left h,List.take_of_length_le (by rw [List.length_drop];lia)]
 ·rw [Nat.min_eq_right (by lia),List.drop_eq_nil_of_le (as:=xs) (i:=xs.length) (by lia),List.drop_eq_nil_of_le (as:=xs) (i:=k) (by lia),List.take_nil]
section
variable {rm:List Int}{g b r w:Dt}
end
end L2
namespace HT
open PySem PySem.Spec PyProof.Rows
section
variable {prog:Program}{w:World}{A:Around}{E:Value->Shared->Prop}{s:Shared}
theorem fm_congr {α β:Type}{f g:α->Option β}:∀ {l:List α},(∀ m∈l,f m=g m)->l.filterMap f=l.filterMap g
 | [],_=>rfl
 | a::l,h=>by rw [List.filterMap_cons,List.filterMap_cons,h a List.mem_cons_self,fm_congr fun m hm=>h m (List.mem_cons_of_mem _ hm)]
theorem pick_rev (xs:Array Value):((List.range xs.size).filterMap fun (m:Nat)=>xs[((xs.size:Int) - 1+(m:Int) * (-1)).toNat]?).toArray=xs.toList.reverse.toArray:=by
 congr 1
 have e:∀ m∈List.range xs.size,xs[((xs.size:Int) - 1+(m:Int) * (-1)).toNat]?=some (xs.toList.reverse.getD m .none):=by
  intro m hm
  have a:=List.mem_range.mp hm
  have e1:((xs.size:Int) - 1+(m:Int) * (-1)).toNat=xs.size - 1 - m:=by lia
  rw [e1]
  have h2:xs.size - 1 - m<xs.size:=by lia
  rw [Array.getElem?_eq_getElem h2]
  congr 1
  rw [List.getD_eq_getElem?_getD,List.getElem?_reverse (by rw [Array.length_toList];exact a),Array.length_toList,Array.getElem?_toList,Array.getElem?_eq_getElem h2]
  rfl
 rw [fm_congr e]
 rw [List.filterMap_eq_map' (f:=fun m=>xs.toList.reverse.getD m .none)]
 refine List.ext_getElem? fun i=>?_
 rw [List.getElem?_map]
 by_cases hi:i<xs.size
 ·rw [List.getElem?_range hi]
  show some (xs.toList.reverse.getD i .none)=_
  have hl:i<xs.toList.reverse.length:=by rw [List.length_reverse,Array.length_toList];exact hi
  rw [List.getD_eq_getElem?_getD,List.getElem?_eq_getElem hl]
  rfl
 ·rw [List.getElem?_eq_none (by rw [List.length_range];lia),List.getElem?_eq_none (by rw [List.length_reverse,Array.length_toList];lia)]
  rfl
end
end HT
namespace L2
open PySem PySem.Spec PyProof.Rows
section
variable {X:Cx}{e:Expr}{te:TE}{pos p2 p3 p4:Pos}{j:Nat}
theorem zej {xs:List V}{us:List Value}(r:z0 xs us):z0 xs.reverse us.reverse:=by
 induction r with
 | nil=>exact .nil
 | cons h _ ih=>rw [List.reverse_cons,List.reverse_cons];exact ih.append (.cons h .nil)
theorem zds (xs:Array Value):slicePick xs none none (some (-1))=xs.toList.reverse.toArray:=by
 rw [<- HT.pick_rev]
 unfold slicePick
 congr 1
 have e1:sliceBounds none none (some (-1)) xs.size=((xs.size:Int) - 1,-1,-1):=by simp [sliceBounds]
 rw [e1]
 unfold sliceRange
 have e2:(if (-1:Int) > 0 then (if (xs.size:Int) - 1 < -1 then (-1 - ((xs.size:Int) - 1)+-1 - 1) / -1 else 0) else if (xs.size:Int) - 1 > -1 then ((xs.size:Int) - 1 - -1 - -1 - 1) / - -1 else 0).toNat=xs.size:=by
  rw [if_neg (by decide),show - (-1:Int)=1 from rfl,Int.ediv_one]
  split <;> lia
 show List.filterMap (fun x=>xs[x]?) (List.map _ (List.range (if (-1:Int) > 0 then (if (xs.size:Int) - 1 < -1 then (-1 - ((xs.size:Int) - 1)+-1 - 1) / -1 else 0) else if (xs.size:Int) - 1 > -1 then ((xs.size:Int) - 1 - -1 - -1 - 1) / - -1 else 0).toNat))=_
 rw [e2,List.filterMap_map]
 refine HT.fm_congr fun m hm=>?_
 show xs[((xs.size:Int) - 1+-1 * (m:Int)).toNat]?=_
 rw [show (xs.size:Int) - 1+-1 * (m:Int)=(xs.size:Int) - 1+(m:Int) * -1 by lia]
def zp0 (te:TE):TE:=fun σ H Q=>te σ H fun x H1=>∃ a xs,x = .ref a/\H1 a=some (.lst xs)/\New H1 (.lst xs.reverse) Q
theorem zmo (he:PE X e te):PE X (.Subscript e (.Slice none none (some (.UnaryOp .USub (.Constant (.int 1) j p4) p3)) p2) pos) (zp0 te):=by
 intro pins s σ H Q I h
 refine Subscript_ (thn (he pins s σ H _ I h) fun v s1 ⟨x,H1,I1,r1,q1⟩=>?_)
 obtain ⟨a,xs,rfl,ha,q⟩:=q1
 cases r1
 refine wpAny_Slice ?_
 rw [evalPart_none]
 refine wpAny_pure (wpAny_pure ?_)
 rw [evalPart_some]
 refine thn (zrN (zp7 (X:=X)) (zkR (X:=X)) pins s1 σ H1 (fun z H2=>z = .int (-1)/\H2=H1) I1 ⟨1,rfl,rfl,rfl⟩) fun u s2 ⟨z,H2,I2,r2,e1,e2⟩=>?_
 subst e1 e2
 obtain ⟨tk,rfl⟩:=r2
 have I3:Inv X pins σ H2 { s2 with heap:=s2.heap.push { cls:=.type "slice",data:=.fields #[.none,.none,.int (-1) tk] } }:=I2.kept (t':=s2.toks) fun b ob q=>Heap.get?_push_of_some _ q
 obtain ⟨its,r,ht,hz⟩:=I3.list (.of ha)
 have hlen:=r.length
 show wpAny (model X.prog X.w) X.A (subscriptTail e _ (.ref a) (.ref s2.heap.objs.size)) (EP X pins σ Q) X.xe { s2 with heap:=s2.heap.push { cls:=.type "slice",data:=.fields #[.none,.none,.int (-1) tk] } }
 refine tail_any (ops:=[.ref a,.ref s2.heap.objs.size]) ht.isList.typeIs slot_list_getitem.lookup ?_ (by with_unfolding_all rfl)
 refine wpAny_getItem_list_slice ht.isList (Heap.IsSliceOf.new ..) .none .none (.int (-1) tk) (by simp) ?_ (by rw [List.size_toArray] <;> lia)
 rw [zds]
 refine ⟨.ref _,_,I3.laid (t':=s2.toks) (o:=.lst xs.reverse) (fun b ob q=>Heap.get?_push_of_some _ q) (Nat.le_refl _) ?_,rfl,q.at (I3.hok.fresh (Nat.le_refl _))⟩
 exact ⟨by rw [List.length_reverse];exact hz,its.reverse,0,zej r,Heap.get?_push_size _ rfl⟩
theorem zmO (he:QE X e te):QE X (.Subscript e (.Slice none none (some (.UnaryOp .USub (.Constant (.int 1) j p4) p3)) p2) pos) (zp0 te):=⟨zmo he.run⟩
def zrX:V->V->V->Hp->(Hp->Prop)->Prop:=fun o i v H Q=>∃ p xs k,o = .ref p/\i = .int k/\H p=some (.lst xs)/\0<=k/\k<xs.length/\Q (upd H p (.lst (xs.set k.toNat v)))
theorem zmP {o i:Expr}{to ti:TE}(ho:QE X o to)(hi:QE X i ti)(ha:∀ v,assign (.Subscript o i pos) X.env v=(do
   let ov <- holding [v] (eval o X.env)
   let iv <- holding [v,ov] (eval i X.env)
   standAt pos
   holding [v,ov,iv] (setItem ov iv v)
   release [v,ov,iv] []):=by intro _;rfl):QG X (.Subscript o i pos) (gSub to ti zrX):=
 ⟨zo7 ho.run hi.run (fun pins s σ H o i v ov iv u Q I ro ri rv ⟨p,xs,k,e1,e2,hp,h0,h1,q⟩=>zkd pins s σ H o i v ov iv u Q I ro ri rv ⟨p,xs,k,k.toNat,e1,e2,hp,by unfold ixN;rw [if_pos h0,if_pos h1],q⟩) ha⟩
end
section
variable {X:Cx}
end
def chg (st:List Int)(b w:Int):List Int:=st.take b.toNat++[w]++st.drop (b.toNat+1)
theorem zlf (st:List Int){b w:Int}(h0:0<=b):zcT (st.map V.int) none (some b)++[.int w]++zcT (st.map V.int) (some (b+1)) none=(chg st b w).map V.int:=by
 obtain ⟨j,rfl⟩:∃ j:Nat,b=j:=⟨b.toNat,by lia⟩
 rw [zgG,show ((j:Int)+1)=((j+1:Nat):Int) by lia,zgF]
 unfold chg
 rw [List.map_append,List.map_append,List.map_take,List.map_drop]
 rfl
theorem zgy {st:List Int}{b w:Int}(h0:0<=b)(h1:b<st.length):(chg st b w).length=st.length:=by
 unfold chg
 rw [List.length_append,List.length_append,List.length_take,List.length_drop]
 show min b.toNat st.length+1+(st.length - (b.toNat+1))=st.length
 lia
theorem zlg {st:List Int}{b w c:Int}(h0:0<=b)(h1:b<st.length)(c0:0<=c):zK (chg st b w) c=if c=b then w else zK st c:=by
 obtain ⟨j,rfl⟩:∃ j:Nat,b=j:=⟨b.toNat,by lia⟩
 obtain ⟨k,rfl⟩:∃ k:Nat,c=k:=⟨c.toNat,by lia⟩
 have hj:j<st.length:=by lia
 unfold zK chg
 simp only [Int.toNat_natCast,List.getD_eq_getElem?_getD]
 have hl:(st.take j).length=j:=by rw [List.length_take];lia
 rcases Nat.lt_trichotomy k j with h | h | h
 ·rw [if_neg (by lia),List.append_assoc,List.getElem?_append_left (by rw [hl];exact h),List.getElem?_take_of_lt h]
 ·subst h
  rw [if_pos rfl,List.append_assoc,List.getElem?_append_right (by rw [hl];exact Nat.le_refl _),hl,Nat.sub_self]
  rfl
 ·rw [if_neg (by lia),List.append_assoc,List.getElem?_append_right (by rw [hl];lia),hl]
  obtain ⟨m,rfl⟩:∃ m,k=j+1+m:=⟨k - (j+1),by lia⟩
  rw [show j+1+m - j=m+1 by lia]
  show ((st.drop (j+1))[m]?).getD 0=_
  rw [List.getElem?_drop]
def yL (st:List Int)(g:List (Int×Int)):Bool:=g.all fun q=>decide (zK st q.1=q.2)
def za2 (st:List Int)(x:Wi):Bool:=decide (zK st x.b=x.w)&&yL st x.g
theorem zU (st:List Int)(j:Nat):zK st (j:Int)=st.getD j 0:=by unfold zK;simp
theorem xF {st:List Int}{r b:Int}(h0:0<=b)(h1:b<st.length):zK (st++[r]) b=zK st b:=by
 obtain ⟨j,rfl⟩:∃ j:Nat,b=j:=⟨b.toNat,by lia⟩
 have hj:j<st.length:=by lia
 rw [zU,zU,List.getD_eq_getElem?_getD,List.getD_eq_getElem?_getD,List.getElem?_append_left hj]
theorem uM {st:List Int}{r:Int}:zK (st++[r]) (st.length:Int)=r:=by
 rw [zU,List.getD_eq_getElem?_getD,List.getElem?_append_right (Nat.le_refl _),Nat.sub_self]
 rfl
theorem zeS {st:List Int}{i:Nat}{m:Int}(h:st[i]?=some m):zK st (i:Int)=m:=by
 rw [zU,List.getD_eq_getElem?_getD,h]
 rfl
theorem yN {rm:List Int}(hb:∀ r∈rm,2<=r/\r<=4){b:Int}(h0:0<=b)(h1:b<rm.length):2<=zK rm b/\zK rm b<=4:=by
 obtain ⟨j,rfl⟩:∃ j:Nat,b=j:=⟨b.toNat,by lia⟩
 have hj:j<rm.length:=by lia
 rw [zeS (List.getElem?_eq_getElem hj)]
 exact hb _ (List.getElem_mem hj)
theorem zd2:∀ st:List Int,Dt.noLs (st.map .int)=true
 | []=>rfl
 | _::st=>by
  show (true&&Dt.noLs (st.map .int))=true
  rw [zd2 st]
  rfl
theorem zju (st:List Int):PySem.W.kqdOk 7 (Dt.tup (st.map .int)).toW=true:=by
 have e:∀ ns:List Int,(Dt.toWs (ns.map .int)).all (PySem.W.kqdOk 6)=true:=by
  intro ns
  induction ns with
  | nil=>rfl
  | cons n ns ih=>simp only [List.map_cons,Dt.toWs,List.all_cons,ih,Bool.and_true];rfl
 exact e st
theorem zmB {X:Cx}{elt tg iter:Expr}{ifs:List Expr}{scope:Scope}{pos spos:Pos}{wi:TI}{g:TG}{ti:TT}{te:TE}{N:List Str}{cix:List (Option Nat)}{ix:Nat}{nx:Str}{px:Pos}(hNd:X.N.Nodup)(hix:X.N[ix]?=some nx)(hlx:X.env.scope.names.lookup nx=some .local)(hc:X.calm=true)(c:CompOk X scope N cix)
  (hi:PI X tg iter wi) (hg:∀ C s H ex,PG (zt X scope N C s H ex) tg g) (ht:∀ C s H ex,PTs (zt X scope N C s H ex) ifs ti) (he:∀ C s H ex,PE (zt X scope N C s H ex) elt te)
  (hsw:swapsWithSole [.Name nx px] (.ListComp elt [⟨tg,iter,ifs,0⟩] scope pos) spos.line X.env=pure true)
  (hs:∀ x,foldedSetIterable iter X.env x=pure x:=by intro _;rfl)
  (h1a:(assignEach [.Name nx px] X.env).map (·.2)=[assign (.Name nx px) X.env]:=by rfl):PS X (.Assign [.Name nx px] (.ListComp elt [⟨tg,iter,ifs,0⟩] scope pos) spos) (zfa (zkg wi g ti te cix) (zao ix)):=by
 intro pins s σ H D I h0
 have h:zkg wi g ti te cix σ H (fun x H1=>D.nx (σ.set ix (some x)) H1):=h0
 rw [exec_Assign_arm]
 refine wpAny_bind (wpAny_standAt ?_)
 rw [hsw]
 refine wpAny_bind (wpAny_pure ?_)
 rw [if_pos rfl]
 refine wpAny_bind ?_
 rw [evalThenUse.eq_1]
 refine wpAny_bind ?_
 generalize hU:(fun v=>assignAll v ((assignEach [.Name nx px] X.env).map (·.2)))=U
 refine wpAny_comprehension_free (g:=⟨tg,iter,ifs,0⟩) (gs:=[]) (use:=some U) rfl hs (uW (c.cells I.ok)) c.kind c.names ?_
 refine (thn (hi pins s σ H _ I h) fun xv s1 h1=>thn h1 fun itv s2 h2=>?_)
 obtain ⟨it,fp,tn,J,H2,e,I2,T,B,f2,q2⟩:=h2
 subst e
 refine wpAny_newObj_type (wpAny_newFunctionEnv c.cell (by intro y hy;simp at hy) (fun h4 f j=>?_) c.kind)
 dsimp only at f j ⊢
 have k:=I2.hok.fresh (Nat.le_refl s2.heap.objs.size)
 have I3:Inv X pins σ (upd H2 s2.heap.objs.size (.lst [])) { s2 with heap:=s2.heap.push { cls:=.type "list",dict:=none,data:=.seq ([]:List Value).toArray },toks:=s2.toks }:=I2.lnew (t':=s2.toks) .nil (by simp)
 obtain ⟨W,⟨m0,w0⟩,turn⟩:=q2 s2.heap.objs.size k
 have l:∀ b∈fp,b<s2.heap.objs.size:=fun b hb=>by
  obtain ⟨o,ho,_⟩:=T.obj _ _ B b hb
  exact Heap.lt_size ho
 have f3:∀ b∈fp,zdC X pins (upd H2 s2.heap.objs.size (.lst [])) b:=fun b hb=>⟨by rw [zf (Nat.ne_of_lt (l b hb))];exact (f2 b hb).1,(f2 b hb).2⟩
 have kp:∀ b o,(s2.heap.push { cls:=.type "list",dict:=none,data:=.seq ([]:List Value).toArray }).get? b=some o->h4.get? b=some o:=fun b o e=>
  j.extBut b o (Nat.ne_of_lt (Heap.lt_size e)) (Heap.get?_push_of_some _ e)
 have E:s2.heap.objs.size<(s2.heap.push { cls:=.type "list",dict:=none,data:=.seq ([]:List Value).toArray }).objs.size:=by rw [Heap.size_push];exact Nat.lt_succ_self _
 have I4:=zbw (tk:=s2.toks+([]:List (Str×Value)).length) I3 c f3 (fun b hb=>Nat.lt_trans (l b hb) E) f kp
 have F:tn 0 h4:=T.keep _ _ _ B fun b hb o e=>kp b o (Heap.get?_push_of_some _ e)
 generalize hX:zt X scope N (s2.heap.push { cls:=.type "list",dict:=none,data:=.seq ([]:List Value).toArray }).objs.size
  { s2 with heap:=s2.heap.push { cls:=.type "list",dict:=none,data:=.seq ([]:List Value).toArray },toks:=s2.toks } (upd H2 s2.heap.objs.size (.lst [])) fp=X' at I4
 have pX:X'.prog=X.prog:=by rw [<- hX];rfl
 have wX:X'.w=X.w:=by rw [<- hX];rfl
 have KX:X'.K=X.K:=by rw [<- hX];rfl
 have AX:X'.A=X.A:=by rw [<- hX];rfl
 have cX:X'.calm=true:=by rw [<- hX];exact hc
 have xX:X'.xe=fun _ _=>False:=by rw [<- hX];rfl
 have eX:X'.env=compEnvC scope (zel X.env scope.names []) (s2.heap.push { cls:=.type "list",dict:=none,data:=.seq ([]:List Value).toArray }).objs.size X.env:=by rw [<- hX];rfl
 have Q:PG X' tg g:=by rw [<- hX];exact hg _ _ _ _
 have R:PTs X' ifs ti:=by rw [<- hX];exact ht _ _ _ _
 have S:PE X' elt te:=by rw [<- hX];exact he _ _ _ _
 have f4:∀ {H':Hp},(∀ b∈fp,H' b=none)->∀ b∈fp,zdC X' [] H' b:=fun {H'} hn b hb=>by
  refine ⟨hn b hb,?_,?_,.inl ?_,?_,?_⟩
  ·rw [eX];exact Nat.ne_of_lt (Nat.lt_trans (l b hb) E)
  ·have e1:X'.fs=frs X.stack:=by rw [<- hX];rfl
   rw [e1]
   intro z
   rcases List.mem_cons.mp (I2.stkSub b z) with e | e
   ·exact (f2 b hb).2.1 e
   ·exact (f2 b hb).2.2.1 e
  ·rw [<- hX];exact hb
  ·rw [eX]
   intro x a e
   rcases xY (c.cells I.ok) e with z | z
   ·exact (f2 b hb).2.2.2.2.1 x a z
   ·simp at z
  ·intro p hp
   have e1:X'.pn++([]:List (Addr×Obj))=[]:=by rw [<- hX];rfl
   rw [e1] at hp
   simp at hp
 have loop:∀ s4:Shared,s4={ s2 with heap:=h4,toks:=s2.toks+([]:List (Str×Value)).length }->
   codeAny (model X.prog X.w) X.A (.compLoop (.ListComp elt [⟨tg,iter,ifs,0⟩] scope pos) 0 (.ref it) (.ref s2.heap.objs.size) X'.env)
    (compPost (model X.prog X.w) X.A X.xe (some U) (fun _ s=>wpAny (model X.prog X.w) X.A (pure ()) (fun _ s=>wpAny (model X.prog X.w) X.A (pure Flow.next) (SP X pins D) X.xe s) X.xe s) (.ref s2.heap.objs.size) (s2.heap.push { cls:=.type "list",dict:=none,data:=.seq ([]:List Value).toArray }).objs.size) s4:=by
  rintro s4 rfl
  refine zaz (fun n s'=>∃ i σ' H',Inv X' [] σ' H' s'/\tn i s'.heap/\(∀ b∈fp,H' b=none)/\W i n σ' H') ?_ m0 ⟨0,zbv σ cix,_,I4,F,fun b hb=>(f3 b hb).1,w0⟩
  rintro n s5 ⟨i,σ5,H5,I5,G,L,w5⟩
  rcases turn i n σ5 H5 w5 with ⟨stop,qn⟩ | ⟨go,Nx,hN,step⟩
  ·have:=T.done X' pX wX KX cX i [] s5 σ5 H5 (fun _ _=>False) I5 (f4 L) G stop
   rw [AX] at this
   refine thn this fun r s6 ⟨hr,I6⟩=>?_
   subst hr
   obtain ⟨m6,M,_⟩:=I6.loc
   have O:H5 (s2.heap.push { cls:=.type "list",dict:=none,data:=.seq ([]:List Value).toArray }).objs.size=none:=by
    have:=I6.free
    rw [eX] at this
    exact this
   rw [eX] at M
   have I6':=I6
   rw [<- hX] at I6'
   have IX:=uY I3 f3 I6' ⟨rfl,fun _ _=>rfl⟩
   have fC:=I3.fpOk (Nat.le_refl _) O
   have V:U (.ref s2.heap.objs.size)=assignAll (.ref s2.heap.objs.size) [assign (.Name nx px) X.env]:=by
    rw [<- hU,<- h1a]
   show wpAny _ _ (U (.ref s2.heap.objs.size)) _ _ s6
   rw [V]
   refine wpAny_assign_Name (x:=nx) (pos:=px) ?_
   refine zb7 IX hNd hix (Or.inl hlx) (v:=.ref s2.heap.objs.size) rfl (fun s7 I7 ⟨a7,Y,Z⟩=>?_) (.inr hlx)
   have va:(s2.heap.push { cls:=.type "list",dict:=none,data:=.seq ([]:List Value).toArray }).objs.size≠a7:=by
    intro z
    rcases Z with e | e
    ·exact fC.2.1 (z.trans e)
    ·exact fC.2.2.2.2.1 nx a7 e z.symm
   obtain ⟨oC,vb,vc,vd,rC⟩:=M
   refine ⟨m6,⟨oC,vb,vc,(Y.2 _ va).trans vd,rC⟩,fun h8 ve=>?_⟩
   refine wpAny_pure (wpAny_pure ?_)
   exact ⟨_,H5,I7.turned (t':=s7.toks) (fun b o hb e=>(ve.2 b hb).trans e) O fC.2.1 fC.2.2.2.1 fC.2.2.2.2.1 fC.2.2.2.2.2,qn⟩
  ·have:=T.item X' pX wX KX cX i [] s5 σ5 H5 (fun _ _=>False) I5 (f4 L) G go
   rw [AX] at this
   refine thn this fun r s6 ⟨u,hr,h6⟩=>?_
   subst hr
   refine thn h6 fun _ s7 ⟨x,H7,I7,r7,y7,q,vf⟩=>?_
   have I7':=I7.pinned (f4 vf) (T.obj _ _ q)
   have a7:=Q _ s7 σ5 H7 x u _ I7' r7 (step x H7 y7)
   rw [pX,wX,AX,xX] at a7
   refine thn a7 fun _ s8 ⟨σ8,H8,I8,q8⟩=>?_
   have t8:=R _ s8 σ8 H8 _ I8 q8
   rw [pX,wX,AX,xX] at t8
   refine thn t8 fun ok s9 ⟨H9,I9,q9⟩=>?_
   have again:∀ {s':Shared} {σ':St} {H':Hp},Inv X' ([]++x8 fp s7.heap) σ' H' s'->Nx σ' H'->∃ m,m<n/\∃ i σ' H',Inv X' [] σ' H' s'/\tn i s'.heap/\(∀ b∈fp,H' b=none)/\W i m σ' H':=fun {s' σ' H'} J' n'=>by
    obtain ⟨m',hm,w'⟩:=hN σ' H' n'
    refine ⟨m',hm,i+1,σ',H',J'.unpinned,T.keep _ _ _ q fun b hb o e=>(J'.pin (b,o) (List.mem_append_right _ (List.mem_append_right _ (zT hb e)))).1,fun b hb=>?_,w'⟩
    obtain ⟨o,e,d⟩:=T.obj _ _ q b hb
    exact (J'.pin (b,o) (List.mem_append_right _ (List.mem_append_right _ (zT hb e)))).2.1
   cases ok with
   | false=>exact again I9 q9
   | true=>
    have e9:=S _ s9 σ8 H9 _ I9 q9
    rw [pX,wX,AX,xX] at e9
    refine thn e9 fun u2 vg ⟨v,H10,I10,vh,vi⟩=>?_
    obtain ⟨xs,vj,vk,nx⟩:=vi
    have P:=zaH (X:=X') _ vg σ8 H10 (.ref s2.heap.objs.size) [v] (.ref s2.heap.objs.size) [u2] (fun _ H'=>Nx σ8 H') I10 rfl (.cons vh .nil) ⟨_,xs,v,rfl,rfl,vj,vk,nx⟩
    rw [pX,wX,AX,xX] at P
    refine thn P fun _ s11 ⟨_,H11,I11,_,vl⟩=>again I11 vl
 have l0:=loop _ rfl
 rw [eX] at l0
 exact codeAny_compStart_list l0 (T.self X.A 0 _ _ _ F l0)
theorem zmZ {X:Cx}{elt tg iter:Expr}{ifs:List Expr}{scope:Scope}{pos spos:Pos}{wi:TI}{g:TG}{ti:TT}{te:TE}{N:List Str}{cix:List (Option Nat)}{ix:Nat}{nx:Str}{px:Pos}(hNd:X.N.Nodup)(hix:X.N[ix]?=some nx)(hlx:X.env.scope.names.lookup nx=some .local)(hc:X.calm=true)(c:CompOk X scope N cix)
  (hi:QI X tg iter wi) (hg:∀ C s H ex,QG (zt X scope N C s H ex) tg g) (ht:∀ C s H ex,QTs (zt X scope N C s H ex) ifs ti) (he:∀ C s H ex,QE (zt X scope N C s H ex) elt te)
  (hsw:swapsWithSole [.Name nx px] (.ListComp elt [⟨tg,iter,ifs,0⟩] scope pos) spos.line X.env=pure true:=by rfl)
  (hs:∀ x,foldedSetIterable iter X.env x=pure x:=by intro _;rfl)
  (h1a:(assignEach [.Name nx px] X.env).map (·.2)=[assign (.Name nx px) X.env]:=by rfl):QS X (.Assign [.Name nx px] (.ListComp elt [⟨tg,iter,ifs,0⟩] scope pos) spos) (zfa (zix wi g ti te cix) (zao ix)):=
 ⟨zmB hNd hix hlx hc c hi.run (fun C s H ex=>(hg C s H ex).run) (fun C s H ex=>(ht C s H ex).run) (fun C s H ex=>(he C s H ex).run) hsw hs h1a⟩
section
variable {prog:Program}{w:World}{A:Around}{E:Value->Shared->Prop}{s:Shared}
end
section
variable {X:Cx}
end
section
variable {prog:Program}{w:World}{A:Around}{R:Result->Shared->Prop}{s:Shared}
theorem zbm {elt target iter:Expr}{c1:Comprehension}{ifs:List Expr}{scope:Scope}{pos:Pos}{it acc:Value}{env:Env}(I:Nat->Shared->Prop)
  (turn:∀ n s,I n s->wpAny (model prog w) A (pyNext it) (fun r s₁=>match r with
   | none=>R (.ok .next) s₁
   | some v=>wpAny (model prog w) A (letOwnedTupleGo target it v) (fun _ s₂=>wpAny (model prog w) A (assign target env v) (fun _ s₃=>
     wpAny (model prog w) A (forIn ifs true fun c r=>if r=true then do let ok <- isTrue c env (eval c env);pure (ForInStep.yield ok) else pure (ForInStep.yield r)) (fun ok s₄=>
      if ok=true then wpAny (model prog w) A (eval elt env) (fun x s₅=>
       wpAny (model prog w) A (call (.builtin "list.append") [acc,x]) (fun _ s₆=>∃ m,m<n/\I m s₆) (fun _ _=>False) s₅) (fun _ _=>False) s₄
      else ∃ m,m<n/\I m s₄) (fun _ _=>False) s₃) (fun _ _=>False) s₂) (fun _ _=>False) s₁) (fun _ _=>False) s)
  (n:Nat) (h:I n s) :
  codeAny (model prog w) A (.compLoop (.ListComp elt [c1,⟨target,iter,ifs,0⟩] scope pos) 1 it acc env) R s:=by
 refine codeAny_loop rfl I (fun n s hI=>?_) n h
 show wpAny _ A ((compTurn (.ListComp elt [c1,⟨target,iter,ifs,0⟩] scope pos) 1 it acc env).onRaise (fun x=>do noteFrame x env;theTreesLotGoes x)) _ _ s
 refine wpAny_noted ?_
 unfold compTurn
 refine wpAny_bind (wpAny_standAt (wpAny_bind (wpAny_mono (turn n s hI) (fun r s₁ h₁=>?_) fun _ _ h'=>h'.elim)))
 cases r with
 | none=>exact wpAny_pure h₁
 | some v=>
  refine wpAny_bind (wpAny_mono h₁ (fun _ s₂ h₂=>?_) fun _ _ h'=>h'.elim)
  refine wpAny_bind (wpAny_mono h₂ (fun _ s₃ h₃=>wpAny_bind (wpAny_mono h₃ (fun ok s₄ h₄=>?_) fun _ _ h'=>h'.elim)) fun _ _ h'=>h'.elim)
  cases ok with
  | false=>exact wpAny_pure ⟨rfl,h₄⟩
  | true=>
   exact wpAny_bind (wpAny_bind (wpAny_mono h₄ (fun x s₅ h₅=>wpAny_bind (wpAny_mono h₅ (fun _ s₆ h₆=>wpAny_pure (wpAny_pure ⟨rfl,h₆⟩)) fun _ _ h'=>h'.elim)) fun _ _ h'=>h'.elim))
theorem zan {elt target iter:Expr}{c1:Comprehension}{ifs:List Expr}{scope:Scope}{pos:Pos}{it acc:Value}{env:Env}
  (h1:codeAny (model prog w) A (.compLoop (.ListComp elt [c1,⟨target,iter,ifs,0⟩] scope pos) 1 it acc env) R s)
  (h2:wpAny (model prog w) A (pyIter it) (fun it' s'=>codeAny (model prog w) A (.compLoop (.ListComp elt [c1,⟨target,iter,ifs,0⟩] scope pos) 1 it' acc env) R s') (fun _ _=>False) s) :
  codeAny (model prog w) A (.compStart (.ListComp elt [c1,⟨target,iter,ifs,0⟩] scope pos) 1 it acc env) R s:=by
 refine codeAny_of_tree ?_
 show wpAny _ A ((compStart (.ListComp elt [c1,⟨target,iter,ifs,0⟩] scope pos) 1 it acc env).onRaise (fun x=>do noteFrame x env;standAt theWindowsPlace)) _ _ s
 refine wpAny_onRaise ?_
 unfold compStart
 rw [if_neg (by show ¬ ((0 != 0)=true);decide)]
 refine wpAny_bind (wpAny_askSetting ?_)
 split
 ·exact wpAny_pure ⟨rfl,h1⟩
 ·refine wpAny_bind (wpAny_rule ?_)
  refine wpAny_bind (wpAny_standAt ?_)
  refine wpAny_bind (wpAny_mono h2 (fun it' s' h'=>wpAny_pure ⟨rfl,h'⟩) fun _ _ h'=>h'.elim)
theorem za1 {elt target iter t2 it2:Expr}{ifs ifs2:List Expr}{scope:Scope}{pos:Pos}{it acc:Value}{env:Env}(hf:∀ x,foldedSetIterable it2 env x=pure x)(I:Nat->Shared->Prop)
  (turn:∀ n s,I n s->wpAny (model prog w) A (pyNext it) (fun r s₁=>match r with
   | none=>R (.ok .next) s₁
   | some v=>wpAny (model prog w) A (letOwnedTupleGo target it v) (fun _ s₂=>wpAny (model prog w) A (assign target env v) (fun _ s₃=>
     wpAny (model prog w) A (forIn ifs true fun c r=>if r=true then do let ok <- isTrue c env (eval c env);pure (ForInStep.yield ok) else pure (ForInStep.yield r)) (fun ok s₄=>
      if ok=true then wpAny (model prog w) A (eval it2 env) (fun x s₅=>wpAny (model prog w) A (pyIter x) (fun iv s₆=>
       codeAny (model prog w) A (.compStart (.ListComp elt [⟨target,iter,ifs,0⟩,⟨t2,it2,ifs2,0⟩] scope pos) 1 iv acc env) (fun r s₇=>match r with
        | .ok _=>∃ m,m<n/\I m s₇
        | .error _=>False) s₆) (fun _ _=>False) s₅) (fun _ _=>False) s₄
      else ∃ m,m<n/\I m s₄) (fun _ _=>False) s₃) (fun _ _=>False) s₂) (fun _ _=>False) s₁) (fun _ _=>False) s)
  (n:Nat) (h:I n s) :
  codeAny (model prog w) A (.compLoop (.ListComp elt [⟨target,iter,ifs,0⟩,⟨t2,it2,ifs2,0⟩] scope pos) 0 it acc env) R s:=by
 refine codeAny_loop rfl I (fun n s hI=>?_) n h
 show wpAny _ A ((compTurn (.ListComp elt [⟨target,iter,ifs,0⟩,⟨t2,it2,ifs2,0⟩] scope pos) 0 it acc env).onRaise (fun x=>do noteFrame x env;theTreesLotGoes x)) _ _ s
 refine wpAny_noted ?_
 unfold compTurn
 refine wpAny_bind (wpAny_standAt (wpAny_bind (wpAny_mono (turn n s hI) (fun r s₁ h₁=>?_) fun _ _ h'=>h'.elim)))
 cases r with
 | none=>exact wpAny_pure h₁
 | some v=>
  refine wpAny_bind (wpAny_mono h₁ (fun _ s₂ h₂=>?_) fun _ _ h'=>h'.elim)
  refine wpAny_bind (wpAny_mono h₂ (fun _ s₃ h₃=>wpAny_bind (wpAny_mono h₃ (fun ok s₄ h₄=>?_) fun _ _ h'=>h'.elim)) fun _ _ h'=>h'.elim)
  cases ok with
  | false=>exact wpAny_pure ⟨rfl,h₄⟩
  | true=>
   refine wpAny_bind (wpAny_mono h₄ (fun x s₅ h₅=>?_) fun _ _ h'=>h'.elim)
   refine wpAny_bind (wpAny_standAt ?_)
   show wpAny _ _ (foldedSetIterable it2 env x >>= _) _ _ _
   rw [hf]
   refine wpAny_bind (wpAny_pure ?_)
   show wpAny _ _ (holding [x] (pyIter x) >>= _) _ _ _
   refine wpAny_bind (wpAny_holding (wpAny_mono h₅ (fun iv s₆ h₆=>?_) fun _ _ h'=>h'.elim))
   refine wpAny_bind (wpAny_runOwn (h:=none) ?_)
   refine codeAny_mono (show codeAny (model prog w) (A.mark none) _ _ s₆ from h₆) fun r s₇ h₇=>?_
   cases r with
   | ok f=>exact wpAny_pure ⟨rfl,h₇⟩
   | error e=>exact h₇.elim
end
def zky (J:It)(g:TG)(ti:TT)(te:TE)(acc:Addr)(N:St->Hp->Prop)(σ:St)(H:Hp):Prop:=∃ W:Nat->Nat->St->Hp->Prop,(∃ m,W 0 m σ H)/\
 ∀ i m σ' H',W i m σ' H'->(J.stop i H'/\N σ' H')\/(J.go i H'/\∃ N2:St->Hp->Prop,(∀ σ2 H2,N2 σ2 H2->∃ m',m'<m/\W (i+1) m' σ2 H2)/\∀ x H2,J.yld i H' x H2->ziV g ti te acc N2 x σ' H2)
def zgA (g:TG)(ti:TT)(wi2:TI)(g2:TG)(ti2:TT)(te:TE)(acc:Addr)(N:St->Hp->Prop)(x:V)(σ:St)(H:Hp):Prop:=
 g x σ H fun σ3 H3=>ti σ3 H3 fun ok H4=>if ok=true then wi2 σ3 H4 fun J2 H5=>zky J2 g2 ti2 te acc N σ3 H5 else N σ3 H4
def zkr (J:It)(g:TG)(ti:TT)(wi2:TI)(g2:TG)(ti2:TT)(te:TE)(acc:Addr)(Q:VK)(σ:St)(H:Hp):Prop:=∃ W:Nat->Nat->St->Hp->Prop,(∃ m,W 0 m σ H)/\
 ∀ i m σ' H',W i m σ' H'->(J.stop i H'/\Q (.ref acc) H')\/(J.go i H'/\∃ N:St->Hp->Prop,(∀ σ2 H2,N σ2 H2->∃ m',m'<m/\W (i+1) m' σ2 H2)/\∀ x H2,J.yld i H' x H2->zgA g ti wi2 g2 ti2 te acc N x σ' H2)
def ziw (wi:TI)(g:TG)(ti:TT)(wi2:TI)(g2:TG)(ti2:TT)(te:TE)(cix:List (Option Nat)):TE:=fun σ H Q=>wi σ H fun J H1=>∀ acc,H1 acc=none->zkr J g ti wi2 g2 ti2 te acc Q (zbv σ cix) (upd H1 acc (.lst []))
theorem zjW {X:Cx}{elt tg iter tg2 iter2:Expr}{ifs ifs2:List Expr}{scope:Scope}{pos spos:Pos}{wi wi2:TI}{g g2:TG}{ti ti2:TT}{te:TE}{N:List Str}{cix:List (Option Nat)}{ix:Nat}{nx:Str}{px:Pos}(hNd:X.N.Nodup)(hix:X.N[ix]?=some nx)(hlx:X.env.scope.names.lookup nx=some .local)(hc:X.calm=true)(c:CompOk X scope N cix)
  (hi:PI X tg iter wi) (hg:∀ C s H ex,PG (zt X scope N C s H ex) tg g) (ht:∀ C s H ex,PTs (zt X scope N C s H ex) ifs ti)
  (hi2:∀ C s H ex,PI (zt X scope N C s H ex) tg2 iter2 wi2) (hg2:∀ C s H ex,PG (zt X scope N C s H ex) tg2 g2) (ht2:∀ C s H ex,PTs (zt X scope N C s H ex) ifs2 ti2) (he:∀ C s H ex,PE (zt X scope N C s H ex) elt te)
  (hsw:swapsWithSole [.Name nx px] (.ListComp elt [⟨tg,iter,ifs,0⟩,⟨tg2,iter2,ifs2,0⟩] scope pos) spos.line X.env=pure true)
  (hs:∀ x,foldedSetIterable iter X.env x=pure x:=by intro _;rfl) (hs2:∀ C s H ex x,foldedSetIterable iter2 (zt X scope N C s H ex).env x=pure x:=by intro _ _ _ _ _;rfl)
  (h1a:(assignEach [.Name nx px] X.env).map (·.2)=[assign (.Name nx px) X.env]:=by rfl):PS X (.Assign [.Name nx px] (.ListComp elt [⟨tg,iter,ifs,0⟩,⟨tg2,iter2,ifs2,0⟩] scope pos) spos) (zfa (ziw wi g ti wi2 g2 ti2 te cix) (zao ix)):=by
 intro pins s σ H D I h0
 have h:ziw wi g ti wi2 g2 ti2 te cix σ H (fun x H1=>D.nx (σ.set ix (some x)) H1):=h0
 rw [exec_Assign_arm]
 refine wpAny_bind (wpAny_standAt ?_)
 rw [hsw]
 refine wpAny_bind (wpAny_pure ?_)
 rw [if_pos rfl]
 refine wpAny_bind ?_
 rw [evalThenUse.eq_1]
 refine wpAny_bind ?_
 generalize hU:(fun v=>assignAll v ((assignEach [.Name nx px] X.env).map (·.2)))=U
 refine wpAny_comprehension_free (g:=⟨tg,iter,ifs,0⟩) (gs:=[⟨tg2,iter2,ifs2,0⟩]) (use:=some U) rfl hs (uW (c.cells I.ok)) c.kind c.names ?_
 refine (thn (hi pins s σ H _ I h) fun xv s1 h1=>thn h1 fun itv s2 h2=>?_)
 obtain ⟨it,fp,tn,J,H2,e,I2,T,V,f2,q2⟩:=h2
 subst e
 refine wpAny_newObj_type (wpAny_newFunctionEnv c.cell (by intro y hy;simp at hy) (fun h4 F G=>?_) c.kind)
 dsimp only at F G ⊢
 have P:=I2.hok.fresh (Nat.le_refl s2.heap.objs.size)
 have I3:Inv X pins σ (upd H2 s2.heap.objs.size (.lst [])) { s2 with heap:=s2.heap.push { cls:=.type "list",dict:=none,data:=.seq ([]:List Value).toArray },toks:=s2.toks }:=I2.lnew (t':=s2.toks) .nil (by simp)
 obtain ⟨W,⟨m0,w0⟩,turn⟩:=q2 s2.heap.objs.size P
 have Q:∀ b∈fp,b<s2.heap.objs.size:=fun b hb=>by
  obtain ⟨o,ho,_⟩:=T.obj _ _ V b hb
  exact Heap.lt_size ho
 have f3:∀ b∈fp,zdC X pins (upd H2 s2.heap.objs.size (.lst [])) b:=fun b hb=>⟨by rw [zf (Nat.ne_of_lt (Q b hb))];exact (f2 b hb).1,(f2 b hb).2⟩
 have kp:∀ b o,(s2.heap.push { cls:=.type "list",dict:=none,data:=.seq ([]:List Value).toArray }).get? b=some o->h4.get? b=some o:=fun b o e=>
  G.extBut b o (Nat.ne_of_lt (Heap.lt_size e)) (Heap.get?_push_of_some _ e)
 have Y:s2.heap.objs.size<(s2.heap.push { cls:=.type "list",dict:=none,data:=.seq ([]:List Value).toArray }).objs.size:=by rw [Heap.size_push];exact Nat.lt_succ_self _
 have I4:=zbw (tk:=s2.toks+([]:List (Str×Value)).length) I3 c f3 (fun b hb=>Nat.lt_trans (Q b hb) Y) F kp
 have Z:tn 0 h4:=T.keep _ _ _ V fun b hb o e=>kp b o (Heap.get?_push_of_some _ e)
 generalize hX:zt X scope N (s2.heap.push { cls:=.type "list",dict:=none,data:=.seq ([]:List Value).toArray }).objs.size
  { s2 with heap:=s2.heap.push { cls:=.type "list",dict:=none,data:=.seq ([]:List Value).toArray },toks:=s2.toks } (upd H2 s2.heap.objs.size (.lst [])) fp=X' at I4
 have pX:X'.prog=X.prog:=by rw [<- hX];rfl
 have wX:X'.w=X.w:=by rw [<- hX];rfl
 have KX:X'.K=X.K:=by rw [<- hX];rfl
 have AX:X'.A=X.A:=by rw [<- hX];rfl
 have cX:X'.calm=true:=by rw [<- hX];exact hc
 have xX:X'.xe=fun _ _=>False:=by rw [<- hX];rfl
 have eX:X'.env=compEnvC scope (zel X.env scope.names []) (s2.heap.push { cls:=.type "list",dict:=none,data:=.seq ([]:List Value).toArray }).objs.size X.env:=by rw [<- hX];rfl
 have vs:PG X' tg g:=by rw [<- hX];exact hg _ _ _ _
 have vt:PTs X' ifs ti:=by rw [<- hX];exact ht _ _ _ _
 have vu:PE X' elt te:=by rw [<- hX];exact he _ _ _ _
 have va:PI X' tg2 iter2 wi2:=by rw [<- hX];exact hi2 _ _ _ _
 have vb:PG X' tg2 g2:=by rw [<- hX];exact hg2 _ _ _ _
 have vc:PTs X' ifs2 ti2:=by rw [<- hX];exact ht2 _ _ _ _
 have vd:∀ x,foldedSetIterable iter2 X'.env x=pure x:=by rw [<- hX];exact hs2 _ _ _ _
 have f4:∀ {H':Hp},(∀ b∈fp,H' b=none)->∀ b∈fp,zdC X' [] H' b:=fun {H'} hn b hb=>by
  refine ⟨hn b hb,?_,?_,.inl ?_,?_,?_⟩
  ·rw [eX];exact Nat.ne_of_lt (Nat.lt_trans (Q b hb) Y)
  ·have e1:X'.fs=frs X.stack:=by rw [<- hX];rfl
   rw [e1]
   intro z
   rcases List.mem_cons.mp (I2.stkSub b z) with e | e
   ·exact (f2 b hb).2.1 e
   ·exact (f2 b hb).2.2.1 e
  ·rw [<- hX];exact hb
  ·rw [eX]
   intro x a e
   rcases xY (c.cells I.ok) e with z | z
   ·exact (f2 b hb).2.2.2.2.1 x a z
   ·simp at z
  ·intro p hp
   have e1:X'.pn++([]:List (Addr×Obj))=[]:=by rw [<- hX];rfl
   rw [e1] at hp
   simp at hp
 have loop:∀ s4:Shared,s4={ s2 with heap:=h4,toks:=s2.toks+([]:List (Str×Value)).length }->
   codeAny (model X.prog X.w) X.A (.compLoop (.ListComp elt [⟨tg,iter,ifs,0⟩,⟨tg2,iter2,ifs2,0⟩] scope pos) 0 (.ref it) (.ref s2.heap.objs.size) X'.env)
    (compPost (model X.prog X.w) X.A X.xe (some U) (fun _ s=>wpAny (model X.prog X.w) X.A (pure ()) (fun _ s=>wpAny (model X.prog X.w) X.A (pure Flow.next) (SP X pins D) X.xe s) X.xe s) (.ref s2.heap.objs.size) (s2.heap.push { cls:=.type "list",dict:=none,data:=.seq ([]:List Value).toArray }).objs.size) s4:=by
  rintro s4 rfl
  refine za1 vd (fun n s'=>∃ i σ' H',Inv X' [] σ' H' s'/\tn i s'.heap/\(∀ b∈fp,H' b=none)/\W i n σ' H') ?_ m0 ⟨0,zbv σ cix,_,I4,Z,fun b hb=>(f3 b hb).1,w0⟩
  rintro n s5 ⟨i,σ5,H5,I5,ve,vf,w5⟩
  rcases turn i n σ5 H5 w5 with ⟨stop,qn⟩ | ⟨go,Nx,hN,step⟩
  ·have:=T.done X' pX wX KX cX i [] s5 σ5 H5 (fun _ _=>False) I5 (f4 vf) ve stop
   rw [AX] at this
   refine thn this fun r s6 ⟨hr,I6⟩=>?_
   subst hr
   obtain ⟨m6,vg,_⟩:=I6.loc
   have vh:H5 (s2.heap.push { cls:=.type "list",dict:=none,data:=.seq ([]:List Value).toArray }).objs.size=none:=by
    have:=I6.free
    rw [eX] at this
    exact this
   rw [eX] at vg
   have I6':=I6
   rw [<- hX] at I6'
   have IX:=uY I3 f3 I6' ⟨rfl,fun _ _=>rfl⟩
   have fC:=I3.fpOk (Nat.le_refl _) vh
   have vv:U (.ref s2.heap.objs.size)=assignAll (.ref s2.heap.objs.size) [assign (.Name nx px) X.env]:=by
    rw [<- hU,<- h1a]
   show wpAny _ _ (U (.ref s2.heap.objs.size)) _ _ s6
   rw [vv]
   refine wpAny_assign_Name (x:=nx) (pos:=px) ?_
   refine zb7 IX hNd hix (Or.inl hlx) (v:=.ref s2.heap.objs.size) rfl (fun s7 I7 ⟨a7,vw,vx⟩=>?_) (.inr hlx)
   have vy:(s2.heap.push { cls:=.type "list",dict:=none,data:=.seq ([]:List Value).toArray }).objs.size≠a7:=by
    intro z
    rcases vx with e | e
    ·exact fC.2.1 (z.trans e)
    ·exact fC.2.2.2.2.1 nx a7 e z.symm
   obtain ⟨oC,vz,v0,v1,rC⟩:=vg
   refine ⟨m6,⟨oC,vz,v0,(vw.2 _ vy).trans v1,rC⟩,fun h8 v2=>?_⟩
   refine wpAny_pure (wpAny_pure ?_)
   exact ⟨_,H5,I7.turned (t':=s7.toks) (fun b o hb e=>(v2.2 b hb).trans e) vh fC.2.1 fC.2.2.2.1 fC.2.2.2.2.1 fC.2.2.2.2.2,qn⟩
  ·have:=T.item X' pX wX KX cX i [] s5 σ5 H5 (fun _ _=>False) I5 (f4 vf) ve go
   rw [AX] at this
   refine thn this fun r s6 ⟨u,hr,h6⟩=>?_
   subst hr
   refine thn h6 fun _ s7 ⟨x,H7,I7,r7,y7,R,v3⟩=>?_
   have I7':=I7.pinned (f4 v3) (T.obj _ _ R)
   have a7:=vs _ s7 σ5 H7 x u _ I7' r7 (step x H7 y7)
   rw [pX,wX,AX,xX] at a7
   refine thn a7 fun _ s8 ⟨σ8,H8,I8,q8⟩=>?_
   have t8:=vt _ s8 σ8 H8 _ I8 q8
   rw [pX,wX,AX,xX] at t8
   refine thn t8 fun ok s9 ⟨H9,I9,q9⟩=>?_
   have again:∀ {s':Shared} {σ':St} {H':Hp},Inv X' ([]++x8 fp s7.heap) σ' H' s'->Nx σ' H'->∃ m,m<n/\∃ i σ' H',Inv X' [] σ' H' s'/\tn i s'.heap/\(∀ b∈fp,H' b=none)/\W i m σ' H':=fun {s' σ' H'} J' n'=>by
    obtain ⟨m',hm,w'⟩:=hN σ' H' n'
    refine ⟨m',hm,i+1,σ',H',J'.unpinned,T.keep _ _ _ R fun b hb o e=>(J'.pin (b,o) (List.mem_append_right _ (List.mem_append_right _ (zT hb e)))).1,fun b hb=>?_,w'⟩
    obtain ⟨o,e,d⟩:=T.obj _ _ R b hb
    exact (J'.pin (b,o) (List.mem_append_right _ (List.mem_append_right _ (zT hb e)))).2.1
   cases ok with
   | false=>exact again I9 q9
   | true=>
    have e9:=va _ s9 σ8 H9 _ I9 q9
    rw [pX,wX,AX,xX] at e9
    refine thn e9 fun xv2 s10 v4=>thn v4 fun wp v5 v6=>?_
    obtain ⟨v7,j,vi,J2,H11,e2,I11,T2,L,vj,W2,⟨v8,v9⟩,S⟩:=v6
    subst e2
    rw [pX,wX,KX] at T2
    have k:∀ {H':Hp},(∀ b∈j,H' b=none)->∀ b∈j,zdC X' ([]++x8 fp s7.heap) H' b:=fun hn b hb=>⟨hn b hb,(vj b hb).2⟩
    have l:codeAny (model X.prog X.w) X.A (.compLoop (.ListComp elt [⟨tg,iter,ifs,0⟩,⟨tg2,iter2,ifs2,0⟩] scope pos) 1 (.ref v7) (.ref s2.heap.objs.size) X'.env) (fun r s₇=>match r with
      | .ok _=>∃ m,m<n/\∃ i σ' H',Inv X' [] σ' H' s₇/\tn i s₇.heap/\(∀ b∈fp,H' b=none)/\W i m σ' H'
      | .error _=>False) v5:=by
     refine zbm (fun n2 s'=>∃ i σ' H',Inv X' ([]++x8 fp s7.heap) σ' H' s'/\vi i s'.heap/\(∀ b∈j,H' b=none)/\W2 i n2 σ' H') ?_ v8 ⟨0,σ8,H11,I11,L,fun b hb=>(vj b hb).1,v9⟩
     rintro n2 vk ⟨i2,B,H12,I12,M,O,wa⟩
     rcases S i2 n2 B H12 wa with ⟨stop2,qn2⟩ | ⟨go2,Nx2,hN2,step2⟩
     ·have:=T2.done X' pX wX KX cX i2 _ vk B H12 (fun _ _=>False) I12 (k O) M stop2
      rw [AX] at this
      refine thn this fun r wb ⟨hr,I13⟩=>?_
      subst hr
      exact again I13 qn2
     ·have:=T2.item X' pX wX KX cX i2 _ vk B H12 (fun _ _=>False) I12 (k O) M go2
      rw [AX] at this
      refine thn this fun r wb ⟨u,hr,wc⟩=>?_
      subst hr
      refine thn wc fun _ vl ⟨x,H14,I14,wd,we,q,vm⟩=>?_
      have I14':=I14.pinned (k vm) (T2.obj _ _ q)
      have vn:=vb _ vl B H14 x u _ I14' wd (step2 x H14 we)
      rw [pX,wX,AX,xX] at vn
      refine thn vn fun _ wf ⟨E,H15,I15,wg⟩=>?_
      have vo:=vc _ wf E H15 _ I15 wg
      rw [pX,wX,AX,xX] at vo
      refine thn vo fun ok wh ⟨H16,I16,vp⟩=>?_
      have f:∀ {s':Shared} {σ':St} {H':Hp},Inv X' (([]++x8 fp s7.heap)++x8 j vl.heap) σ' H' s'->Nx2 σ' H'->∃ m,m<n2/\∃ i σ' H',Inv X' ([]++x8 fp s7.heap) σ' H' s'/\vi i s'.heap/\(∀ b∈j,H' b=none)/\W2 i m σ' H':=fun {s' σ' H'} J' n'=>by
       obtain ⟨m',hm,w'⟩:=hN2 σ' H' n'
       refine ⟨m',hm,i2+1,σ',H',J'.unpinned,T2.keep _ _ _ q fun b hb o e=>(J'.pin (b,o) (List.mem_append_right _ (List.mem_append_right _ (zT hb e)))).1,fun b hb=>?_,w'⟩
       obtain ⟨o,e,d⟩:=T2.obj _ _ q b hb
       exact (J'.pin (b,o) (List.mem_append_right _ (List.mem_append_right _ (zT hb e)))).2.1
      cases ok with
      | false=>exact f I16 vp
      | true=>
       have vq:=vu _ wh E H16 _ I16 vp
       rw [pX,wX,AX,xX] at vq
       refine thn vq fun u2 wj ⟨v,H17,I17,wk,wl⟩=>?_
       obtain ⟨xs,wm,wn,nx⟩:=wl
       have vr:=zaH (X:=X') _ wj E H17 (.ref s2.heap.objs.size) [v] (.ref s2.heap.objs.size) [u2] (fun _ H'=>Nx2 E H') I17 rfl (.cons wk .nil) ⟨_,xs,v,rfl,rfl,wm,wn,nx⟩
       rw [pX,wX,AX,xX] at vr
       refine thn vr fun _ s18 ⟨_,H18,I18,_,wo⟩=>f I18 wo
    exact zan l (T2.self X.A 0 _ _ _ L l)
 have l0:=loop _ rfl
 rw [eX] at l0
 exact codeAny_compStart_list l0 (T.self X.A 0 _ _ _ Z l0)
theorem zj5 {X:Cx}{elt tg iter tg2 iter2:Expr}{ifs ifs2:List Expr}{scope:Scope}{pos spos:Pos}{wi wi2:TI}{g g2:TG}{ti ti2:TT}{te:TE}{N:List Str}{cix:List (Option Nat)}{ix:Nat}{nx:Str}{px:Pos}(hNd:X.N.Nodup)(hix:X.N[ix]?=some nx)(hlx:X.env.scope.names.lookup nx=some .local)(hc:X.calm=true)(c:CompOk X scope N cix)
  (hi:QI X tg iter wi) (hg:∀ C s H ex,QG (zt X scope N C s H ex) tg g) (ht:∀ C s H ex,QTs (zt X scope N C s H ex) ifs ti)
  (hi2:∀ C s H ex,QI (zt X scope N C s H ex) tg2 iter2 wi2) (hg2:∀ C s H ex,QG (zt X scope N C s H ex) tg2 g2) (ht2:∀ C s H ex,QTs (zt X scope N C s H ex) ifs2 ti2) (he:∀ C s H ex,QE (zt X scope N C s H ex) elt te)
  (hsw:swapsWithSole [.Name nx px] (.ListComp elt [⟨tg,iter,ifs,0⟩,⟨tg2,iter2,ifs2,0⟩] scope pos) spos.line X.env=pure true:=by rfl)
  (hs:∀ x,foldedSetIterable iter X.env x=pure x:=by intro _;rfl) (hs2:∀ C s H ex x,foldedSetIterable iter2 (zt X scope N C s H ex).env x=pure x:=by intro _ _ _ _ _;rfl)
  (h1a:(assignEach [.Name nx px] X.env).map (·.2)=[assign (.Name nx px) X.env]:=by rfl):QS X (.Assign [.Name nx px] (.ListComp elt [⟨tg,iter,ifs,0⟩,⟨tg2,iter2,ifs2,0⟩] scope pos) spos) (zfa (ziw wi g ti wi2 g2 ti2 te cix) (zao ix)):=
 ⟨zjW hNd hix hlx hc c hi.run (fun C s H ex=>(hg C s H ex).run) (fun C s H ex=>(ht C s H ex).run) (fun C s H ex=>(hi2 C s H ex).run) (fun C s H ex=>(hg2 C s H ex).run) (fun C s H ex=>(ht2 C s H ex).run) (fun C s H ex=>(he C s H ex).run) hsw hs hs2 h1a⟩
section
variable {K:PySem.W.Frag}{a acc:Addr}{xs:List V}{g:TG}{ti:TT}{wi2:TI}{g2:TG}{ti2:TT}{te:TE}{σ:St}{H:Hp}{Q:VK}{N:St->Hp->Prop}
theorem zfV (hacc:H acc=none)(Pv:Nat->St->Hp->Prop)(h0:∀ H',H' acc=some (.lst [])->xB H H'->Pv 0 σ H')(hl:∀ i σ H,i<=xs.length->Pv i σ H->SqL K H a xs)
  (hs:∀ i x σ H,xs[i]?=some x->Pv i σ H->zgA g ti wi2 g2 ti2 te acc (Pv (i+1)) x σ H) (hd:∀ σ H,Pv xs.length σ H->Q (.ref acc) H):zkr (Itl K a) g ti wi2 g2 ti2 te acc Q σ (upd H acc (.lst [])):=by
 refine ⟨fun i m σ H=>m=xs.length - i/\i<=xs.length/\Pv i σ H,⟨xs.length,by simp,Nat.zero_le _,h0 _ zo (xB.upd hacc)⟩,?_⟩
 rintro i m σ H ⟨rfl,hi,p⟩
 have q:=hl i σ H hi p
 by_cases hlt:i<xs.length
 ·refine .inr ⟨⟨xs,xs[i],q,by simp [hlt]⟩,Pv (i+1),fun σ' H' p'=>⟨xs.length - (i+1),by lia,rfl,hlt,p'⟩,fun x H' y=>?_⟩
  obtain ⟨e,y⟩:=y
  subst e
  exact hs i x σ _ (y xs q) p
 ·have e:i=xs.length:=by lia
  subst e
  exact .inl ⟨⟨xs,q,Nat.le_refl _⟩,hd σ H p⟩
theorem zfZ (Pv:Nat->St->Hp->Prop)(h0:Pv 0 σ H)(hl:∀ i σ H,i<=xs.length->Pv i σ H->SqL K H a xs)
  (hs:∀ i x σ H,xs[i]?=some x->Pv i σ H->ziV g ti te acc (Pv (i+1)) x σ H) (hd:∀ σ H,Pv xs.length σ H->N σ H):zky (Itl K a) g ti te acc N σ H:=by
 refine ⟨fun i m σ H=>m=xs.length - i/\i<=xs.length/\Pv i σ H,⟨xs.length,by simp,Nat.zero_le _,h0⟩,?_⟩
 rintro i m σ H ⟨rfl,hi,p⟩
 have q:=hl i σ H hi p
 by_cases hlt:i<xs.length
 ·refine .inr ⟨⟨xs,xs[i],q,by simp [hlt]⟩,Pv (i+1),fun σ' H' p'=>⟨xs.length - (i+1),by lia,rfl,hlt,p'⟩,fun x H' y=>?_⟩
  obtain ⟨e,y⟩:=y
  subst e
  exact hs i x σ _ (y xs q) p
 ·have e:i=xs.length:=by lia
  subst e
  exact .inl ⟨⟨xs,q,Nat.le_refl _⟩,hd σ H p⟩
end
section
variable {X:Cx}
theorem zi0:CallQ X (.type "range") (fun xs H Q=>∃ n,xs=[.int n]/\New H (.rng 0 n) Q):=⟨by
 intro pins s σ H xs us Q I r h
 obtain ⟨n,rfl,q⟩:=h
 obtain ⟨u,rfl,ru⟩:=zaU r
 obtain ⟨t,rfl⟩:=ru
 refine call_range_1 ?_
 refine ⟨.ref s.heap.objs.size,_,I.laid (t':=s.toks+1+1) (o:=.rng 0 n) (fun b ob q=>Heap.get?_push_of_some _ q) (Nat.le_refl _) ?_,rfl,q.at (I.hok.fresh (Nat.le_refl _))⟩
 exact ⟨_,_,_,Heap.get?_push_size _ rfl⟩⟩
theorem zfH (n:Nat):Builtin.Range.rangeSize 0 (n:Int) 1=n:=by
 unfold Builtin.Range.rangeSize
 rw [if_pos (by decide)]
 split
 ·rw [Int.ediv_one];lia
 ·lia
theorem ziH:∀ {xs:List V} {us:List Value},xs.length=us.length->(∀ (i:Nat) x u,xs[i]?=some x->us[i]?=some u->yu x u)->z0 xs us
 | [],[],_,_=>.nil
 | [],_::_,h,_=>by simp at h
 | _::_,[],h,_=>by simp at h
 | x::xs,u::us,h,k=>.cons (k 0 x u rfl rfl) (ziH (by simpa using h) fun i y v hy hv=>k (i+1) y v hy hv)
theorem zew (hc:X.calm=true):CallQ X (.type "list") (fun xs H Q=>∃ (p:Addr) (n:Nat),xs=[.ref p]/\H p=some (.rng 0 n)/\n<=1000/\New H (.lst ((List.range n).map fun i:Nat=>V.int i)) Q):=⟨by
 intro pins s σ H xs us Q I r h
 obtain ⟨p,n,rfl,hp,hn,q⟩:=h
 obtain ⟨u,rfl,ru⟩:=zaU r
 cases ru
 obtain ⟨t,u,v,ho⟩:=I.hok p _ hp
 have f:n<sizeLine:=zaR hn
 refine call_list_range (a:=0) (b:=n) (c:=1) (n:=n) (I.ok.hd hc) ho ?_ ?_ (Nat.le_trans hn (by decide)) fun h' tk d c' kp hg hit=>?_
 ·have e:=zfH n
  unfold Builtin.Range.small
  rw [e]
  simp [Builtin.Range.rangeFitsLong]
  lia
 ·exact zfH n
 ·have hv:z0 ((List.range n).map fun i:Nat=>V.int i) d.toList:=by
   refine ziH (by rw [List.length_map,List.length_range,Array.length_toList,hit.1]) fun j x u hx hu=>?_
   rw [List.getElem?_map] at hx
   obtain ⟨k,hk,rfl⟩:=Option.map_eq_some_iff.mp hx
   obtain ⟨g,e⟩:=List.getElem?_eq_some_iff.mp hk
   have:k=j:=by simpa using e.symm
   subst this
   obtain ⟨t',rfl⟩:=hit.2 k u (by simpa using hu)
   exact ⟨t',by rw [show (0:Int)+(k:Int) * 1=k by lia]⟩
  refine ⟨.ref s.heap.objs.size,_,I.laid (t':=tk) (o:=.lst ((List.range n).map fun i:Nat=>V.int i)) kp (Nat.le_refl _) ?_,rfl,q.at (I.hok.fresh (Nat.le_refl _))⟩
  exact ⟨by rw [List.length_map,List.length_range];exact Nat.le_of_lt f,d.toList,c',hv,by simpa using hg⟩⟩
end
def zE (m:Int):List Int:=(List.range m.toNat).map fun i:Nat=>(i:Int)
def yP (rows:List (List Int))(ws:List Int):List (List Int):=rows.flatMap fun r=>ws.map fun w=>r++[w]
def ud (cs:List (List Int)):List (List Int):=cs.foldl yP [[]]
theorem yK (cs:List (List Int))(c:List Int):ud (cs++[c])=yP (ud cs) c:=by
 unfold ud
 rw [List.foldl_append]
 rfl
@[reducible] def stD (st:List Int):Dt:=.tup (st.map .int)
theorem xi:∀ sts:List (List Int),Dt.noLs (sts.map stD)=true
 | []=>rfl
 | st::sts=>by
  show ((stD st).noL&&Dt.noLs (sts.map stD))=true
  rw [xi sts,show (stD st).noL=true from zd2 st]
  rfl
theorem zht (sts:List (List Int)):(Dt.lst (sts.map stD)).eqOk:=by
 have e:∀ sts:List (List Int),(Dt.toWs (sts.map stD)).all (PySem.W.kqdOk 7)=true:=by
  intro sts
  induction sts with
  | nil=>rfl
  | cons m ms ih=>simp only [List.map_cons,Dt.toWs,List.all_cons,ih,show PySem.W.kqdOk 7 (stD m).toW=true from zju m,Bool.and_true]
 exact e sts
def znN (H:Hp)(xs:List V)(cs:List (List Int)):Prop:=xs.length=cs.length/\∀ (i:Nat) c,cs[i]?=some c->∃ a,xs[i]?=some (.ref a)/\H a=some (.lst (c.map V.int))
def zcF (K:PySem.W.Frag):Sp:=fun vs H Q _=>∃ (ca:Addr) (xs:List V) (cs:List (List Int)),vs=[.ref ca]/\H ca=some (.lst xs)/\znN H xs cs/\cs.length<=8/\(∀ c∈cs,c.length<=4)/\
 ∀ (a:Addr) (ys:List V) (H':Hp),H a=none->H' a=some (.lst ys)->IsL H' ((ud cs).map stD) ys->xB H H'->Q (.ref a) H'
theorem zey (rows:List (List Int))(r ws:List Int):yP (rows++[r]) ws=yP rows ws++ws.map fun w=>r++[w]:=by
 unfold yP
 rw [List.flatMap_append]
 simp
theorem uX (rows:List (List Int))(ws:List Int):(yP rows ws).length=rows.length * ws.length:=by
 unfold yP
 rw [List.length_flatMap]
 induction rows with
 | nil=>simp
 | cons r rows ih=>rw [List.map_cons,List.sum_cons,ih,List.length_map,List.length_cons,Nat.succ_mul,Nat.add_comm]
theorem zax:∀ (cs:List (List Int)) (row:List Int),row∈ud cs->row.length=cs.length:=by
 intro cs
 have:∀ (n:Nat) (cs:List (List Int)),cs.length=n->∀ row,row∈ud cs->row.length=cs.length:=by
  intro n
  induction n with
  | zero=>
   intro cs h row hr
   have:cs=[]:=List.eq_nil_of_length_eq_zero h
   subst this
   have:row=[]:=by simpa [ud] using hr
   subst this
   rfl
  | succ n ih=>
   intro cs h row hr
   have a:cs≠[]:=by intro z;rw [z] at h;simp at h
   rw [<- List.dropLast_concat_getLast a,yK] at hr
   unfold yP at hr
   obtain ⟨r,b,c⟩:=List.mem_flatMap.mp hr
   obtain ⟨w,_,rfl⟩:=List.mem_map.mp c
   have:=ih cs.dropLast (by rw [List.length_dropLast];lia) r b
   rw [List.length_append,this,List.length_dropLast]
   show cs.length - 1+1=cs.length
   lia
 exact this cs.length cs rfl
theorem zk8:∀ (n:Nat) (cs:List (List Int)),cs.length=n->(∀ c∈cs,c.length<=4)->(ud cs).length<=4 ^ n:=by
 intro n
 induction n with
 | zero=>
  intro cs h _
  have:cs=[]:=List.eq_nil_of_length_eq_zero h
  subst this
  exact Nat.le_refl _
 | succ n ih=>
  intro cs h h4
  have a:cs≠[]:=by intro z;rw [z] at h;simp at h
  rw [<- List.dropLast_concat_getLast a,yK,uX,Nat.pow_succ]
  exact Nat.mul_le_mul (ih cs.dropLast (by rw [List.length_dropLast];lia) fun c hc=>h4 c ((List.dropLast_sublist cs).subset hc)) (h4 _ (List.getLast_mem a))
theorem zcN {cs:List (List Int)}(h8:cs.length<=8)(h4:∀ c∈cs,c.length<=4)(k:Nat):(ud (cs.take k)).length<=65536:=by
 refine Nat.le_trans (zk8 _ (cs.take k) rfl fun c hc=>h4 c (List.mem_of_mem_take hc)) ?_
 have:(cs.take k).length<=8:=by rw [List.length_take];lia
 exact Nat.le_trans (Nat.pow_le_pow_right (by decide) this) (by decide)
theorem uZ (m:Int):(zE m).length=m.toNat:=by unfold zE;rw [List.length_map,List.length_range]
section
variable {X:Cx}{o:Expr}{to:TE}{apos cpos:Pos}
end
open PySem PySem.Spec PyProof.Rows PySem.W
inductive Run (ans:Nat->Nat->Bool) (n:Nat):{α:Type}->KasT α->α->Prop
 | ret {α:Type} (a:α):Run ans n (.ret a) a
 | ask {α:Type} {i j:Nat} {k:Bool->KasT α} {a:α} (hi:i<n) (hj:j<n) (h:Run ans n (k (ans i j)) a):Run ans n (.ask i j k) a
theorem Run.bind {ans:Nat->Nat->Bool}{n:Nat}{α β:Type}{t:KasT α}{f:α->KasT β}{a:α}{b:β}(h:Run ans n t a)(k:Run ans n (f a) b):Run ans n (t.bind f) b:=by
 induction h with
 | ret a=>exact k
 | ask hi hj _ ih=>exact .ask hi hj (ih k)
theorem Run.wp {ans:Nat->Nat->Bool}{n:Nat}{α:Type}{t:KasT α}{a:α}(h:Run ans n t a){cmp:Nat->Nat->(Bool->Shared->Prop)->Shared->Prop}{S:Shared->Prop}{Q:α->Shared->Prop}
  (hc:∀ i j C s,i<n->j<n->S s->(∀ s',S s'->C (ans i j) s')->cmp i j C s) (hq:∀ s,S s->Q a s):∀ s,S s->KasT.kasWp cmp t Q s:=by
 induction h with
 | ret a=>intro s hs;rw [KasT.kasWp.eq_1];exact hq s hs
 | ask hi hj _ ih=>
  intro s hs
  rw [KasT.kasWp.eq_2]
  exact hc _ _ _ s hi hj hs fun s' b=>ih hq s' b
section
variable {n:Nat}{f:Nat->Int}
def zek (f:Nat->Int)(i j:Nat):Bool:=decide (f i<f j)
def key (f:Nat->Int)(p:Array Nat)(k:Nat):Int:=f (p.getD k 0)
structure Up (n:Nat)(f:Nat->Int)(p:Array Nat)(m:Nat):Prop where
 perm:p.Perm (List.range n).toArray
 le:m<=n
 up:∀ k,k+1<m->key f p k<key f p (k+1)
theorem x6 {p:Array Nat}(h:p.Perm (List.range n).toArray):p.size=n:=by
 have:=h.size_eq
 simpa using this
theorem yd {p:Array Nat}(h:p.Perm (List.range n).toArray){k:Nat}(hk:k<n):p.getD k 0<n:=by
 have hs:=x6 h
 have hm:p.getD k 0∈p:=by
  rw [Array.getD_eq_getD_getElem?,Array.getElem?_eq_getElem (by lia)]
  exact Array.getElem_mem _
 have:=(h.mem_iff).mp hm
 simpa using this
theorem Up.lt_of {p:Array Nat}{m:Nat}(h:Up n f p m):∀ {i j:Nat},i<j->j<m->key f p i<key f p j:=by
 intro i j
 induction j with
 | zero=>intro h0;lia
 | succ j ih=>
  intro a hj
  have h1:=h.up j hj
  by_cases e:i=j
  ·subst e;exact h1
  ·have:=ih (by lia) (by lia)
   lia
theorem zer (p:Array Nat)(hp:p.Perm (List.range n).toArray):∀ (g x:Nat),1<=x->x+g<=n->∃ m,Run (zek f) n (kas_asc p g x) m/\x<=m/\m<=x+g/\(∀ k,x<=k->k<m->¬ key f p k<key f p (k - 1))/\(m<x+g->key f p m<key f p (m - 1))
 | 0,x,_,_=>⟨x,by rw [kas_asc.eq_1];exact .ret _,Nat.le_refl _,Nat.le_refl _,fun k h1 h2=>by lia,fun h=>by lia⟩
 | g+1,x,hx,hn=>by
  rw [kas_asc.eq_2]
  by_cases hc:key f p x<key f p (x - 1)
  ·refine ⟨x,.ask (yd hp (by lia)) (yd hp (by lia)) ?_,Nat.le_refl _,by lia,fun k h1 h2=>by lia,fun _=>hc⟩
   rw [show zek f (p.getD x 0) (p.getD (x - 1) 0)=true from decide_eq_true hc,if_pos rfl]
   exact .ret _
  ·obtain ⟨m,h1,h2,h3,h4,h5⟩:=zer p hp g (x+1) (by lia) (by lia)
   refine ⟨m,.ask (yd hp (by lia)) (yd hp (by lia)) ?_,by lia,by lia,fun k k1 k2=>?_,fun h=>h5 (by lia)⟩
   ·rw [show zek f (p.getD x 0) (p.getD (x - 1) 0)=false from decide_eq_false hc,if_neg Bool.false_ne_true]
    exact h1
   ·by_cases e:k=x
    ·subst e;exact hc
    ·exact h4 k (by lia) k2
def zbC (n:Nat)(f:Nat->Int):Prop:=∀ i j,i<n->j<n->f i=f j->i=j
theorem zfx (hu:zbC n f){p:Array Nat}(hp:p.Perm (List.range n).toArray){i j:Nat}(hi:i<n)(hj:j<n)(hij:i≠j):key f p i≠key f p j:=by
 intro e
 have e2:=hu _ _ (yd hp hi) (yd hp hj) e
 have hs:=x6 hp
 have a:p.toList.Nodup:=by
  have:p.toList.Perm (List.range n):=by
   have:=hp.toList
   simpa using this
  exact this.nodup_iff.mpr List.nodup_range
 rw [Array.getD_eq_getD_getElem?,Array.getD_eq_getD_getElem?,Array.getElem?_eq_getElem (by lia),Array.getElem?_eq_getElem (by lia)] at e2
 have e3:p.toList[i]'(by rw [Array.length_toList];lia)=p.toList[j]'(by rw [Array.length_toList];lia):=by simpa using e2
 exact hij ((List.getElem_inj a).mp e3)
theorem zft (hu:zbC n f)(p:Array Nat)(hp:p.Perm (List.range n).toArray):∀ (g x:Nat),1<=x->x+g<=n->∃ m,Run (zek f) n (kas_desc g p x 0) (p,m,0)/\x<=m/\m<=x+g/\(∀ k,x<=k->k<m->key f p k<key f p (k - 1))
 | 0,x,_,_=>⟨x,by rw [kas_desc.eq_1];exact .ret _,Nat.le_refl _,Nat.le_refl _,fun k h1 h2=>by lia⟩
 | g+1,x,hx,hn=>by
  rw [kas_desc.eq_2]
  by_cases hc:key f p x<key f p (x - 1)
  ·obtain ⟨m,h1,h2,h3,h4⟩:=zft hu p hp g (x+1) (by lia) (by lia)
   refine ⟨m,.ask (yd hp (by lia)) (yd hp (by lia)) ?_,by lia,by lia,fun k k1 k2=>?_⟩
   ·rw [show zek f (p.getD x 0) (p.getD (x - 1) 0)=true from decide_eq_true hc,if_pos rfl,if_neg (by lia)]
    exact h1
   ·by_cases e:k=x
    ·subst e;exact hc
    ·exact h4 k (by lia) k2
  ·have b:=zfx hu hp (i:=x) (j:=x - 1) (by lia) (by lia) (by lia)
   have a:key f p (x - 1)<key f p x:=by lia
   refine ⟨x,.ask (yd hp (by lia)) (yd hp (by lia)) ?_,Nat.le_refl _,by lia,fun k k1 k2=>by lia⟩
   rw [show zek f (p.getD x 0) (p.getD (x - 1) 0)=false from decide_eq_false hc,if_neg Bool.false_ne_true]
   refine .ask (yd hp (by lia)) (yd hp (by lia)) ?_
   rw [show zek f (p.getD (x - 1) 0) (p.getD x 0)=true from decide_eq_true a,if_pos rfl]
   exact .ret _
theorem zhs {p:Array Nat}{j:Nat}(hj:j<=p.size)(k:Nat):key f (kas_rev p 0 j) k=if k<j then key f p (j - 1 - k) else key f p k:=by
 unfold key kas_rev
 rw [Array.getD_eq_getD_getElem?,getElem?_mirror_all hj]
 by_cases h:k<j
 ·rw [if_pos ⟨Nat.zero_le _,h⟩,if_pos h,Array.getD_eq_getD_getElem?,Nat.zero_add]
 ·rw [if_neg (fun z=>h z.2),if_neg h,Array.getD_eq_getD_getElem?]
theorem zka {p:Array Nat}(hp:p.Perm (List.range n).toArray)(j:Nat):(kas_rev p 0 j).Perm (List.range n).toArray:=(mirror_perm p 0 j _).trans hp
theorem zgC (hu:zbC n f)(hn:2<=n)(p:Array Nat)(hp:p.Perm (List.range n).toArray):∃ (m:Nat) (q:Array Nat),Run (zek f) n (kas_count n p) (m,q)/\1<=m/\Up n f q m:=by
 have hs:=x6 hp
 obtain ⟨m,h1,h2,h3,h4,h5⟩:=zer (f:=f) p hp (n - 1) 1 (Nat.le_refl _) (by lia)
 have up1:Up n f p m:=⟨hp,by lia,fun k hk=>by
  have h6:=h4 (k+1) (by lia) hk
  rw [Nat.add_sub_cancel] at h6
  have:=zfx hu hp (i:=k) (j:=k+1) (by lia) (by lia) (by lia)
  lia⟩
 unfold kas_count
 by_cases hmn:m=n
 ·refine ⟨m,p,h1.bind ?_,h2,up1⟩
  rw [if_pos (by rw [hmn];exact beq_self_eq_true n)]
  exact .ret _
 ·by_cases hm1:m > 1
  ·refine ⟨m,p,h1.bind ?_,h2,up1⟩
   rw [if_neg (by intro z;exact hmn (eq_of_beq z)),if_pos hm1]
   refine .ask (yd hp (by lia)) (yd hp (by lia)) ?_
   have c:key f p 0<key f p (m - 1):=up1.lt_of (by lia) (by lia)
   rw [show zek f (p.getD 0 0) (p.getD (m - 1) 0)=true from decide_eq_true c,if_pos rfl]
   exact .ret _
  ·have em:m=1:=by lia
   subst em
   have g:=h5 (by lia)
   obtain ⟨d,g1,g2,g3,g4⟩:=zft hu p hp (n - 2) 2 (by lia) (by lia)
   have b:=zka hp d
   obtain ⟨m2,a1,a2,a3,a4,_⟩:=zer (f:=f) (kas_rev p 0 d) b (n - d) d (by lia) (by lia)
   refine ⟨m2,kas_rev p 0 d,h1.bind ?_,by lia,⟨b,by lia,fun k hk=>?_⟩⟩
   ·rw [if_neg (by intro z;exact hmn (eq_of_beq z)),if_neg hm1]
    unfold kas_descPart
    refine Run.bind (a:=(p,d,0)) g1 ?_
    rw [if_neg (by show ¬ (0 > 0);lia)]
    unfold kas_tail3
    exact Run.bind a1 (.ret _)
   ·by_cases hkd:k+1<d
    ·rw [zhs (by lia),zhs (by lia),if_pos (by lia),if_pos hkd]
     have e:d - 1 - k=(d - 1 - (k+1))+1:=by lia
     rw [e]
     by_cases e0:d - 1 - (k+1)=0
     ·rw [e0];exact g
     ·have:=g4 (d - 1 - (k+1)+1) (by lia) (by lia)
      rw [Nat.add_sub_cancel] at this
      exact this
    ·have h6:=a4 (k+1) (by lia) hk
     rw [Nat.add_sub_cancel] at h6
     have:=zfx hu b (i:=k) (j:=k+1) (by lia) (by lia) (by lia)
     lia
theorem zb1 (p:Array Nat)(hp:p.Perm (List.range n).toArray)(k:Nat)(hk:k<n):∀ (g l r:Nat),r<=k->l<=r->r - l<=g->(∀ i,i<l->¬ key f p k<key f p i)->(∀ i,r<=i->i<k->key f p k<key f p i)->
  (∀ i j,i<j->j<k->key f p i<key f p j)->
  ∃ m,Run (zek f) n (kas_place p k g l r) m/\m<=k/\(∀ i,i<m->¬ key f p k<key f p i)/\(∀ i,m<=i->i<k->key f p k<key f p i)
 | 0,l,r,h1,h2,h3,h4,h5,_=>⟨l,by rw [kas_place.eq_1];exact .ret _,by lia,h4,fun i hi=>h5 i (by lia)⟩
 | g+1,l,r,h1,h2,h3,h4,h5,hup=>by
  rw [kas_place.eq_2]
  by_cases hlr:l ≥ r
  ·refine ⟨l,?_,by lia,h4,fun i hi=>h5 i (by lia)⟩
   rw [if_pos hlr]
   exact .ret _
  ·rw [if_neg hlr]
   by_cases hc:key f p k<key f p ((l+r) / 2)
   ·obtain ⟨m,g1,g2,g3,g4⟩:=zb1 p hp k hk g l ((l+r) / 2) (by lia) (by lia) (by lia) h4 (fun i hi a=>by
     by_cases e:i=(l+r) / 2
     ·rw [e];exact hc
     ·have:=hup ((l+r) / 2) i (by lia) a
      lia) hup
    refine ⟨m,.ask (yd hp hk) (yd hp (by lia)) ?_,g2,g3,g4⟩
    rw [show zek f (p.getD k 0) (p.getD ((l+r) / 2) 0)=true from decide_eq_true hc,if_pos rfl]
    exact g1
   ·obtain ⟨m,g1,g2,g3,g4⟩:=zb1 p hp k hk g ((l+r) / 2+1) r h1 (by lia) (by lia) (fun i hi=>by
     by_cases e:i=(l+r) / 2
     ·rw [e];exact hc
     ·have:=hup i ((l+r) / 2) (by lia) (by lia)
      lia) h5 hup
    refine ⟨m,.ask (yd hp hk) (yd hp (by lia)) ?_,g2,g3,g4⟩
    rw [show zek f (p.getD k 0) (p.getD ((l+r) / 2) 0)=false from decide_eq_false hc,if_neg Bool.false_ne_true]
    exact g1
theorem zcx {p:Array Nat}{src d:Nat}(h1:src<p.size)(h2:d<=src)(k:Nat):key f (bubble p src d) k=if k=src - d then key f p src else if src - d<k/\k<=src then key f p (k - 1) else key f p k:=by
 unfold key
 simp only [Array.getD_eq_getD_getElem?]
 rw [getElem?_bubble h1 d h2]
 by_cases a:k=src - d
 ·rw [if_pos a,if_pos a]
 ·rw [if_neg a,if_neg a]
  by_cases b:src - d<k/\k<=src
  ·rw [if_pos b,if_pos b]
  ·rw [if_neg b,if_neg b]
theorem zgv (hu:zbC n f):∀ (g k:Nat) (p:Array Nat),k+g=n->Up n f p k->∃ q,Run (zek f) n (kas_bin g p k) q/\Up n f q n
 | 0,k,p,hk,h=>by
  have e:k=n:=by lia
  rw [e] at h
  exact ⟨p,by rw [kas_bin.eq_1];exact .ret _,h⟩
 | g+1,k,p,hk,h=>by
  have hs:=x6 h.perm
  obtain ⟨l,r1,r2,r3,r4⟩:=zb1 (f:=f) p h.perm k (by lia) k 0 k (Nat.le_refl _) (Nat.zero_le _) (by lia) (fun i hi=>by lia) (fun i h1 h2=>by lia) (fun i j a hj=>h.lt_of a hj)
  have b:Up n f (bubble p k (k - l)) (k+1):=by
   refine ⟨(bubble_perm p k (k - l)).trans h.perm,by lia,fun i hi=>?_⟩
   rw [zcx (by lia) (by lia),zcx (by lia) (by lia)]
   have c:k - (k - l)=l:=by lia
   rw [c]
   by_cases e1:i=l
   ·rw [if_pos e1,if_neg (by lia),if_pos (by lia),Nat.add_sub_cancel]
    exact r4 i (by lia) (by lia)
   ·rw [if_neg e1]
    by_cases e2:l<i
    ·rw [if_pos (by lia),if_neg (by lia),if_pos (by lia),Nat.add_sub_cancel]
     exact h.lt_of (by lia) (by lia)
    ·rw [if_neg (by lia)]
     by_cases e3:i+1=l
     ·rw [if_pos e3]
      have h1:=r3 i (by lia)
      have h2:=zfx hu h.perm (i:=i) (j:=k) (by lia) (by lia) (by lia)
      lia
     ·rw [if_neg e3,if_neg (by lia)]
      exact h.lt_of (by lia) (by lia)
  obtain ⟨q,q1,q2⟩:=zgv hu g (k+1) (bubble p k (k - l)) (by lia) b
  refine ⟨q,?_,q2⟩
  rw [kas_bin.eq_2]
  exact Run.bind r1 q1
theorem zfK (hu:zbC n f)(hn:2<=n):∃ q,Run (zek f) n (kas_sort n) q/\Up n f q n:=by
 obtain ⟨m,p,h1,h2,h3⟩:=zgC hu hn (List.range n).toArray (Array.Perm.refl _)
 unfold kas_sort
 by_cases hm:m<n
 ·obtain ⟨q,q1,q2⟩:=zgv hu (n - m) m p (by lia) h3
  refine ⟨q,Run.bind h1 ?_,q2⟩
  rw [if_pos hm]
  show Run _ _ (kas_bin (n - max m 1) p (max m 1)) q
  rw [show max m 1=m by lia]
  exact q1
 ·have e:m=n:=by have:=h3.le;lia
  refine ⟨p,Run.bind h1 ?_,by rw [<- e] at h3 ⊢;exact h3⟩
  rw [if_neg hm]
  exact .ret _
end
open PySem PySem.Spec PyProof.Rows
theorem zc5 {prog:Program}{w:World}{A:Around}{s:Shared}{b:Bool}{Q:Bool->Shared->Prop}:∀ {ns ms:List Int} {xs ys:List Value} (i:Nat),z0 (ns.map V.int) xs->z0 (ms.map V.int) ys->ns.length=ms.length->Q (HT.lexLt ns ms) s->W.KatLex prog w A b false Q (xs.zip ys) i s
 | [],[],_,_,i,hx,hy,_,q=>by cases hx;cases hy;exact W.kat_nil q
 | [],_::_,_,_,_,_,_,h,_=>by simp at h
 | _::_,[],_,_,_,_,_,h,_=>by simp at h
 | a::ns,c::ms,_,_,i,hx,hy,hl,q=>by
  cases hx with
  | cons r1 d=>
   cases hy with
   | cons r2 f=>
    obtain ⟨t,rfl⟩:=r1
    obtain ⟨u,rfl⟩:=r2
    rw [List.zip_cons_cons]
    have q':Q (if a=c then HT.lexLt ns ms else decide (a<c)) s:=q
    refine W.kat_cons (wpAny_eqBool_int ?_)
    by_cases e:a=c
    ·rw [show (a==c)=true from by rw [e];exact beq_self_eq_true c]
     rw [if_pos e] at q'
     exact W.kat_yes (zc5 (i+1) d f (by simpa using hl) q')
    ·rw [show (a==c)=false from beq_false_of_ne e]
     rw [if_neg e] at q'
     refine W.kat_no ?_
     cases (b&&i==0) with
     | true=>exact oneLt_int q'
     | false=>exact W.kat_one _ _ (P.lt_int q')
theorem x4:∀ s:List Int,HT.lexLt s s=false
 | []=>rfl
 | a::s=>by
  show (if a=a then HT.lexLt s s else _)=false
  rw [if_pos rfl]
  exact x4 s
theorem zaG:∀ {a b c:List Int},a.length=b.length->b.length=c.length->HT.lexLt a b=true->HT.lexLt b c=true->HT.lexLt a c=true
 | [],[],[],_,_,h,_=>h
 | x::a,y::b,z::c,h1,h2,h3,h4=>by
  have e:(if x=y then HT.lexLt a b else decide (x<y))=true:=h3
  have d:(if y=z then HT.lexLt b c else decide (y<z))=true:=h4
  show (if x=z then HT.lexLt a c else decide (x<z))=true
  by_cases e1:x=y
  ·by_cases e2:y=z
   ·rw [if_pos e1] at e
    rw [if_pos e2] at d
    rw [if_pos (e1.trans e2)]
    exact zaG (by simpa using h1) (by simpa using h2) e d
   ·rw [if_neg e2] at d
    rw [if_neg (by lia)]
    have:=of_decide_eq_true d
    exact decide_eq_true (by lia)
  ·rw [if_neg e1] at e
   have l1:=of_decide_eq_true e
   by_cases e2:y=z
   ·rw [if_neg (by lia)]
    exact decide_eq_true (by lia)
   ·rw [if_neg e2] at d
    have l2:=of_decide_eq_true d
    rw [if_neg (by lia)]
    exact decide_eq_true (by lia)
 | [],_::_,_,h,_,_,_=>by simp at h
 | _::_,[],_,h,_,_,_=>by simp at h
 | [],[],_::_,_,h,_,_=>by simp at h
 | _::_,_::_,[],_,h,_,_=>by simp at h
theorem uK:∀ {a b:List Int},a.length=b.length->a=b\/HT.lexLt a b=true\/HT.lexLt b a=true
 | [],[],_=>.inl rfl
 | [],_::_,h=>by simp at h
 | _::_,[],h=>by simp at h
 | x::a,y::b,h=>by
  show _\/(if x=y then HT.lexLt a b else decide (x<y))=true\/(if y=x then HT.lexLt b a else decide (y<x))=true
  by_cases e:x=y
  ·subst e
   rw [if_pos rfl,if_pos rfl]
   rcases uK (a:=a) (b:=b) (by simpa using h) with h1 | h1 | h1
   ·exact .inl (by rw [h1])
   ·exact .inr (.inl h1)
   ·exact .inr (.inr h1)
  ·rw [if_neg e,if_neg (Ne.symm e)]
   rcases Int.lt_or_gt_of_ne e with h1 | h1
   ·exact .inr (.inl (decide_eq_true h1))
   ·exact .inr (.inr (decide_eq_true h1))
theorem zfp {α:Type}{p q:α->Bool}:∀ {l:List α},(∀ x∈l,p x=true->q x=true)->(∃ x∈l,p x=false/\q x=true)->l.countP p<l.countP q
 | [],_,h=>by obtain ⟨x,hx,_⟩:=h;simp at hx
 | y::l,h,k=>by
  have hle:l.countP p<=l.countP q:=List.countP_mono_left fun x hx hp=>h x (List.mem_cons_of_mem _ hx) hp
  rw [List.countP_cons,List.countP_cons]
  obtain ⟨x,hx,hp,hq⟩:=k
  rcases List.mem_cons.mp hx with rfl | hx
  ·rw [hp,hq]
   simp
   lia
  ·have ih:=zfp (l:=l) (fun z hz=>h z (List.mem_cons_of_mem _ hz)) ⟨x,hx,hp,hq⟩
   have hy:=h y List.mem_cons_self
   cases e:p y with
   | false=>
    simp
    cases q y <;> simp <;> lia
   | true=>
    rw [hy e]
    simp
    lia
def zbS (sts:List (List Int))(i:Nat):Int:=(sts.countP fun c=>HT.lexLt c (sts.getD i [])  : Nat)
theorem y6 {sts:List (List Int)}{m:Nat}(hm:∀ st∈sts,st.length=m){i j:Nat}(hi:i<sts.length)(hj:j<sts.length):decide (zbS sts i<zbS sts j)=HT.lexLt (sts.getD i []) (sts.getD j []):=by
 have gi:sts.getD i []∈sts:=by rw [List.getD_eq_getElem?_getD,List.getElem?_eq_getElem hi];exact List.getElem_mem hi
 have gj:sts.getD j []∈sts:=by rw [List.getD_eq_getElem?_getD,List.getElem?_eq_getElem hj];exact List.getElem_mem hj
 have mono:∀ {a b:List Int},a∈sts->b∈sts->HT.lexLt a b=true->(sts.countP fun c=>HT.lexLt c a)<(sts.countP fun c=>HT.lexLt c b):=fun {a b} ha hb d=>
  zfp (fun x hx hp=>zaG ((hm x hx).trans (hm a ha).symm) ((hm a ha).trans (hm b hb).symm) hp d) ⟨a,ha,x4 a,d⟩
 unfold zbS
 generalize sts.getD i []=a at gi
 generalize sts.getD j []=b at gj
 rcases uK (a:=a) (b:=b) ((hm a gi).trans (hm b gj).symm) with h | h | h
 ·subst h
  rw [x4]
  exact decide_eq_false (Int.lt_irrefl _)
 ·rw [h]
  have:=mono gi gj h
  exact decide_eq_true (by lia)
 ·have h1:=mono gj gi h
  have h2:HT.lexLt a b=false:=by
   rw [Bool.eq_false_iff]
   intro z
   have:=mono gi gj z
   lia
  rw [h2]
  exact decide_eq_false (by lia)
def zaN (h:Heap)(L:Addr):List (Addr×Obj):=(List.range h.objs.size).filterMap fun b=>if b=L then none else (h.get? b).map fun o=>(b,o)
theorem zN {h:Heap}{L b:Addr}{o:Obj}:(b,o)∈zaN h L↔b≠L/\h.get? b=some o:=by
 unfold zaN
 rw [List.mem_filterMap]
 constructor
 ·rintro ⟨c,hc,e⟩
  by_cases hL:c=L
  ·rw [if_pos hL] at e;cases e
  ·rw [if_neg hL] at e
   obtain ⟨o',ho,e2⟩:=Option.map_eq_some_iff.mp e
   cases e2
   exact ⟨hL,ho⟩
 ·rintro ⟨hL,ho⟩
  exact ⟨b,List.mem_range.mpr (Heap.lt_size ho),by rw [if_neg hL,ho];rfl⟩
theorem zoE {h:Heap}{L:Addr}{m m':Str->Option Value}(a:h.Ns L m)(b:h.Ns L m'):m=m':=by
 obtain ⟨o,es,ep,ho,hd,hk,hf⟩:=a
 obtain ⟨o',es',f,c,d,g,e⟩:=b
 rw [ho] at c
 cases c
 rw [hd] at d
 cases d
 funext x
 rw [<- hf,<- e]
section
variable {X:Cx}
theorem zaI {P:Program}{w:World}{H:Hp}{h:Heap}{a:Addr}{o:HO}(x:yh P w H h a o):∃ u,h.get? a=some u:=by
 cases o with
 | lst xs=>obtain ⟨_,_,_,_,e⟩:=x;exact ⟨_,e⟩
 | tup xs=>obtain ⟨_,_,_,p⟩:=x;obtain ⟨o,e,_⟩:=p;exact ⟨o,e⟩
 | dK b=>obtain ⟨_,_,_,_,o,_,_,e,_⟩:=x;exact ⟨_,e⟩
 | dT b=>obtain ⟨_,_,_,_,o,_,_,e,_⟩:=x;exact ⟨_,e⟩
 | set S n=>obtain ⟨o,_,_,_,e,_⟩:=x;exact ⟨_,e⟩
 | ins C dx fs=>obtain ⟨_,_,_,e,_⟩:=x;exact ⟨_,e⟩
 | own y=>exact x
 | xd fs=>obtain ⟨_,⟨_,_,_,e,_⟩,_⟩:=x;exact ⟨_,e⟩
 | met f y=>exact ⟨_,x⟩
 | rng lo hi=>obtain ⟨_,_,_,e⟩:=x;exact ⟨_,e⟩
 | frz o u=>obtain ⟨e,_⟩:=x;exact ⟨_,e⟩
 | tbl ps=>exact ⟨_,x⟩
 | ext φ=>obtain ⟨_,e,_⟩:=x;exact e
theorem zc1 {pins:List (Addr×Obj)}{σ:St}{H:Hp}{s:Shared}(I:Inv X pins σ H s){m:Str->Option Value}(hm:s.heap.Ns X.env.locals m){h':Heap}{D:Addr}{ys:List V}{its:List Value}{c:Nat}
  (kp:∀ b o,b≠X.env.locals->s.heap.get? b=some o->h'.get? b=some o) (ns':h'.Ns X.env.locals m) (hDn:s.heap.get? D=none) (hD:H D=none)
  (ho:h'.get? D=some { cls:=.type "list",data:=.seq its.toArray c }) (hv:z0 ys its) (hz:ys.length<=sizeLine) (tk:Nat):Inv X pins σ (upd H D (.lst ys)) { s with heap:=h',toks:=tk }:=by
 have nD:∀ b o,s.heap.get? b=some o->b≠D:=fun b o e z=>by rw [z,hDn] at e;cases e
 have nL:∀ b u,H b=some u->b≠X.env.locals:=fun b u e=>zb e I.free
 refine Inv.step (ch:=[]) (g':=s.gens) (d':=s.drawn) (t':=tk) I (fun b hb=>by simp at hb) (fun b o h1 _ _ h4 _=>kp b o h1 h4) (fun b o h1 _ _ h4 _=>⟨o.slots,kp b o h1 h4⟩) (fun b o _ h4 h5=>by rw [zf (nD b o h4)];exact h5) (fun b o _ h4=>?_) (fun b ys q=>by rw [zf (zb q hD)];exact q) (fun b o u q=>by rw [zf (zb q hD)];exact q) (fun b ps q=>⟨#[],by rw [zf (zb q hD),Array.append_empty];exact q⟩) (fun m' f=>by rw [<- zoE hm f];exact ns') (fun b u hb=>?_) I.bare
 ·by_cases hL:b=X.env.locals
  ·obtain ⟨o',_,_,h1,_⟩:=ns'
   exact ⟨o',by rw [hL];exact h1⟩
  ·exact ⟨o,kp b o hL h4⟩
 ·by_cases hbD:b=D
  ·subst hbD
   rw [zo] at hb
   cases hb
   exact ⟨hz,its,c,hv,ho⟩
  ·rw [zf hbD] at hb
   refine (I.hok b u hb).stay (fun c v a q=>kp c v ?_ q) (fun c q=>by rw [zf (zb q hD)];exact q) (fun c ys q=>by rw [zf (zb q hD)];exact q)
   rcases a with rfl | a
   ·exact nL _ _ hb
   ·exact nL _ _ a
theorem ze8 {pins:List (Addr×Obj)}{σ:St}{H:Hp}{s:Shared}(I:Inv X pins σ H s):∀ {sts:List (List Int)} {vs:List V} {its:List Value},IsL H (sts.map stD) vs->z0 vs its->∀ {i:Nat},i<sts.length->∃ (a:Addr) (items:List Value),vs.getD i .non = .ref a/\its.getD i .none = .ref a/\IsTup s.heap a items.toArray/\z0 ((sts.getD i []).map V.int) items/\a≠X.env.locals
 | [],_,_,_,_,i,hi=>by simp at hi
 | st::sts,_,_,h,hv,i,hi=>by
  obtain ⟨x,r,rfl,⟨a,xs,rfl,ha,b⟩,hr⟩:=h
  obtain rfl:=b.of_ints
  cases hv with
  | cons r1 rr=>
   cases r1
   cases i with
   | zero=>
    obtain ⟨items,rv,pt,_⟩:=I.tuple (.of ha)
    exact ⟨a,items,rfl,rfl,pt,rv,zb ha I.free⟩
   | succ i=>
    obtain ⟨a',items,e1,e2,e3,e4,e5⟩:=ze8 I (sts:=sts) hr rr (i:=i) (by simpa using hi)
    exact ⟨a',items,by simpa using e1,by simpa using e2,e3,by simpa using e4,e5⟩
theorem ziB {pins:List (Addr×Obj)}{σ:St}{H:Hp}{s:Shared}(I:Inv X pins σ H s){h':Heap}(kp:∀ b o,b≠X.env.locals->s.heap.get? b=some o->h'.get? b=some o):∀ {sts:List (List Int)} {vs:List V} {its:List Value},IsL H (sts.map stD) vs->z0 vs its->(∀ st∈sts,1<=st.length)->∃ fs,W.KatTups h' its fs/\fs.length=sts.length/\∀ f∈fs,∃ a t,f = .int a t
 | [],_,_,h,hv,_=>by cases h;cases hv;exact ⟨[],trivial,rfl,fun _ h=>by simp at h⟩
 | st::sts,_,_,h,hv,h1=>by
  obtain ⟨x,r,rfl,⟨a,xs,rfl,ha,c⟩,hr⟩:=h
  obtain rfl:=c.of_ints
  cases hv with
  | cons r1 rr=>
   cases r1
   obtain ⟨items,rv,pt,_⟩:=I.tuple (.of ha)
   obtain ⟨o,ho,hc,n,hd⟩:=pt
   obtain ⟨fs,f1,f2,f3⟩:=ziB I kp (sts:=sts) hr rr fun z hz=>h1 z (List.mem_cons_of_mem _ hz)
   have d:=h1 st List.mem_cons_self
   match st,rv,d with
   | z::zs,rv,_=>
    cases rv with
    | cons q1 qq=>
     obtain ⟨t,rfl⟩:=q1
     refine ⟨_::fs,⟨⟨a,o,_,n,rfl,kp a o (zb ha I.free) ho,hc,hd,rfl⟩,f1⟩,by rw [List.length_cons,f2];rfl,fun f hf=>?_⟩
     rcases List.mem_cons.mp hf with rfl | hf
     ·exact ⟨_,_,rfl⟩
     ·exact f3 f hf
def zpw:List V->Hp->VK->Prop:=fun xs H Q=>∃ (l:Addr) (vs:List V) (sts:List (List Int)) (m:Nat),xs=[.ref l]/\H l=some (.lst vs)/\IsL H (sts.map stD) vs/\2<=sts.length/\sts.length<64/\1<=m/\(∀ st∈sts,st.length=m)/\sts.Nodup/\
 ∀ (ys:List V) (sts':List (List Int)),IsL H (sts'.map stD) ys->sts'.Perm sts->(sts'.Pairwise fun a b=>HT.lexLt a b=true)->New H (.lst ys) Q
theorem zfw {H:Hp}{sts:List (List Int)}{vs:List V}(h:IsL H (sts.map stD) vs):∀ {p:List Nat},(∀ i∈p,i<sts.length)->IsL H ((p.map fun i=>sts.getD i []).map stD) (p.map fun i=>vs.getD i .non)
 | [],_=>rfl
 | i::p,hp=>by
  have hi:=hp i List.mem_cons_self
  obtain ⟨x,hx,hd⟩:=h.getD (i:=i) (d:=stD (sts.getD i [])) (by simp [hi])
  refine ⟨vs.getD i .non,_,rfl,?_,zfw h fun j hj=>hp j (List.mem_cons_of_mem _ hj)⟩
  rw [List.getD_eq_getElem?_getD,hx]
  exact hd
theorem zei {vs:List V}{its:List Value}(h:z0 vs its):∀ (p:List Nat),(∀ i∈p,i<vs.length)->z0 (p.map fun i=>vs.getD i .non) (p.map fun i=>its.getD i .none)
 | [],_=>.nil
 | i::p,hp=>by
  have hi:=hp i List.mem_cons_self
  obtain ⟨u,hu,ru⟩:=h.get (i:=i) (x:=vs[i]) (List.getElem?_eq_getElem hi)
  refine .cons ?_ (zei h p fun j hj=>hp j (List.mem_cons_of_mem _ hj))
  show yu (vs.getD i .non) (its.getD i .none)
  rw [List.getD_eq_getElem?_getD,List.getD_eq_getElem?_getD,List.getElem?_eq_getElem hi,hu]
  exact ru
theorem u3 {α:Type}(d:α)(l:List α):(List.range l.length).map (fun i=>l.getD i d)=l:=by
 refine List.ext_getElem (by simp) fun i h1 h2=>?_
 simp [h2]
theorem zi3:CallQ X (.builtin "sorted") zpw:=⟨by
 intro pins s σ H xs us Q I r h
 obtain ⟨l,vs,sts,m,rfl,hl,d,h2,h64,K,hm,M,q⟩:=h
 obtain ⟨u,rfl,ru⟩:=zaU r
 cases ru
 obtain ⟨its,rv,pl,hz⟩:=I.list (.of hl)
 have O:=d.length
 rw [List.length_map] at O
 have hil:=rv.length
 obtain ⟨m0,x,_⟩:=id I.loc
 refine W.kat_sorted (h₀:=(⟨#[],{}⟩:Heap)) (L:=X.env.locals) (m:=m0) (news:=zaN s.heap X.env.locals) ⟨x,fun b o e=>?_,Nat.zero_le _⟩ (fun p hp=>?_) pl.isList (by lia) (by lia) fun D e1 h' F N k=>?_
 ·have:=Heap.lt_size e
  simp at this
 ·obtain ⟨b,o⟩:=p
  have:=zN.mp hp
  refine ⟨this.2,this.1,?_⟩
  cases e:(⟨#[],{}⟩:Heap).get? b with
  | none=>rfl
  | some o'=>
   have:=Heap.lt_size e
   simp at this
 ·have kp:∀ b o,b≠X.env.locals->s.heap.get? b=some o->h'.get? b=some o:=fun b o hb e=>(N (b,o) (List.mem_cons_of_mem _ (zN.mpr ⟨hb,e⟩))).1
  obtain ⟨fs,k1,k2,k3⟩:=ziB I kp d rv fun st P=>by rw [hm st P];exact K
  refine W.kat_kind (T:=.type "int") (s:={ s with heap:=h' }) k1 (by lia) (fun f hf=>?_) (by decide) ?_
  ·obtain ⟨a,t,rfl⟩:=k3 f hf
   intro A' Q' E' s' _ hq
   exact wpAny_typeOf (typeIs_int s' a t) hq
  ·have hu:zbC sts.length (zbS sts):=fun i j hi hj e=>by
    have e1:=y6 hm hi hj
    have e2:=y6 hm hj hi
    rw [e,decide_eq_false (Int.lt_irrefl _)] at e1
    rw [e,decide_eq_false (Int.lt_irrefl _)] at e2
    have gi:sts.getD i []=sts[i]:=by simp [hi]
    have gj:sts.getD j []=sts[j]:=by simp [hj]
    rcases uK (a:=sts.getD i []) (b:=sts.getD j []) (by rw [gi,gj,hm _ (List.getElem_mem hi),hm _ (List.getElem_mem hj)]) with h | h | h
    ·rw [gi,gj] at h
     exact (List.getElem_inj M).mp h
    ·rw [h] at e1;cases e1
    ·rw [h] at e2;cases e2
   obtain ⟨p,y,n⟩:=zfK hu h2
   rw [show its.length=sts.length by lia]
   refine y.wp (S:=fun s'=>s'={ s with heap:=h' }) (fun i j C s' hi hj v hC=>?_) (fun s' v=>?_) _ rfl
   ·subst v
    obtain ⟨a1,R,_,b1,c1,d1,f1⟩:=ze8 I d rv hi
    obtain ⟨a2,U,_,b2,c2,d2,f2⟩:=ze8 I d rv hj
    obtain ⟨o1,V,_,n1,Y⟩:=c1
    obtain ⟨o2,Z,_,n2,hd2⟩:=c2
    show wpAny _ _ (keyLt' _ (its.getD i .none) (its.getD j .none)) C _ _
    rw [b1,b2]
    have gi:(sts.getD i []).length=m:=by
     have:sts.getD i []=sts[i]:=by simp [hi]
     rw [this];exact hm _ (List.getElem_mem hi)
    have gj:(sts.getD j []).length=m:=by
     have:sts.getD j []=sts[j]:=by simp [hj]
     rw [this];exact hm _ (List.getElem_mem hj)
    have l1:=d1.length
    have l2:=d2.length
    rw [List.length_map] at l1 l2
    refine W.kat_lt (s:={ s with heap:=h' }) (kp _ _ f1 V) Y (kp _ _ f2 Z) hd2 ?_
    rw [show decide (R.toArray.size<U.toArray.size)=false from decide_eq_false (by simp;lia)]
    refine zc5 0 d1 d2 (by rw [gi,gj]) ?_
    have:=hC { s with heap:=h' } rfl
    rw [show zek (zbS sts) i j=HT.lexLt (sts.getD i []) (sts.getD j []) from y6 hm hi hj] at this
    exact this
   ·subst v
    have w:p.toList.Perm (List.range sts.length):=by
     have:=n.perm.toList
     simpa using this
    have g:∀ i∈p.toList,i<sts.length:=fun i hi=>List.mem_range.mp ((w.mem_iff).mp hi)
    refine W.KasFin.intro F N (W.UpdF.head fun q' va=>?_) fun vb c F'' N''=>?_
    ·exact Nat.ne_of_lt (k q' va)
    ·have vc:∀ b o,b≠X.env.locals->s.heap.get? b=some o->vb.get? b=some o:=fun b o hb e=>(N'' (b,o) (List.mem_cons_of_mem _ (zN.mpr ⟨hb,e⟩))).1
     have vd:D≠X.env.locals:=(N'' (D,_) List.mem_cons_self).2.1
     have z:s.heap.get? D=none:=by
      cases e:s.heap.get? D with
      | none=>rfl
      | some o=>exact absurd (k (D,o) (zN.mpr ⟨vd,e⟩)) (Nat.lt_irrefl _)
     have B:H D=none:=by
      cases e:H D with
      | none=>rfl
      | some o=>
       obtain ⟨o',G⟩:=zaI (I.hok D o e)
       rw [z] at G;cases G
     have J:=(N'' (D,_) List.mem_cons_self).1
     have I':=zc1 I x (ys:=p.toList.map fun i=>vs.getD i .non) vc F''.ns z B J (zei rv p.toList fun i hi=>by have:=g i hi;lia) (by rw [List.length_map,w.length_eq,List.length_range];exact Nat.le_of_lt (zaR (by lia))) s.toks
     refine ⟨.ref D,_,I',rfl,(q _ (p.toList.map fun i=>sts.getD i []) (zfw d g) ?_ ?_).at B⟩
     ·have:=w.map fun i=>sts.getD i []
      rwa [u3] at this
     ·have hps:p.size=sts.length:=x6 n.perm
      rw [List.pairwise_iff_getElem]
      intro i j hi hj ve
      rw [List.length_map,Array.length_toList] at hi hj
      have hk:=n.lt_of ve (by lia)
      rw [List.getElem_map,List.getElem_map,Array.getElem_toList,Array.getElem_toList]
      have e1:p.getD i 0=p[i]:=by simp [hi]
      have e2:p.getD j 0=p[j]:=by simp [hj]
      unfold key at hk
      rw [e1,e2] at hk
      rw [<- y6 hm (g _ (by simp)) (g _ (by simp))]
      exact decide_eq_true hk⟩
end
open PySem PySem.Spec PySem.Calls PyProof.Rows PySem.W
theorem uS {prog:Program}{w:World}{A:Around}{E:Value->Shared->Prop}{s:Shared}{a:Addr}{vs:List Value}{n:Nat}{P:PySem.Fin->Shared->Prop}(ho:s.heap.get? a=some (seqObj "list" vs.toArray n))(h2:vs.length<2)
  (h:∀ h' c,(∀ b o,b≠a->s.heap.get? b=some o->h'.get? b=some o)->h'.get? a=some (seqObj "list" vs.toArray c)->P (.done (.ret .none)) { s with heap:=h' }) :
  wpAny (model prog w) A (Builtin.«list.sort» ⟨[.ref a],[]⟩) P E s:=by
 obtain ⟨e1,f⟩:∃ e1,(s.heap.update a (Obj.mapSeq fun _=>(#[]:Array Value))).get? a=some (seqObj "list" #[] e1):=⟨_,get?_update_seq ho fun _=>#[]⟩
 rw [list_sort_plain]
 refine wpAny_bind (listItems_at ho rfl ?_)
 refine wpAny_bind (listUpdate_at ho rfl ?_ (by rw [List.size_toArray,sizeLine_eq];lia) (Nat.zero_le _))
 refine wpAny_bind (seqEpoch_at f rfl ?_)
 refine wpAny_bind (wpAny_newTuple ?_ (by show vs.length<=_;rw [sizeLine_eq];lia))
 refine wpAny_bind (wpAny_newList ?_ (Nat.zero_le _))
 refine wpAny_holding ?_
 show wpAny (model prog w) A _ P E { s with heap:=((s.heap.update a (Obj.mapSeq fun _=>(#[]:Array Value))).push (seqObj "tuple" vs.toArray 0)).push (seqObj "list" #[] 0) }
 dsimp only
 have g:vs.toArray.size<2:=by rw [List.size_toArray];lia
 rw [if_pos g,if_pos g]
 refine wpAny_bind (wpAny_pure ?_)
 refine wpAny_bind (m:=(pure ():StateT SortSt _ _).run _) (wpAny_pure ?_)
 have d:(arrOf (SortSt.mk' general' (vs.toArray.zip vs.toArray) #[] 7 none)).map (fun x=>x.snd)=vs.toArray:=by
  show (vs.toArray.zip vs.toArray).map (fun x=>x.snd)=vs.toArray
  apply Array.toList_inj.mp
  rw [Array.toList_map,Array.toList_zip]
  exact List.map_snd_zip (Nat.le_refl _)
 have ha:a<s.heap.objs.size:=Heap.lt_size ho
 have g3:(((s.heap.update a (Obj.mapSeq fun _=>(#[]:Array Value))).push (seqObj "tuple" vs.toArray 0)).push (seqObj "list" #[] 0)).get? a=some (seqObj "list" #[] e1):=Heap.get?_push_of_some _ (Heap.get?_push_of_some _ f)
 refine wpAny_bind (seqEpoch_at g3 rfl ?_)
 refine wpAny_bind (listUpdate_at g3 rfl ?_ (Nat.zero_le _) ?_)
 ·show wpAny _ _ _ _ _ _
  dsimp only
  rw [d]
  simp only [bne_self_eq_false,Bool.false_eq_true,if_false]
  refine wpAny_pure (h _ _ (fun b o hb e=>?_) (get?_update_seq g3 fun _=>vs.toArray))
  rw [Heap.get?_update_ne _ _ _ _ hb]
  refine Heap.get?_push_of_some _ (Heap.get?_push_of_some _ ?_)
  rw [Heap.get?_update_ne _ _ _ _ hb]
  exact e
 ·dsimp only
  rw [d,List.size_toArray,sizeLine_eq]
  lia
theorem zec {prog:Program}{w:World}{A:Around}{E:Value->Shared->Prop}{s:Shared}{l:Addr}{vs:List Value}{Q:Value->Shared->Prop}(hl:s.heap.IsList l vs.toArray)(h2:vs.length<2)
  (h:∀ D h' c,(∀ b o,s.heap.get? b=some o->h'.get? b=some o)->s.heap.get? D=none->h'.get? D=some (seqObj "list" vs.toArray c)->Q (.ref D) { s with heap:=h' }) :
  wpAny (model prog w) A (call (.builtin "sorted") [.ref l]) Q E s:=by
 refine Calls.call_function_entry kind_sorted plain_sorted entry_sorted (args_sorted1 _) ?_
 unfold Builtin.«sorted»
 refine wpAny_bind (m:=checkCount "sorted" 1 1 _) (wpAny_pure ?_)
 refine wpAny_bind (collect_list hl ?_ (by rw [sizeLine_eq];lia))
 refine wpAny_bind (wpAny_newList ?_ (by rw [sizeLine_eq];lia))
 have hsz:((s.heap.push (seqObj "list" #[] 0)).update s.heap.objs.size (Obj.mapSeq (·++vs.toArray))).objs.size=s.heap.objs.size+1:=by
  rw [Heap.size_update,size_push']
 have d:(((s.heap.push (seqObj "list" #[] 0)).update s.heap.objs.size (Obj.mapSeq (·++vs.toArray))).push (seqObj "list" vs.toArray 0)).get? (s.heap.objs.size+1)=some (seqObj "list" vs.toArray 0):=by
  rw [<- hsz];exact Heap.get?_push_size _ rfl
 have keep:∀ b o,s.heap.get? b=some o->(((s.heap.push (seqObj "list" #[] 0)).update s.heap.objs.size (Obj.mapSeq (·++vs.toArray))).push (seqObj "list" vs.toArray 0)).get? b=some o:=fun b o q=>by
  have a:b<s.heap.objs.size:=Heap.lt_size q
  rw [Heap.get?_push_ne _ _ _ (by rw [hsz];exact Nat.ne_of_lt (Nat.lt_succ_of_lt a)),Heap.get?_update_ne _ _ _ _ (Nat.ne_of_lt a),Heap.get?_push_ne _ _ _ (Nat.ne_of_lt a)]
  exact q
 show wpAny _ _ _ _ _ { s with heap:=((s.heap.push (seqObj "list" #[] 0)).update s.heap.objs.size (Obj.mapSeq (·++vs.toArray))).push (seqObj "list" vs.toArray 0) }
 rw [hsz]
 refine wpAny_bind (wpAny_holding (wpAny_call_entry slot_list_sort ⟨_,d,rfl⟩ entry_list_sort ?body (args_list_sort _)))
 case body=>
  refine uS (s:={ s with heap:=((s.heap.push (seqObj "list" #[] 0)).update s.heap.objs.size (Obj.mapSeq (·++vs.toArray))).push (seqObj "list" vs.toArray 0) }) d h2 fun h' c kp hD=>?_
  refine ⟨_,rfl,wpAny_pure ⟨_,rfl,h _ _ _ (fun b o e=>kp b o (Nat.ne_of_lt (Nat.lt_succ_of_lt (Heap.lt_size e))) (keep b o e)) ?_ hD⟩⟩
  exact Heap.get?_none_of_le (Nat.le_succ _)
section
variable {X:Cx}
def zm4:List V->Hp->VK->Prop:=fun xs H Q=>∃ (l:Addr) (vs:List V) (sts:List (List Int)) (m:Nat),xs=[.ref l]/\H l=some (.lst vs)/\IsL H (sts.map stD) vs/\sts.length<64/\1<=m/\(∀ st∈sts,st.length=m)/\sts.Nodup/\
 ∀ (ys:List V) (sts':List (List Int)),IsL H (sts'.map stD) ys->sts'.Perm sts->(sts'.Pairwise fun a b=>HT.lexLt a b=true)->New H (.lst ys) Q
theorem zli:CallQ X (.builtin "sorted") zm4:=⟨by
 intro pins s σ H xs us Q I r h
 obtain ⟨l,vs,sts,m,rfl,hl,a,n,p,hm,t,q⟩:=h
 by_cases h2:2<=sts.length
 ·exact zi3.run _ _ _ _ _ _ _ I r ⟨l,vs,sts,m,rfl,hl,a,h2,n,p,hm,t,q⟩
 ·obtain ⟨u,rfl,ru⟩:=zaU r
  cases ru
  obtain ⟨its,rv,pl,hz⟩:=I.list (.of hl)
  have v:=a.length
  rw [List.length_map] at v
  have w:=rv.length
  obtain ⟨m0,d,_⟩:=id I.loc
  refine zec pl.isList (by lia) fun D h' c kp f hD=>?_
  have i:H D=none:=by
   cases e:H D with
   | none=>rfl
   | some o=>
    obtain ⟨o',j⟩:=zaI (I.hok D o e)
    rw [f] at j;cases j
  have I':=zc1 I d (ys:=vs) (fun b o _ e=>kp b o e) (by obtain ⟨o,es,ep,g,k⟩:=d;exact ⟨o,es,ep,kp _ _ g,k⟩) f i hD rv (Nat.le_of_lt (zaR (by lia))) s.toks
  refine ⟨.ref D,_,I',rfl,(q _ sts a (List.Perm.refl _) ?_).at i⟩
  match sts,h2 with
  | [],_=>exact .nil
  | [_],_=>exact List.pairwise_singleton _ _
  | _::_::_,h2=>exact absurd (by simp) h2⟩
end
open PySem
def Ris (xs:Array Nat):Prop:=∀ i j:Nat,i<j->j<xs.size->xs.getD i 0<xs.getD j 0
theorem zcO {xs:Array Nat}(hr:Ris xs){j:Nat}:∀ (fuel lo hi:Nat),lo<=hi->hi<=xs.size->hi - lo<=fuel->(∀ i,i<lo->xs.getD i 0<j)->(∀ i,hi<=i->i<xs.size->j<=xs.getD i 0)->
  ∃ p,SetTable.below.go xs j fuel lo hi=p/\p<=xs.size/\(∀ i,i<p->xs.getD i 0<j)/\(∀ i,p<=i->i<xs.size->j<=xs.getD i 0)
 | 0,lo,hi,h1,h2,h3,h4,h5=>by
  have:lo=hi:=by lia
  subst this
  exact ⟨lo,rfl,h2,h4,h5⟩
 | fuel+1,lo,hi,h1,h2,h3,h4,h5=>by
  show ∃ p,(if lo<hi then if xs.getD ((lo+hi) / 2) j<j then SetTable.below.go xs j fuel ((lo+hi) / 2+1) hi else SetTable.below.go xs j fuel lo ((lo+hi) / 2) else lo)=p/\_
  by_cases hl:lo<hi
  ·rw [if_pos hl]
   have hm:(lo+hi) / 2<xs.size:=by lia
   have e:xs.getD ((lo+hi) / 2) j=xs.getD ((lo+hi) / 2) 0:=by simp [hm]
   rw [e]
   by_cases hc:xs.getD ((lo+hi) / 2) 0<j
   ·rw [if_pos hc]
    refine zcO hr fuel _ hi (by lia) h2 (by lia) (fun i a=>?_) h5
    by_cases q:i=(lo+hi) / 2
    ·rw [q];exact hc
    ·have:=hr i ((lo+hi) / 2) (by lia) hm
     lia
   ·rw [if_neg hc]
    refine zcO hr fuel lo _ (by lia) (by lia) (by lia) h4 (fun i a hs=>?_)
    by_cases q:i=(lo+hi) / 2
    ·rw [q];lia
    ·have:=hr ((lo+hi) / 2) i (by lia) hs
     lia
  ·rw [if_neg hl]
   have:lo=hi:=by lia
   subst this
   exact ⟨lo,rfl,h2,h4,h5⟩
theorem xW {xs:Array Nat}(hr:Ris xs)(j:Nat):SetTable.below xs j<=xs.size/\(∀ i,i<SetTable.below xs j->xs.getD i 0<j)/\(∀ i,SetTable.below xs j<=i->i<xs.size->j<=xs.getD i 0):=by
 obtain ⟨p,e,h⟩:=zcO hr (j:=j) xs.size 0 xs.size (Nat.zero_le _) (Nat.le_refl _) (Nat.le_refl _) (fun i h=>absurd h (Nat.not_lt_zero _)) (fun i h1 h2=>by lia)
 have e':SetTable.below xs j=p:=e
 rw [e']
 exact h
theorem xt {xs:Array Nat}{i j:Nat}(h:xs[i]?=some j):i<xs.size/\xs.getD i 0=j:=by
 obtain ⟨h1,h2⟩:=Array.getElem?_eq_some_iff.mp h
 exact ⟨h1,by simp [h1,h2]⟩
theorem zeG {xs:Array Nat}{i:Nat}(h:i<xs.size):xs[i]?=some (xs.getD i 0):=by simp [h]
theorem ziQ {xs:Array Nat}(hr:Ris xs){i j:Nat}(h:xs[i]?=some j):SetTable.below xs j=i:=by
 obtain ⟨h1,h2⟩:=xt h
 obtain ⟨b1,b2,b3⟩:=xW hr j
 rcases Nat.lt_trichotomy (SetTable.below xs j) i with q | q | q
 ·have:=b3 _ (Nat.le_refl _) (by lia)
  have:=hr _ i q h1
  lia
 ·exact q
 ·have:=b2 i q
  lia
theorem zaQ {t:SetTable}(hr:Ris t.place){i j:Nat}(h:t.place[i]?=some j):t.slot j = .live i:=by
 unfold SetTable.slot
 rw [ziQ hr h]
 simp [h]
theorem zit {t:SetTable}(hd:t.dummies = #[]){j:Nat}(h:∀ i:Nat,t.place[i]?≠some j):t.slot j = .empty:=by
 unfold SetTable.slot
 have e:(t.place[SetTable.below t.place j]?==some j)=false:=by
  rw [Bool.eq_false_iff]
  intro z
  exact h _ (eq_of_beq z)
 have e2:SetTable.has t.dummies j=false:=by rw [hd];rfl
 simp only [e,e2,Bool.false_eq_true,if_false]
theorem znf {t:SetTable}(hr:Ris t.place)(hd:t.dummies = #[])(j:Nat):(t.slot j = .empty/\∀ i:Nat,t.place[i]?≠some j)\/∃ i,t.slot j = .live i/\t.place[i]?=some j:=by
 by_cases h:∃ i:Nat,t.place[i]?=some j
 ·obtain ⟨i,hi⟩:=h
  exact .inr ⟨i,zaQ hr hi,hi⟩
 ·have h':∀ i:Nat,t.place[i]?≠some j:=fun i e=>h ⟨i,e⟩
  exact .inl ⟨zit hd h',h'⟩
def tm (mask:Nat):SetTable:=⟨mask,#[],#[],0,true,0,true⟩
def stp (mask:Nat)(h:Int):Nat->SetTable.Probe
 | 0=>(tm mask).probeStart h
 | n+1=>(tm mask).advance (stp mask h n)
def wk (mask:Nat)(h:Int)(n:Nat):Nat:=(stp mask h n).j
theorem zgs (mask:Nat)(p:SetTable.Probe):((tm mask).advance p).dummy=p.dummy:=by
 unfold SetTable.advance
 split <;> rfl
theorem zee (mask:Nat)(h:Int):∀ n,(stp mask h n).dummy=none
 | 0=>rfl
 | n+1=>by show ((tm mask).advance _).dummy=none;rw [zgs,zee mask h n]
theorem zfh (mask:Nat)(p:SetTable.Probe)(h:0<p.more):(tm mask).advance p={ p with j:=p.j+1,more:=p.more - 1 }:=by
 unfold SetTable.advance
 rw [if_pos h]
theorem zcM (mask:Nat)(p:SetTable.Probe)(h:p.more=0):(tm mask).advance p={ p with j:=(p.i * 5+1+p.perturb / 32) % (mask+1),more:=SetTable.runEnd mask ((p.i * 5+1+p.perturb / 32) % (mask+1)) - (p.i * 5+1+p.perturb / 32) % (mask+1),i:=(p.i * 5+1+p.perturb / 32) % (mask+1),perturb:=p.perturb / 32 }:=by
 unfold SetTable.advance
 rw [if_neg (by lia)]
 rfl
def lp (mask:Nat)(h:Int):Nat->Nat×Nat
 | 0=>(SetTable.bits h % (mask+1),SetTable.bits h)
 | n+1=>SetTable.leap mask (lp mask h n).1 (lp mask h n).2
theorem zk2 (mask i:Nat):SetTable.runEnd mask i - i<=9:=by unfold SetTable.runEnd;split <;> lia
theorem zdu (mask:Nat)(h:Int){T i q:Nat}(e:stp mask h T=⟨i,SetTable.runEnd mask i - i,i,q,none⟩):∀ k,k<=SetTable.runEnd mask i - i->stp mask h (T+k)=⟨i+k,SetTable.runEnd mask i - i - k,i,q,none⟩
 | 0,_=>e
 | k+1,hk=>by
  show (tm mask).advance (stp mask h (T+k))=_
  rw [zdu mask h e k (by lia),zfh mask _ (by show 0<SetTable.runEnd mask i - i - k;lia)]
  show (⟨i+k+1,SetTable.runEnd mask i - i - k - 1,i,q,none⟩:SetTable.Probe)=⟨i+(k+1),SetTable.runEnd mask i - i - (k+1),i,q,none⟩
  rw [Nat.add_assoc,Nat.sub_sub]
theorem zhu (mask:Nat)(h:Int):∀ k,∃ T,T<=10 * k/\stp mask h T=⟨(lp mask h k).1,SetTable.runEnd mask (lp mask h k).1 - (lp mask h k).1,(lp mask h k).1,(lp mask h k).2,none⟩
 | 0=>⟨0,Nat.le_refl _,rfl⟩
 | k+1=>by
  obtain ⟨T,hT,e⟩:=zhu mask h k
  have hr:=zk2 mask (lp mask h k).1
  refine ⟨T+(SetTable.runEnd mask (lp mask h k).1 - (lp mask h k).1)+1,by lia,?_⟩
  show (tm mask).advance (stp mask h (T+_))=_
  rw [zdu mask h e _ (Nat.le_refl _),zcM mask _ (Nat.sub_self _)]
  rfl
theorem zcy (mask:Nat)(h:Int):∀ k,(lp mask h k).2=SetTable.bits h / 32 ^ k
 | 0=>by show SetTable.bits h=_;simp
 | k+1=>by
  show (lp mask h k).2 / 32=_
  rw [zcy mask h k,Nat.div_div_eq_div_mul,Nat.pow_succ]
theorem zld (h:Int):SetTable.bits h<2 ^ 64:=by
 unfold SetTable.bits
 have h0:=Int.emod_nonneg h (show (2 ^ 64:Int)≠0 by decide)
 have h1:=Int.emod_lt_of_pos h (show (0:Int)<2 ^ 64 by decide)
 lia
def lcg (m i:Nat):Nat:=(i * 5+1) % m
def orb (m:Nat):Nat->Nat->Nat
 | 0,i=>i
 | k+1,i=>lcg m (orb m k i)
theorem zhA (mask:Nat)(h:Int):∀ k,(lp mask h (13+k)).1=orb (mask+1) k (lp mask h 13).1
 | 0=>rfl
 | k+1=>by
  show ((lp mask h (13+k)).1 * 5+1+(lp mask h (13+k)).2 / 32) % (mask+1)=lcg (mask+1) (orb (mask+1) k _)
  rw [<- zhA mask h k,zcy]
  have hb:=zld h
  have e:SetTable.bits h / 32 ^ (13+k)=0:=by
   refine Nat.div_eq_of_lt (Nat.lt_of_lt_of_le hb ?_)
   calc 2 ^ 64<=32 ^ 13:=by decide
    _<=32 ^ (13+k):=Nat.pow_le_pow_right (by decide) (by lia)
  rw [e]
  rfl
theorem zbZ (m:Nat)(a:Nat):∀ (b i:Nat),orb m (a+b) i=orb m b (orb m a i)
 | 0,i=>rfl
 | b+1,i=>by show lcg m (orb m (a+b) i)=lcg m (orb m b _);rw [zbZ m a b i]
def znL (m:Nat):Nat->Nat->List Nat
 | 0,_=>[]
 | n+1,i=>i::znL m n (lcg m i)
theorem zjL (m:Nat)(k i:Nat):orb m (k+1) i=orb m k (lcg m i):=by
 rw [Nat.add_comm,zbZ]
 rfl
theorem zdj (m:Nat):∀ (n i k:Nat),k<n->(znL m n i)[k]?=some (orb m k i)
 | n+1,i,0,_=>rfl
 | n+1,i,k+1,h=>by
  rw [zjL]
  exact zdj m n (lcg m i) k (by lia)
theorem zbA (m:Nat):∀ (n i:Nat),(znL m n i).length=n
 | 0,_=>rfl
 | n+1,i=>by show (znL m n _).length+1=n+1;rw [zbA m n]
structure Ring (m:Nat):Prop where
 pos:0<m
 all:∀ v,v<m->v∈znL m m 0
 back:orb m m 0=0
theorem Ring.reach {m:Nat}(r:Ring m){i j:Nat}(hi:i<m)(hj:j<m):∃ k,k<m/\orb m k i=j:=by
 obtain ⟨a,ha,ea⟩:=List.mem_iff_getElem.mp (r.all i hi)
 obtain ⟨b,hb,eb⟩:=List.mem_iff_getElem.mp (r.all j hj)
 rw [zbA] at ha hb
 have c:orb m a 0=i:=by
  have:=zdj m m 0 a ha
  rw [List.getElem?_eq_getElem (by rw [zbA];exact ha),ea] at this
  exact (Option.some.inj this).symm
 have d:orb m b 0=j:=by
  have:=zdj m m 0 b hb
  rw [List.getElem?_eq_getElem (by rw [zbA];exact hb),eb] at this
  exact (Option.some.inj this).symm
 by_cases hab:a<=b
 ·refine ⟨b - a,by lia,?_⟩
  rw [<- c,<- zbZ,show a+(b - a)=b by lia]
  exact d
 ·refine ⟨b+m - a,by lia,?_⟩
  rw [<- c,<- zbZ,show a+(b+m - a)=m+b by lia,zbZ,r.back]
  exact d
def zpH (m:Nat):Bool:=((List.range m).all fun v=>(znL m m 0).contains v)&&orb m m 0==0
theorem zdo {m:Nat}(h0:0<m)(h:zpH m=true):Ring m:=by
 unfold zpH at h
 rw [Bool.and_eq_true] at h
 refine ⟨h0,fun v hv=>?_,eq_of_beq h.2⟩
 have:=List.all_eq_true.mp h.1 v (List.mem_range.mpr hv)
 exact List.contains_iff_mem.mp this
theorem zrY:Ring 8:=zdo (by decide) (by decide +kernel)
theorem zpG:Ring 32:=zdo (by decide) (by decide +kernel)
theorem zm5:Ring 128:=zdo (by decide) (by decide +kernel)
theorem zm6:Ring 512:=zdo (by decide) (by decide +kernel)
theorem zkk {mask:Nat}(r:Ring (mask+1))(h:Int){j:Nat}(hj:j<=mask):∃ n,n<10 * SetTable.turns mask/\wk mask h n=j:=by
 have hb:(lp mask h 13).1<mask+1:=Nat.mod_lt _ (Nat.succ_pos _)
 obtain ⟨k,hk,e⟩:=r.reach hb (Nat.lt_succ_of_le hj)
 obtain ⟨T,hT,eT⟩:=zhu mask h (13+k)
 refine ⟨T,by unfold SetTable.turns;lia,?_⟩
 show (stp mask h T).j=j
 rw [eT]
 show (lp mask h (13+k)).1=j
 rw [zhA,e]
open PySem PySem.Spec PyProof.Rows
theorem zm8 {xs:Array Nat}(hr:Ris xs){i j a b:Nat}(hi:xs[i]?=some a)(hj:xs[j]?=some b)(h:a<b):i<j:=by
 obtain ⟨h1,h2⟩:=xt hi
 obtain ⟨h3,h4⟩:=xt hj
 rcases Nat.lt_trichotomy i j with q | q | q
 ·exact q
 ·subst q;lia
 ·have:=hr j i q h1;lia
theorem zfG {xs:Array Nat}(hr:Ris xs):∀ (M:Nat),(∀ j,j<M->∃ i:Nat,xs[i]?=some j)->∀ (j i:Nat),j<M->xs[i]?=some j->j<=i
 | _,_,0,_,_,_=>Nat.zero_le _
 | M,h,j+1,i,hj,e=>by
  obtain ⟨i',e'⟩:=h j (by lia)
  have h1:=zm8 hr e' e (Nat.lt_succ_self j)
  have h2:=zfG hr M h j i' (by lia) e'
  lia
theorem zm7 {xs:Array Nat}(hr:Ris xs){M:Nat}(h:xs.size<M):∃ j,j<M/\∀ i:Nat,xs[i]?≠some j:=by
 refine Classical.byContradiction fun hn=>?_
 have all:∀ j,j<M->∃ i:Nat,xs[i]?=some j:=fun j hj=>Classical.byContradiction fun hc=>hn ⟨j,hj,fun i e=>hc ⟨i,e⟩⟩
 obtain ⟨i,e⟩:=all (M - 1) (by lia)
 have h1:=zfG hr M all (M - 1) i (by lia) e
 have h2:=(xt e).1
 lia
section
variable {t:SetTable}{hashAt:Nat->Int}{h:Int}
theorem zfD (hr:Ris t.place)(hd:t.dummies = #[]):∀ (fuel n:Nat),(∃ N,n<=N/\N<n+fuel/\∀ i:Nat,t.place[i]?≠some (wk t.mask h N))->
  ∃ N,n<=N/\(∀ m,n<=m->m<N->∃ i,t.place[i]?=some (wk t.mask h m)/\hashAt i≠h)/\
   (((∀ i:Nat,t.place[i]?≠some (wk t.mask h N))/\SetTable.probe.go t hashAt h fuel (stp t.mask h n)=some (.empty (wk t.mask h N) none))\/
    ∃ i,t.place[i]?=some (wk t.mask h N)/\hashAt i=h/\SetTable.probe.go t hashAt h fuel (stp t.mask h n)=some (.candidate (wk t.mask h N) i (stp t.mask h (N+1))))
 | 0,n,⟨N,h1,h2,_⟩=>by lia
 | fuel+1,n,⟨N,h1,h2,h3⟩=>by
  rcases znf hr hd (wk t.mask h n) with ⟨e,hn⟩ | ⟨i,e,hi⟩
  ·refine ⟨n,Nat.le_refl _,fun m a b=>by lia,.inl ⟨hn,?_⟩⟩
   show (match t.slot (wk t.mask h n) with | .empty=>some (SetTable.Met.empty (wk t.mask h n) (stp t.mask h n).dummy) | .dummy=>_ | .live i=>_)=_
   rw [e,zee]
  ·by_cases hh:hashAt i=h
   ·refine ⟨n,Nat.le_refl _,fun m a b=>by lia,.inr ⟨i,hi,hh,?_⟩⟩
    show (match t.slot (wk t.mask h n) with | .empty=>_ | .dummy=>_ | .live i=>if hashAt i==h then some (SetTable.Met.candidate (wk t.mask h n) i (t.advance (stp t.mask h n))) else _)=_
    rw [e]
    show (if (hashAt i==h)=true then _ else _)=_
    rw [if_pos (beq_iff_eq.mpr hh)]
    rfl
   ·have hN:n≠N:=fun z=>by subst z;exact h3 i hi
    obtain ⟨N',a1,a2,a3⟩:=zfD hr hd fuel (n+1) ⟨N,by lia,by lia,h3⟩
    have e2:SetTable.probe.go t hashAt h (fuel+1) (stp t.mask h n)=SetTable.probe.go t hashAt h fuel (stp t.mask h (n+1)):=by
     show (match t.slot (wk t.mask h n) with | .empty=>_ | .dummy=>_ | .live i=>if hashAt i==h then _ else SetTable.probe.go t hashAt h fuel (t.advance (stp t.mask h n)))=_
     rw [e]
     show (if (hashAt i==h)=true then _ else _)=_
     rw [if_neg (fun z=>hh (beq_iff_eq.mp z))]
     rfl
    refine ⟨N',by lia,fun m b1 b2=>?_,?_⟩
    ·by_cases hm:m=n
     ·subst hm;exact ⟨i,hi,hh⟩
     ·exact a2 m (by lia) b2
    ·rw [e2]
     exact a3
end
section
variable {prog:Program}{w:World}
abbrev tk (prog:Program)(w:World):HeapKind prog w (List Key):=tupleKind (zL prog w)
def zqM (t:SetTable)(h:Int)(i:Nat):Prop:=∃ n,n<10 * SetTable.turns t.mask/\t.place[i]?=some (wk t.mask h n)/\∀ m,m<n->∃ i':Nat,t.place[i']?=some (wk t.mask h m)
def zag (m:Nat):Prop:=m=7\/m=31\/m=127\/m=511
theorem zag.ring {m:Nat}(h:zag m):Ring (m+1):=by
 rcases h with rfl | rfl | rfl | rfl
 ·exact zrY
 ·exact zpG
 ·exact zm5
 ·exact zm6
theorem zag.le {m:Nat}(h:zag m):7<=m/\m<=511:=by rcases h with rfl | rfl | rfl | rfl <;> lia
theorem zag.odd {m:Nat}(h:zag m):(m % 2==0)=false:=by rcases h with rfl | rfl | rfl | rfl <;> rfl
structure Tb (prog:Program)(w:World)(t:SetTable)(es:Array (Int×Value))(xs:List (List Key×Addr)):Prop where
 eq:es.toList=xs.map fun q=>((tk prog w).hash q.1,Value.ref q.2)
 nd:(xs.map (·.1)).Nodup
 dm:t.dummies = #[]
 ris:Ris t.place
 le:∀ (i j:Nat),t.place[i]?=some j->j<=t.mask
 sz:t.place.size=xs.length
 msk:zag t.mask
 few:xs.length<=t.mask
 plain:t.plain=true
 led:t.led = !w.params.followText "set-order"
 reach:∀ (i:Nat) (q:List Key×Addr),xs[i]?=some q->zqM t ((tk prog w).hash q.1) i
variable {t:SetTable}{es:Array (Int×Value)}{xs:List (List Key×Addr)}
theorem Tb.size (T:Tb prog w t es xs):es.size=xs.length:=by rw [<- Array.length_toList,T.eq,List.length_map]
theorem Tb.get (T:Tb prog w t es xs){i:Nat}{q:List Key×Addr}(h:xs[i]?=some q):es[i]?=some ((tk prog w).hash q.1,Value.ref q.2):=by
 rw [<- Array.getElem?_toList,T.eq,List.getElem?_map,h]
 rfl
theorem Tb.at' (T:Tb prog w t es xs){i j:Nat}(h:t.place[i]?=some j):∃ q,xs[i]?=some q:=by
 have:=(xt h).1
 rw [T.sz] at this
 exact ⟨xs[i],List.getElem?_eq_getElem this⟩
theorem Tb.fits (T:Tb prog w t es xs):t.fits es.size=true:=by
 unfold SetTable.fits SetTable.fill
 rw [T.size,T.sz,T.dm]
 have:=T.few
 simp
 lia
theorem Tb.empty (T:Tb prog w t es xs)(h:Int):∃ N,N<10 * SetTable.turns t.mask/\∀ i:Nat,t.place[i]?≠some (wk t.mask h N):=by
 have:=T.few
 obtain ⟨j,hj,hn⟩:=zm7 T.ris (M:=t.mask+1) (by rw [T.sz];lia)
 obtain ⟨N,h1,h2⟩:=zkk T.msk.ring h (Nat.le_of_lt_succ hj)
 exact ⟨N,h1,by rw [h2];exact hn⟩
variable {A:Around}{E:Value->Shared->Prop}{s:Shared}
theorem zes {k:Key}{v:Value}(h:(zL prog w).is k v=true):(∃ i t,v = .int i t)\/∃ x t,v = .str x t:=by
 rcases zQ h with ⟨i,t,_,e⟩ | ⟨x,t,_,e⟩
 ·exact .inl ⟨i,t,e⟩
 ·exact .inr ⟨x,t,e⟩
theorem zbL:∀ {ks:List Key} {vs:List Value},ItemsAre (zL prog w) ks vs->∀ v∈vs,(∃ i t,v = .int i t)\/∃ x t,v = .str x t
 | _,_,.nil,v,h=>by simp at h
 | _,_,.cons h1 h2,v,h=>by
  rcases List.mem_cons.mp h with rfl | h
  ·exact zes h1
  ·exact zbL h2 v h
theorem zcA {k:List Key}{b:Addr}{Q:Bool->Shared->Prop}(hk:(tk prog w).is s.heap k b)(h:Q false s):wpAny (model prog w) A (ofAClassStatement 8 (.ref b)) Q E s:=by
 have c:IsTupleKey (zL prog w) s.heap k b:=hk
 have hT:=c.typeIs
 obtain ⟨o,items,n,ho,_,hd,hi⟩:=c
 unfold ofAClassStatement
 refine wpAny_bind (wpAny_typeOf hT ?_)
 dsimp only
 rw [if_pos (by decide)]
 refine wpAny_bind (wpAny_pure ?_)
 simp only [Bool.not_true,Bool.false_eq_true,if_false]
 refine wpAny_bind (wpAny_seqItems ho hd ?_)
 refine wpAny_bind ?_
 show wpAny _ _ (forIn items _ _) _ _ s
 rw [<- Array.forIn_toList]
 refine wpAny_forIn_list _ (fun z6 r s'=>r.1=none/\s'=s/\∀ v∈z6,(∃ i t,v=Value.int i t)\/∃ x t,v=Value.str x t) _ ?_ ?_ _ _ ⟨rfl,rfl,zbL hi⟩
 ·rintro v z6 r s' ⟨hr,rfl,a⟩
  have e:ofAClassStatement 7 v=pure false:=by
   rcases a v List.mem_cons_self with ⟨i,t,rfl⟩ | ⟨x,t,rfl⟩ <;> rfl
  rw [e]
  refine wpAny_bind (wpAny_pure ?_)
  simp only [Bool.false_eq_true,if_false]
  exact wpAny_pure ⟨rfl,rfl,fun u d=>a u (List.mem_cons_of_mem _ d)⟩
 ·rintro ⟨r1,r2⟩ s' ⟨hr,rfl,_⟩
  simp only at hr
  subst hr
  exact wpAny_pure h
theorem zp8 {k:List Key}{b:Addr}{Q:Bool->Shared->Prop}(hk:(tk prog w).is s.heap k b):∀ (l:List Value),(∀ v∈l,∃ k' b',v = .ref b'/\(tk prog w).is s.heap k' b')->Q false s->wpAny (model prog w) A (searchCouldBeSeen (.ref b) l) Q E s:=by
 intro l hl h
 unfold searchCouldBeSeen
 refine wpAny_bind ?_
 refine wpAny_forIn_list _ (fun z6 r s'=>r.1=none/\s'=s/\∀ v∈z6,∃ k' b',v=Value.ref b'/\(tk prog w).is s.heap k' b') _ ?_ ?_ _ _ ⟨rfl,rfl,hl⟩
 ·rintro v z6 r s' ⟨hr,rfl,a⟩
  obtain ⟨k',b',rfl,c⟩:=a v List.mem_cons_self
  have next:∀ u∈z6,∃ k' b',u=Value.ref b'/\(tk prog w).is s'.heap k' b':=fun u d=>a u (List.mem_cons_of_mem _ d)
  dsimp only
  split
  ·exact wpAny_pure ⟨rfl,rfl,next⟩
  ·refine wpAny_bind ((tk prog w).quiet hk ?_)
   simp only [Bool.not_true,Bool.false_eq_true,if_false]
   refine wpAny_bind ((tk prog w).quiet c ?_)
   simp only [Bool.not_true,Bool.false_eq_true,if_false]
   refine wpAny_bind (zcA hk ?_)
   simp only [Bool.false_eq_true,if_false]
   refine wpAny_bind (zcA c ?_)
   simp only [Bool.false_eq_true,if_false]
   exact wpAny_pure ⟨rfl,rfl,next⟩
 ·rintro ⟨r1,r2⟩ s' ⟨hr,rfl,_⟩
  simp only at hr
  subst hr
  exact wpAny_pure h
end
section
variable {prog:Program}{w:World}{t:SetTable}{es:Array (Int×Value)}{xs:List (List Key×Addr)}{A:Around}{E:Value->Shared->Prop}{s:Shared}
def zfg (t:SetTable)(xs:List (List Key×Addr))(h:Int)(k:List Key)(n:Nat):Prop:=∀ m,m<n->∃ (i:Nat) (q:List Key×Addr),t.place[i]?=some (wk t.mask h m)/\xs[i]?=some q/\q.1≠k
theorem zeb {a b:Addr}{o:Obj}{ep:Nat}{k:List Key}{adding:Bool}{Q:SetFound->Shared->Prop}(hu:A.units<cLine)(T:Tb prog w t es xs)(hk:(tk prog w).is s.heap k b)(hel:∀ q∈xs,(tk prog w).is s.heap q.1 q.2)
  (ho:s.heap.get? a=some o) (hd:o.data = .set es ep t)
  (found:∀ r i q,xs[i]?=some q->q.1=k->(r=none\/r=some i)->Q (.there r) s)
  (free:∀ N,N<10 * SetTable.turns t.mask->(∀ i:Nat,t.place[i]?≠some (wk t.mask ((tk prog w).hash k) N))->zfg t xs ((tk prog w).hash k) k N->Q (.free (wk t.mask ((tk prog w).hash k) N) false) s) :
  ∀ (fuel n:Nat) (stand:Option SetTable.Probe),stand.getD (t.probeStart ((tk prog w).hash k))=stp t.mask ((tk prog w).hash k) n->10 * SetTable.turns t.mask<n+fuel->n<=10 * SetTable.turns t.mask->zfg t xs ((tk prog w).hash k) k n->
   wpAny (model prog w) A (setSearchFrom a (.ref b) ((tk prog w).hash k) adding fuel stand) Q E s
 | 0,n,stand,_,h2,h3,_=>by lia
 | fuel+1,n,stand,h1,h2,h3,h4=>by
  unfold setSearchFrom
  refine wpAny_bind (wpAny_setState_of ho hd T.fits ?_)
  dsimp only
  rw [show t.gaveWay=false from T.msk.odd]
  simp only [Bool.false_eq_true,if_false]
  rw [h1]
  obtain ⟨N0,hN0,eN0⟩:=T.empty ((tk prog w).hash k)
  have hn0:n<=N0:=by
   rcases Nat.lt_or_ge N0 n with q | q
   ·obtain ⟨i,_,e,_⟩:=h4 N0 q
    exact absurd e (eN0 i)
   ·exact q
  have pass:∀ N,n<=N->(∀ m,n<=m->m<N->∃ i:Nat,t.place[i]?=some (wk t.mask ((tk prog w).hash k) m)/\(es[i]?.map (·.1)).getD 0≠(tk prog w).hash k)->zfg t xs ((tk prog w).hash k) k N:=fun N hN hh m hm=>by
   rcases Nat.lt_or_ge m n with q | q
   ·exact h4 m q
   ·obtain ⟨i,e1,e2⟩:=hh m q hm
    obtain ⟨q,hq⟩:=T.at' e1
    refine ⟨i,q,e1,hq,fun z=>e2 ?_⟩
    rw [T.get hq,<- z]
    rfl
  obtain ⟨N,hN,hp,hc⟩:=zfD (t:=t) (hashAt:=fun i=>(es[i]?.map (·.1)).getD 0) (h:=(tk prog w).hash k) T.ris T.dm (10 * SetTable.turns t.mask) n ⟨N0,hn0,by lia,eN0⟩
  have hNle:N<=N0:=by
   rcases Nat.lt_or_ge N0 N with q | q
   ·obtain ⟨i,e,_⟩:=hp N0 hn0 q
    exact absurd e (eN0 i)
   ·exact q
  rcases hc with ⟨he,hg⟩ | ⟨i,hi,hh,hg⟩
  ·have hg':t.probe (fun i=>(es[i]?.map (·.1)).getD 0) ((tk prog w).hash k) (stp t.mask ((tk prog w).hash k) n)=some (.empty (wk t.mask ((tk prog w).hash k) N) none):=hg
   have fin:=free N (by lia) he (pass N hN hp)
   generalize hm:SetTable.probe t _ _ _=met
   have:met=some (.empty (wk t.mask ((tk prog w).hash k) N) none):=hm.symm.trans hg'
   rw [this]
   dsimp only
   exact wpAny_pure fin
  ·have hg':t.probe (fun i=>(es[i]?.map (·.1)).getD 0) ((tk prog w).hash k) (stp t.mask ((tk prog w).hash k) n)=some (.candidate (wk t.mask ((tk prog w).hash k) N) i (stp t.mask ((tk prog w).hash k) (N+1))):=hg
   generalize hm:SetTable.probe t _ _ _=met
   have:met=some (.candidate (wk t.mask ((tk prog w).hash k) N) i (stp t.mask ((tk prog w).hash k) (N+1))):=hm.symm.trans hg'
   rw [this]
   dsimp only
   obtain ⟨q,hq⟩:=T.at' hi
   have hqe:=T.get hq
   have hqk:=hel q (List.mem_of_getElem? hq)
   have stl:t.slot (wk t.mask ((tk prog w).hash k) N) = .live i:=zaQ T.ris hi
   have core:wpAny (model prog w) A (do
     let some (_,y):=es[i]? | unsupported "internal:set-entry"
     let equal <- holding [y] (eqBool y (.ref b))
     let (es',_,t') <- setState a
     if adding&&equal then return .there none
     let some smem:=t'.sameMemory t.moves t.mask | unsupported "set.changed-during-lookup:is-the-new-block-at-the-old-address"
     let still <- match (if smem then t'.slot (wk t.mask ((tk prog w).hash k) N) else .empty) with
      | .live i'=>match es'[i']? with
       | some (_,y')=>do pure (if <- isSame y' y then some i' else none)
       | none=>pure none
      | _=>pure none
     match still with
     | none=>rule "set.search.anew";setSearchFrom a (.ref b) ((tk prog w).hash k) adding fuel none
     | some i'=>if equal then return .there (some i') else setSearchFrom a (.ref b) ((tk prog w).hash k) adding fuel (some (stp t.mask ((tk prog w).hash k) (N+1)))) Q E s:=by
    rw [hqe]
    dsimp only
    refine wpAny_bind (wpAny_holding ((tk prog w).eqBool hu hqk hk ?_))
    refine wpAny_bind (wpAny_setState_of ho hd T.fits ?_)
    dsimp only
    by_cases hkk:q.1=k
    ·rw [decide_eq_true hkk]
     cases adding with
     | true=>
      simp only [Bool.and_self,if_true]
      exact wpAny_pure (found none i q hq hkk (.inl rfl))
     | false=>
      simp only [Bool.false_and,Bool.false_eq_true,if_false]
      have e1:t.sameMemory t.moves t.mask=some true:=by unfold SetTable.sameMemory;simp
      rw [e1]
      dsimp only
      simp only [if_true]
      rw [stl]
      dsimp only
      rw [hqe]
      dsimp only
      refine wpAny_bind (wpAny_isSame_ref_self (wpAny_bind (wpAny_pure ?_)))
      simp only [if_true]
      exact wpAny_pure (found (some i) i q hq hkk (.inr rfl))
    ·rw [decide_eq_false hkk]
     simp only [Bool.and_false,Bool.false_eq_true,if_false]
     have e1:t.sameMemory t.moves t.mask=some true:=by unfold SetTable.sameMemory;simp
     rw [e1]
     dsimp only
     simp only [if_true]
     rw [stl]
     dsimp only
     rw [hqe]
     dsimp only
     refine wpAny_bind (wpAny_isSame_ref_self (wpAny_bind (wpAny_pure ?_)))
     simp only [if_true]
     refine zeb hu T hk hel ho hd found free fuel (N+1) _ rfl (by lia) (by lia) fun m hm=>?_
     rcases Nat.lt_succ_iff_lt_or_eq.mp hm with z | z
     ·exact pass N hN hp m z
     ·subst z;exact ⟨i,q,hi,hq,hkk⟩
   split
   ·refine wpAny_bind (zp8 hk _ (fun v hv=>?_) ?_)
    ·obtain ⟨e,he,rfl⟩:=List.mem_map.mp hv
     have he':e∈es.toList:=by
      have:=Array.mem_toList_iff.mp he
      exact Array.mem_toList_iff.mpr (Array.mem_filter.mp this).1
     rw [T.eq] at he'
     obtain ⟨q',hq',rfl⟩:=List.mem_map.mp he'
     exact ⟨_,_,rfl,hel q' hq'⟩
    ·simp only [Bool.false_eq_true,if_false]
     exact core
   ·exact core
end
def zdU {α:Type}(l:List α)(p:Nat)(x:α):List α:=l.take p++x::l.drop p
theorem zeL {α:Type}{l:List α}{p i:Nat}{x:α}(hp:p<=l.length)(h:i<p):(zdU l p x)[i]?=l[i]?:=by
 unfold zdU
 rw [List.getElem?_append_left (by rw [List.length_take];lia),List.getElem?_take_of_lt h]
theorem zeJ {α:Type}{l:List α}{p:Nat}{x:α}(hp:p<=l.length):(zdU l p x)[p]?=some x:=by
 unfold zdU
 rw [List.getElem?_append_right (by rw [List.length_take];lia),List.length_take,show p - min p l.length=0 by lia]
 rfl
theorem zeK {α:Type}{l:List α}{p i:Nat}{x:α}(hp:p<=l.length)(h:p<=i):(zdU l p x)[i+1]?=l[i]?:=by
 unfold zdU
 rw [List.getElem?_append_right (by rw [List.length_take];lia),List.length_take,show i+1 - min p l.length=(i - p)+1 by lia,List.getElem?_cons_succ,List.getElem?_drop,show p+(i - p)=i by lia]
theorem zcY {α:Type}{l:List α}{p:Nat}{x:α}(hp:p<=l.length):(zdU l p x).length=l.length+1:=by
 unfold zdU
 rw [List.length_append,List.length_cons,List.length_take,List.length_drop]
 lia
theorem zjj {α β:Type}(f:α->β)(l:List α)(p:Nat)(x:α):(zdU l p x).map f=zdU (l.map f) p (f x):=by
 unfold zdU
 rw [List.map_append,List.map_cons,List.map_take,List.map_drop]
theorem zha {α:Type}(l:List α)(p:Nat)(x:α):(zdU l p x).Perm (x::l):=by
 unfold zdU
 refine List.perm_middle.trans ?_
 rw [List.take_append_drop]
theorem yi {α:Type}(xs:Array α){p:Nat}(x:α):(SetTable.insertAt xs p x).toList=zdU xs.toList p x:=by
 unfold SetTable.insertAt zdU
 rw [Array.toList_append,Array.toList_push,Array.toList_extract,Array.toList_extract,List.extract_eq_take_drop,List.extract_eq_take_drop]
 rw [Nat.sub_zero,List.drop_zero,List.append_assoc]
 congr 1
 show x::_=_
 congr 1
 show []++List.take _ (List.drop p xs.toList)=_
 rw [List.nil_append]
 refine List.take_of_length_le ?_
 rw [List.length_drop,Array.length_toList]
 exact Nat.le_refl _
theorem zaZ {α:Type}(xs:Array α)(i:Nat):xs[i]?=xs.toList[i]?:=(Array.getElem?_toList).symm
theorem zeM {xs:Array Nat}{p j i v:Nat}(hp:p<=xs.size)(h:xs[i]?=some v):(SetTable.insertAt xs p j)[if i<p then i else i+1]?=some v:=by
 rw [zaZ,yi]
 rw [zaZ] at h
 have a:p<=xs.toList.length:=by rw [Array.length_toList];exact hp
 split
 ·rename_i hi
  rw [zeL a hi,h]
 ·rename_i hi
  rw [zeK a (by lia),h]
theorem zaB {xs:Array Nat}{p j i v:Nat}(hp:p<=xs.size)(h:(SetTable.insertAt xs p j)[i]?=some v):(i=p/\v=j)\/(i<p/\xs[i]?=some v)\/∃ i',i=i'+1/\p<=i'/\xs[i']?=some v:=by
 rw [zaZ,yi] at h
 have a:p<=xs.toList.length:=by rw [Array.length_toList];exact hp
 rcases Nat.lt_trichotomy i p with q | q | q
 ·rw [zeL a q,<- zaZ] at h
  exact .inr (.inl ⟨q,h⟩)
 ·subst q
  rw [zeJ a] at h
  cases h
  exact .inl ⟨rfl,rfl⟩
 ·obtain ⟨i',rfl⟩:∃ i',i=i'+1:=⟨i - 1,by lia⟩
  rw [zeK a (by lia),<- zaZ] at h
  exact .inr (.inr ⟨i',rfl,by lia,h⟩)
theorem zgb {xs:Array Nat}(hr:Ris xs){j:Nat}(hn:∀ i:Nat,xs[i]?≠some j):Ris (SetTable.insertAt xs (SetTable.below xs j) j):=by
 obtain ⟨b1,b2,b3⟩:=xW hr j
 intro i i2 a h2
 have e1:=zeG (xs:=SetTable.insertAt xs (SetTable.below xs j) j) (i:=i) (by lia)
 have e2:=zeG h2
 generalize (SetTable.insertAt xs (SetTable.below xs j) j).getD i 0=v at e1
 generalize (SetTable.insertAt xs (SetTable.below xs j) j).getD i2 0=v2 at e2
 have big:∀ i v,SetTable.below xs j<=i->xs[i]?=some v->j<v:=fun i v h e=>by
  obtain ⟨a1,a2⟩:=xt e
  have:=b3 i h a1
  rcases Nat.lt_or_ge j v with q | q
  ·exact q
  ·have:v=j:=by lia
   subst this
   exact absurd e (hn i)
 have small:∀ i v,i<SetTable.below xs j->xs[i]?=some v->v<j:=fun i v h e=>by
  obtain ⟨a1,a2⟩:=xt e
  have:=b2 i h
  lia
 have mono:∀ i i2 v v2,i<i2->xs[i]?=some v->xs[i2]?=some v2->v<v2:=fun i i2 v v2 h e e2=>by
  obtain ⟨a1,a2⟩:=xt e
  obtain ⟨a3,a4⟩:=xt e2
  have:=hr i i2 h a3
  omega
 rcases zaB b1 e1 with ⟨rfl,rfl⟩ | ⟨q,e⟩ | ⟨i',rfl,q,e⟩
 ·rcases zaB b1 e2 with ⟨rfl,rfl⟩ | ⟨q',e'⟩ | ⟨i'',rfl,q',e'⟩
  ·lia
  ·lia
  ·exact big _ _ q' e'
 ·rcases zaB b1 e2 with ⟨rfl,rfl⟩ | ⟨q',e'⟩ | ⟨i'',rfl,q',e'⟩
  ·exact small _ _ q e
  ·exact mono _ _ _ _ a e e'
  ·exact mono _ _ _ _ (by lia) e e'
 ·rcases zaB b1 e2 with ⟨rfl,rfl⟩ | ⟨q',e'⟩ | ⟨i'',rfl,q',e'⟩
  ·lia
  ·lia
  ·exact mono _ _ _ _ (by lia) e e'
section
variable {prog:Program}{w:World}{t:SetTable}{es:Array (Int×Value)}{xs:List (List Key×Addr)}
theorem zlD {j:Nat}:SetTable.has #[] j=false:=rfl
theorem Tb.put (T:Tb prog w t es xs){k:List Key}{b:Addr}{N:Nat}(hN:N<10 * SetTable.turns t.mask)(he:∀ i:Nat,t.place[i]?≠some (wk t.mask ((tk prog w).hash k) N))(hp:zfg t xs ((tk prog w).hash k) k N)
  (hk:k∉xs.map (·.1)) (hf:xs.length+1<=t.mask) (hle:wk t.mask ((tk prog w).hash k) N<=t.mask) :
  ∃ xs',Tb prog w (t.put (wk t.mask ((tk prog w).hash k) N)).1 (SetTable.insertAt es (t.put (wk t.mask ((tk prog w).hash k) N)).2 ((tk prog w).hash k,.ref b)) xs'/\xs'.Perm ((k,b)::xs):=by
 generalize hj:wk t.mask ((tk prog w).hash k) N=j at *
 obtain ⟨b1,b2,b3⟩:=xW T.ris j
 have d:(t.put j).2=SetTable.below t.place j:=rfl
 have ht:(t.put j).1={ t with place:=SetTable.insertAt t.place (SetTable.below t.place j) j }:=by
  unfold SetTable.put
  dsimp only
  rw [T.dm,zlD]
  simp only [Bool.false_eq_true,if_false]
 generalize hpp:SetTable.below t.place j=p at *
 have a:p<=xs.length:=by rw [<- T.sz];exact b1
 have shift:∀ {i v:Nat},t.place[i]?=some v->∃ i':Nat,(SetTable.insertAt t.place p j)[i']?=some v:=fun {i v} h=>⟨_,zeM b1 h⟩
 have c:=zha xs p (k,b)
 refine ⟨zdU xs p (k,b),?_,c⟩
 rw [d,ht]
 refine ⟨?_,?_,T.dm,?_,?_,?_,T.msk,?_,T.plain,T.led,?_⟩
 ·rw [yi,T.eq,zjj]
 ·rw [(c.map (·.1)).nodup_iff,List.map_cons,List.nodup_cons]
  exact ⟨hk,T.nd⟩
 ·have:=zgb T.ris he
  rw [hpp] at this
  exact this
 ·intro i v e
  rcases zaB b1 e with ⟨_,rfl⟩ | ⟨_,e'⟩ | ⟨_,_,_,e'⟩
  ·exact hle
  ·exact T.le _ _ e'
  ·exact T.le _ _ e'
 ·show (SetTable.insertAt t.place p j).size=_
  rw [<- Array.length_toList,yi,zcY (by rw [Array.length_toList];exact b1),zcY a,Array.length_toList,T.sz]
 ·show (zdU xs p (k,b)).length<=t.mask
  rw [zcY a]
  exact hf
 ·intro i q hq
  rcases Nat.lt_trichotomy i p with z | z | z
  ·rw [zeL a z] at hq
   obtain ⟨n,h1,h2,h3⟩:=T.reach i q hq
   refine ⟨n,h1,?_,fun m hm=>?_⟩
   ·have:=zeM (j:=j) b1 h2
    rw [if_pos z] at this
    exact this
   ·obtain ⟨i',e⟩:=h3 m hm
    exact shift e
  ·subst z
   rw [zeJ a] at hq
   cases hq
   refine ⟨N,hN,?_,fun m hm=>?_⟩
   ·show (SetTable.insertAt t.place i j)[i]?=_
    rw [zaZ,yi,zeJ (by rw [Array.length_toList];exact b1)]
    exact congrArg some hj.symm
   ·obtain ⟨i',q',e,_⟩:=hp m hm
    exact shift e
  ·obtain ⟨i',rfl⟩:∃ i',i=i'+1:=⟨i - 1,by lia⟩
   rw [zeK a (by lia)] at hq
   obtain ⟨n,h1,h2,h3⟩:=T.reach i' q hq
   refine ⟨n,h1,?_,fun m hm=>?_⟩
   ·have:=zeM (j:=j) b1 h2
    rw [if_neg (by lia)] at this
    exact this
   ·obtain ⟨i',e⟩:=h3 m hm
    exact shift e
end
theorem zdd:∀ (n:Nat) {l:List Nat},l.Nodup->(∀ x∈l,x<n)->l.length<=n
 | 0,l,_,h=>by
  cases l with
  | nil=>exact Nat.le_refl _
  | cons a _=>exact absurd (h a List.mem_cons_self) (Nat.not_lt_zero _)
 | n+1,l,hn,h=>by
  by_cases hm:n∈l
  ·have h1:=zdd n (hn.erase n) fun x hx=>by
    have:=(hn.mem_erase_iff).mp hx
    have:=h x this.2
    lia
   rw [List.length_erase_of_mem hm] at h1
   lia
  ·have:=zdd n hn fun x hx=>by
    have h1:=h x hx
    have:x≠n:=fun z=>hm (z ▸ hx)
    lia
   lia
theorem zaM {α:Type}[BEq α][LawfulBEq α]:∀ {l l':List α},l.Nodup->l'.Nodup->(∀ x,x∈l↔x∈l')->l.Perm l'
 | [],l',_,_,h=>by
  cases l' with
  | nil=>exact .nil
  | cons a _=>exact absurd ((h a).mpr List.mem_cons_self) (by simp)
 | a::l,l',hn,hn',h=>by
  have ha:a∈l':=(h a).mp List.mem_cons_self
  refine List.Perm.trans (List.Perm.cons a ?_) (List.perm_cons_erase ha).symm
  rw [List.nodup_cons] at hn
  refine zaM hn.2 (hn'.erase a) fun x=>?_
  rw [hn'.mem_erase_iff]
  constructor
  ·intro hx
   exact ⟨fun z=>hn.1 (z ▸ hx),(h x).mp (List.mem_cons_of_mem _ hx)⟩
  ·rintro ⟨h1,h2⟩
   rcases List.mem_cons.mp ((h x).mpr h2) with z | z
   ·exact absurd z h1
   ·exact z
def St0 (mask:Nat)(h:Int)(K:Nat):SetTable.Probe:=⟨(lp mask h K).1,SetTable.runEnd mask (lp mask h K).1 - (lp mask h K).1,(lp mask h K).1,(lp mask h K).2,none⟩
theorem zhv {mask:Nat}{h:Int}{T K:Nat}(e:stp mask h T=St0 mask h K):stp mask h (T+(SetTable.runEnd mask (lp mask h K).1 - (lp mask h K).1)+1)=St0 mask h (K+1):=by
 show (tm mask).advance (stp mask h (T+_))=_
 rw [zdu mask h e _ (Nat.le_refl _),zcM mask _ (Nat.sub_self _)]
 rfl
theorem zox (mask:Nat)(h:Int):∀ K,(lp mask h K).1<=mask
 | 0=>Nat.le_of_lt_succ (Nat.mod_lt _ (Nat.succ_pos _))
 | K+1=>Nat.le_of_lt_succ (Nat.mod_lt _ (Nat.succ_pos _))
theorem zb6 {mask i:Nat}(h:i<=mask):SetTable.runEnd mask i<=mask/\i<=SetTable.runEnd mask i:=by unfold SetTable.runEnd;split <;> lia
theorem zdR {mask:Nat}{h:Int}{owner:Array (Option Nat)}(hs:owner.size=mask+1):∀ (fuel K T:Nat),T<=10 * K->stp mask h T=St0 mask h K->(∀ m,m<T->∃ i',owner[wk mask h m]?=some (some i'))->
  (∃ K',K<=K'/\K'<K+fuel/\owner[(lp mask h K').1]?=some none)->
  ∃ N,SetTable.layClean.free mask owner fuel (lp mask h K).1 (lp mask h K).2=some (wk mask h N)/\N<10 * (K+fuel)/\wk mask h N<=mask/\owner[wk mask h N]?=some none/\∀ m,m<N->∃ i',owner[wk mask h m]?=some (some i')
 | 0,K,T,_,_,_,⟨K',h1,h2,_⟩=>by lia
 | fuel+1,K,T,hT,eT,occ,⟨K',h1,h2,h3⟩=>by
  have hle:=zox mask h K
  obtain ⟨r1,r2⟩:=zb6 hle
  have r9:=zk2 mask (lp mask h K).1
  have a:∀ k,k<=SetTable.runEnd mask (lp mask h K).1 - (lp mask h K).1->wk mask h (T+k)=(lp mask h K).1+k:=fun k hk=>by
   show (stp mask h (T+k)).j=_
   rw [zdu mask h eT k hk]
  have inR:∀ k,k<=SetTable.runEnd mask (lp mask h K).1 - (lp mask h K).1->∃ u,owner[(lp mask h K).1+k]?=some u/\owner.getD ((lp mask h K).1+k) (some 0)=u:=fun k hk=>by
   have f:(lp mask h K).1+k<owner.size:=by lia
   exact ⟨owner[(lp mask h K).1+k],Array.getElem?_eq_getElem f,by simp [f]⟩
  show ∃ N,(match (List.range (SetTable.runEnd mask (lp mask h K).1+1 - (lp mask h K).1)).find? fun k=>(owner.getD ((lp mask h K).1+k) (some 0)).isNone with
   | some k=>some ((lp mask h K).1+k)
   | none=>SetTable.layClean.free mask owner fuel (lp mask h (K+1)).1 (lp mask h (K+1)).2)=some (wk mask h N)/\_
  cases hf:(List.range (SetTable.runEnd mask (lp mask h K).1+1 - (lp mask h K).1)).find? fun k=>(owner.getD ((lp mask h K).1+k) (some 0)).isNone with
  | some k=>
   obtain ⟨hp,i,hi,g,l⟩:=List.find?_eq_some_iff_getElem.mp hf
   rw [List.getElem_range] at g
   subst g
   rw [List.length_range] at hi
   have hk:i<=SetTable.runEnd mask (lp mask h K).1 - (lp mask h K).1:=by lia
   obtain ⟨u,b,c⟩:=inR i hk
   rw [c] at hp
   have p:u=none:=by
    cases u with
    | none=>rfl
    | some z=>exact absurd hp (by simp)
   subst p
   refine ⟨T+i,by rw [a i hk],by lia,by rw [a i hk];lia,by rw [a i hk];exact b,fun m hm=>?_⟩
   by_cases hmT:m<T
   ·exact occ m hmT
   ·obtain ⟨k',rfl⟩:∃ k',m=T+k':=⟨m - T,by lia⟩
    obtain ⟨u,b,c⟩:=inR k' (by lia)
    have:=l k' (by lia)
    rw [List.getElem_range,c] at this
    rw [a k' (by lia),b]
    cases u with
    | none=>simp at this
    | some i'=>exact ⟨i',rfl⟩
  | none=>
   have n:=List.find?_eq_none.mp hf
   have d:∀ k,k<=SetTable.runEnd mask (lp mask h K).1 - (lp mask h K).1->∃ i',owner[(lp mask h K).1+k]?=some (some i'):=fun k hk=>by
    obtain ⟨u,b,c⟩:=inR k hk
    have:=n k (List.mem_range.mpr (by lia))
    rw [c] at this
    cases u with
    | none=>simp at this
    | some i'=>exact ⟨i',b⟩
   have q:K≠K':=fun z=>by
    subst z
    obtain ⟨i',e⟩:=d 0 (Nat.zero_le _)
    rw [Nat.add_zero,h3] at e
    cases e
   have o:∀ m,m<T+(SetTable.runEnd mask (lp mask h K).1 - (lp mask h K).1)+1->∃ i',owner[wk mask h m]?=some (some i'):=fun m hm=>by
    by_cases hmT:m<T
    ·exact occ m hmT
    ·obtain ⟨k',rfl⟩:∃ k',m=T+k':=⟨m - T,by lia⟩
     rw [a k' (by lia)]
     exact d k' (by lia)
   obtain ⟨N,a1,a2,a3⟩:=zdR hs fuel (K+1) _ (by lia) (zhv eT) o ⟨K',by lia,by lia,h3⟩
   exact ⟨N,a1,by lia,a3⟩
structure Own (mask:Nat)(hs:List Int)(n:Nat)(owner:Array (Option Nat)):Prop where
 size:owner.size=mask+1
 lt:∀ (j i:Nat),owner[j]?=some (some i)->i<n
 inj:∀ (j j' i:Nat),owner[j]?=some (some i)->owner[j']?=some (some i)->j=j'
 reach:∀ (i:Nat) (h:Int),i<n->hs[i]?=some h->∃ N,N<10 * SetTable.turns mask/\owner[wk mask h N]?=some (some i)/\∀ m,m<N->∃ i',owner[wk mask h m]?=some (some i')
theorem Own.gap {mask:Nat}{hs:List Int}{n:Nat}{owner:Array (Option Nat)}(o:Own mask hs n owner)(hn:n<=mask):∃ j,j<=mask/\owner[j]?=some none:=by
 refine Classical.byContradiction fun hc=>?_
 have all:∀ j,j<mask+1->∃ i,owner[j]?=some (some i):=fun j hj=>by
  have c:j<owner.size:=by rw [o.size];exact hj
  cases e:owner[j] with
  | none=>exact absurd ⟨j,Nat.le_of_lt_succ hj,by rw [Array.getElem?_eq_getElem c,e]⟩ hc
  | some i=>exact ⟨i,by rw [Array.getElem?_eq_getElem c,e]⟩
 have hl:=zdd n (l:=(List.range (mask+1)).map fun j=>((owner[j]?).join).getD 0) ?_ ?_
 ·rw [List.length_map,List.length_range] at hl
  lia
 ·refine List.pairwise_map.mpr (List.Pairwise.imp_of_mem ?_ List.nodup_range)
  intro a b ha hb f e
  refine f ?_
  obtain ⟨i,hi⟩:=all a (List.mem_range.mp ha)
  obtain ⟨i',d⟩:=all b (List.mem_range.mp hb)
  rw [hi,d] at e
  have:i=i':=e
  subst this
  exact o.inj _ _ _ hi d
 ·intro x hx
  obtain ⟨j,hj,rfl⟩:=List.mem_map.mp hx
  obtain ⟨i,hi⟩:=all j (List.mem_range.mp hj)
  rw [hi]
  exact o.lt _ _ hi
theorem Own.step {mask:Nat}{hs:List Int}{n:Nat}{owner:Array (Option Nat)}{h:Int}(o:Own mask hs n owner)(hr:Ring (mask+1))(hn:n<=mask)(hh:hs[n]?=some h) :
  ∃ j,SetTable.layClean.free mask owner (SetTable.turns mask) (SetTable.bits h % (mask+1)) (SetTable.bits h)=some j/\Own mask hs (n+1) (owner.setIfInBounds j (some n)):=by
 obtain ⟨g,hg,eg⟩:=o.gap hn
 have hb:(lp mask h 13).1<mask+1:=Nat.lt_succ_of_le (zox mask h 13)
 obtain ⟨k,hk,e⟩:=hr.reach hb (Nat.lt_succ_of_le hg)
 obtain ⟨N,h1,h2,h3,h4,h5⟩:=zdR o.size (SetTable.turns mask) 0 0 (Nat.le_refl _) (h:=h) rfl (fun m hm=>absurd hm (Nat.not_lt_zero _)) ⟨13+k,Nat.zero_le _,by unfold SetTable.turns;lia,by rw [zhA,e];exact eg⟩
 have hj:wk mask h N<owner.size:=by rw [o.size];lia
 have b:(owner.setIfInBounds (wk mask h N) (some n))[wk mask h N]?=some (some n):=by
  rw [Array.getElem?_setIfInBounds]
  simp [hj]
 have a:∀ j,j≠wk mask h N->(owner.setIfInBounds (wk mask h N) (some n))[j]?=owner[j]?:=fun j d=>by
  rw [Array.getElem?_setIfInBounds]
  rw [if_neg (fun z=>d z.symm)]
 have keep:∀ j i,owner[j]?=some (some i)->(owner.setIfInBounds (wk mask h N) (some n))[j]?=some (some i):=fun j i e=>by
  by_cases q:j=wk mask h N
  ·rw [q,h4] at e;cases e
  ·rw [a j q];exact e
 refine ⟨wk mask h N,h1,by simp [o.size],fun j i e=>?_,fun j j' i e e'=>?_,fun i h' hi c=>?_⟩
 ·by_cases q:j=wk mask h N
  ·subst q;rw [b] at e;cases e;lia
  ·rw [a j q] at e
   have:=o.lt _ _ e
   lia
 ·by_cases q:j=wk mask h N
  ·subst q
   rw [b] at e
   cases e
   by_cases q':j'=wk mask h N
   ·exact q'.symm
   ·rw [a j' q'] at e'
    have:=o.lt _ _ e'
    lia
  ·rw [a j q] at e
   by_cases q':j'=wk mask h N
   ·subst q'
    rw [b] at e'
    cases e'
    have:=o.lt _ _ e
    lia
   ·rw [a j' q'] at e'
    exact o.inj _ _ _ e e'
 ·by_cases q:i=n
  ·subst q
   rw [hh] at c
   cases c
   refine ⟨N,by unfold SetTable.turns at *;lia,b,fun m hm=>?_⟩
   obtain ⟨i',e⟩:=h5 m hm
   exact ⟨i',keep _ _ e⟩
  ·obtain ⟨M,m1,m2,m3⟩:=o.reach i h' (by lia) c
   refine ⟨M,m1,keep _ _ m2,fun m hm=>?_⟩
   obtain ⟨i',e⟩:=m3 m hm
   exact ⟨i',keep _ _ e⟩
theorem zjN (mask:Nat)(hs:List Int):Own mask hs 0 (Array.replicate (mask+1) none):=by
 have no:∀ j i,(Array.replicate (mask+1) (none:Option Nat))[j]?≠some (some i):=fun j i e=>by
  rw [Array.getElem?_replicate] at e
  split at e <;> cases e
 exact ⟨by simp,fun j i e=>absurd e (no j i),fun j j' i e=>absurd e (no j i),fun i h hi=>absurd hi (Nat.not_lt_zero _)⟩
theorem zfu {mask:Nat}(hr:Ring (mask+1)):∀ (z6 pre:List Int) (owner:Array (Option Nat)),(pre++z6).length<=mask->Own mask (pre++z6) pre.length owner->
  ∃ a,z6.foldl (fun (acc:Option (Array (Option Nat)×Nat)) h=>acc.bind fun x=>(SetTable.layClean.free mask x.1 (SetTable.turns mask) (SetTable.bits h % (mask+1)) (SetTable.bits h)).bind fun j=>some (x.1.setIfInBounds j (some x.2),x.2+1)) (some (owner,pre.length))=some (a,(pre++z6).length)/\Own mask (pre++z6) (pre++z6).length a
 | [],pre,owner,_,o=>by
  rw [List.append_nil] at o ⊢
  exact ⟨owner,rfl,o⟩
 | h::z6,pre,owner,hl,o=>by
  have b:pre.length+(z6.length+1)<=mask:=by rw [List.length_append,List.length_cons] at hl;exact hl
  obtain ⟨j,e,o'⟩:=o.step hr (by lia) (h:=h) (by rw [List.getElem?_append_right (Nat.le_refl _),Nat.sub_self];rfl)
  have e1:pre++h::z6=(pre++[h])++z6:=by rw [List.append_assoc];rfl
  have e2:pre.length+1=(pre++[h]).length:=by rw [List.length_append];rfl
  rw [e1,e2] at o'
  obtain ⟨a,f1,f2⟩:=zfu hr z6 (pre++[h]) _ (by rw [<- e1];exact hl) o'
  refine ⟨a,?_,by rw [e1];exact f2⟩
  rw [List.foldl_cons,e1,<- f1,<- e2]
  congr 1
  show (SetTable.layClean.free mask owner (SetTable.turns mask) (SetTable.bits h % (mask+1)) (SetTable.bits h)).bind _=_
  rw [e]
  rfl
theorem zdZ {mask:Nat}(hr:Ring (mask+1))(hs:Array Int)(hl:hs.size<=mask):∃ owner,SetTable.layClean mask hs=some owner/\Own mask hs.toList hs.size owner:=by
 obtain ⟨owner,h1,h2⟩:=zfu hr hs.toList [] (Array.replicate (mask+1) none) (by rw [List.nil_append,Array.length_toList];exact hl) (zjN mask _)
 rw [List.nil_append,Array.length_toList] at h2
 refine ⟨owner,?_,h2⟩
 unfold SetTable.layClean
 have h1':hs.toList.foldl (fun (acc:Option (Array (Option Nat)×Nat)) h=>acc.bind fun x=>(SetTable.layClean.free mask x.1 (SetTable.turns mask) (SetTable.bits h % (mask+1)) (SetTable.bits h)).bind fun j=>some (x.1.setIfInBounds j (some x.2),x.2+1)) (some (Array.replicate (mask+1) none,0))=some (owner,([]++hs.toList).length):=h1
 rw [<- Array.foldl_toList]
 have:(hs.toList.foldl (init:=some (Array.replicate (mask+1) (none:Option Nat),0)) fun acc h=>do
  let (owner,k) <- acc
  let j <- SetTable.layClean.free mask owner (SetTable.turns mask) (SetTable.bits h % (mask+1)) (SetTable.bits h)
  pure (owner.setIfInBounds j (some k),k+1))=some (owner,([]++hs.toList).length):=h1'
 rw [this]
 rfl
def yx (mask:Nat)(owner:Array (Option Nat)):List (Nat×Nat):=(List.range (mask+1)).filterMap fun j=>(owner.getD j none).map (j,·)
theorem xE {mask:Nat}{hs:List Int}{n:Nat}{owner:Array (Option Nat)}(o:Own mask hs n owner){j i:Nat}:(j,i)∈yx mask owner↔owner[j]?=some (some i):=by
 unfold yx
 rw [List.mem_filterMap]
 constructor
 ·rintro ⟨j',b,e⟩
  obtain ⟨i',e1,e2⟩:=Option.map_eq_some_iff.mp e
  cases e2
  have a:j<owner.size:=by rw [o.size];exact List.mem_range.mp b
  have:owner.getD j none=owner[j]:=by simp [a]
  rw [this] at e1
  rw [Array.getElem?_eq_getElem a,e1]
 ·intro e
  obtain ⟨a,e1⟩:=Array.getElem?_eq_some_iff.mp e
  refine ⟨j,List.mem_range.mpr (by rw [<- o.size];exact a),?_⟩
  have:owner.getD j none=owner[j]:=by simp [a]
  rw [this,e1]
  rfl
theorem zhy (mask:Nat)(owner:Array (Option Nat)):(yx mask owner).Pairwise fun a b=>a.1<b.1:=by
 unfold yx
 refine List.pairwise_filterMap.mpr ((List.pairwise_lt_range).imp ?_)
 intro a b c x hx y hy
 obtain ⟨i,_,rfl⟩:=Option.map_eq_some_iff.mp hx
 obtain ⟨i',_,rfl⟩:=Option.map_eq_some_iff.mp hy
 exact c
theorem zhx {mask:Nat}{hs:List Int}{owner:Array (Option Nat)}(o:Own mask hs hs.length owner):((yx mask owner).map (·.2)).Perm (List.range hs.length):=by
 refine zaM ?_ List.nodup_range fun i=>?_
 ·refine List.pairwise_map.mpr (List.Pairwise.imp_of_mem ?_ (zhy mask owner))
  intro a b ha hb c e
  have h1:=(xE o).mp ha
  have h2:=(xE o).mp hb
  rw [e] at h1
  have:=o.inj _ _ _ h1 h2
  lia
 ·rw [List.mem_range]
  constructor
  ·intro h
   obtain ⟨⟨j,i'⟩,h1,rfl⟩:=List.mem_map.mp h
   exact o.lt _ _ ((xE o).mp h1)
  ·intro h
   obtain ⟨N,_,e,_⟩:=o.reach i hs[i] h (List.getElem?_eq_getElem h)
   exact List.mem_map.mpr ⟨(_,i),(xE o).mpr e,rfl⟩
theorem zb5 {α:Type}(l:List α):(List.range l.length).filterMap (fun i=>l[i]?)=l:=by
 have:∀ (n:Nat) (l:List α),n=l.length->(List.range n).filterMap (fun i=>l[i]?)=l:=by
  intro n
  induction n with
  | zero=>intro l h;cases l with | nil=>rfl | cons _ _=>simp at h
  | succ n ih=>
   intro l h
   cases l with
   | nil=>simp at h
   | cons a l=>
    rw [List.range_succ_eq_map,List.filterMap_cons]
    show a::_=_
    rw [List.filterMap_map]
    congr 1
    exact ih l (by simpa using h)
 exact this _ l rfl
section
variable {prog:Program}{w:World}{t:SetTable}{es:Array (Int×Value)}{xs:List (List Key×Addr)}
theorem Tb.laid (T:Tb prog w t es xs){mask:Nat}(hm:zag mask)(hl:xs.length<=mask)(finger moves:Nat) :
  ∃ t' order xs',SetTable.laid mask finger moves t.led true (es.map (·.1))=some (t',order)/\(order.filterMap (es[·]?)).size=es.size/\Tb prog w t' (order.filterMap (es[·]?)) xs'/\xs'.Perm xs/\t'.mask=mask:=by
 obtain ⟨owner,e,o⟩:=zdZ hm.ring (es.map (·.1)) (by rw [Array.size_map,T.size];exact hl)
 have hh:(es.map (·.1)).toList=xs.map fun q=>(tk prog w).hash q.1:=by
  rw [Array.toList_map,T.eq,List.map_map]
  rfl
 have hsz:(es.map (·.1)).size=xs.length:=by rw [Array.size_map,T.size]
 rw [hh,hsz] at o
 have o':Own mask (xs.map fun q=>(tk prog w).hash q.1) (xs.map fun q=>(tk prog w).hash q.1).length owner:=by rw [List.length_map];exact o
 have hp:=zhx o'
 rw [List.length_map] at hp
 have n:((((yx mask owner).map (·.2)).toArray).filterMap (es[·]?)).toList=((yx mask owner).map (·.2)).filterMap (es.toList[·]?):=by
  rw [Array.toList_filterMap]
  congr 1
  funext i
  exact zaZ es i
 have b:(((yx mask owner).map (·.2)).filterMap (xs[·]?)).Perm xs:=by
  have:=hp.filterMap (xs[·]?)
  rw [zb5] at this
  exact this
 have heq:((yx mask owner).map (·.2)).filterMap (es.toList[·]?)=(((yx mask owner).map (·.2)).filterMap (xs[·]?)).map fun q=>((tk prog w).hash q.1,Value.ref q.2):=by
  rw [List.map_filterMap]
  congr 1
  funext i
  rw [T.eq,List.getElem?_map]
 have f:∀ {c:Nat} {q:List Key×Addr},(((yx mask owner).map (·.2)).filterMap (xs[·]?))[c]?=some q->∃ j i,(yx mask owner)[c]?=some (j,i)/\xs[i]?=some q:=by
  have gen:∀ (l:List (Nat×Nat)),(∀ p∈l,p.2<xs.length)->∀ {c:Nat} {q:List Key×Addr},((l.map (·.2)).filterMap (xs[·]?))[c]?=some q->∃ j i,l[c]?=some (j,i)/\xs[i]?=some q:=by
   intro l
   induction l with
   | nil=>intro _ c q h;simp at h
   | cons p l ih=>
    intro r c q h
    have s:=r p List.mem_cons_self
    rw [List.map_cons,List.filterMap_cons,List.getElem?_eq_getElem s] at h
    cases c with
    | zero=>
     refine ⟨p.1,p.2,rfl,?_⟩
     rw [List.getElem?_eq_getElem s]
     exact h
    | succ c=>exact ih (fun p' x=>r p' (List.mem_cons_of_mem _ x)) (by simpa using h)
  intro c q h
  refine gen _ (fun p hp=>?_) h
  obtain ⟨j,i⟩:=p
  exact o.lt _ _ ((xE o).mp hp)
 have a:∀ {c j i:Nat},(yx mask owner)[c]?=some (j,i)->(((yx mask owner).map (·.1)).toArray)[c]?=some j:=fun {c j i} h=>by
  rw [zaZ]
  show ((yx mask owner).map (·.1))[c]?=_
  rw [List.getElem?_map,h]
  rfl
 refine ⟨_,_,((yx mask owner).map (·.2)).filterMap (xs[·]?),by unfold SetTable.laid;rw [e];rfl,?_,⟨?_,?_,rfl,?_,?_,?_,hm,?_,rfl,by exact T.led,?_⟩,b,rfl⟩
 ·show ((((yx mask owner).map (·.2)).toArray).filterMap (es[·]?)).size=es.size
  rw [<- Array.length_toList,n,heq,List.length_map,b.length_eq,T.size]
 ·exact n.trans heq
 ·rw [(b.map (·.1)).nodup_iff]
  exact T.nd
 ·intro i j u hj
  have k:j<(yx mask owner).length:=by
   have:(((yx mask owner).map (·.1)).toArray).size=(yx mask owner).length:=by simp
   rw [<- this];exact hj
  have v:i<(yx mask owner).length:=Nat.lt_trans u k
  have:=List.pairwise_iff_getElem.mp (zhy mask owner) i j v k u
  show (((yx mask owner).map (·.1)).toArray).getD i 0<(((yx mask owner).map (·.1)).toArray).getD j 0
  have g:∀ {c:Nat} (hc:c<(yx mask owner).length),(((yx mask owner).map (·.1)).toArray).getD c 0=(yx mask owner)[c].1:=fun {c} hc=>(xt (a (c:=c) (j:=(yx mask owner)[c].1) (i:=(yx mask owner)[c].2) (List.getElem?_eq_getElem hc))).2
  rw [g v,g k]
  exact this
 ·intro c j hc
  have d:((yx mask owner).map (·.1))[c]?=some j:=by rw [zaZ] at hc;exact hc
  rw [List.getElem?_map] at d
  obtain ⟨⟨j',i'⟩,h1,rfl⟩:=Option.map_eq_some_iff.mp d
  have h2:=(xE o).mp (List.mem_of_getElem? h1)
  have:=(Array.getElem?_eq_some_iff.mp h2).1
  rw [o.size] at this
  show j'<=mask
  lia
 ·show (((yx mask owner).map (·.1)).toArray).size=_
  have h1:(((yx mask owner).map (·.1)).toArray).size=(yx mask owner).length:=by simp
  rw [h1,b.length_eq]
  have:=hp.length_eq
  rw [List.length_map,List.length_range] at this
  exact this
 ·rw [b.length_eq]
  exact hl
 ·intro c q hq
  obtain ⟨j,i,h1,h2⟩:=f hq
  have hi:=(List.getElem?_eq_some_iff.mp h2).1
  obtain ⟨N,n1,n2,n3⟩:=o.reach i ((tk prog w).hash q.1) hi (by rw [List.getElem?_map,h2];rfl)
  have hj:=o.inj _ _ _ ((xE o).mp (List.mem_of_getElem? h1)) n2
  subst hj
  refine ⟨N,n1,a h1,fun m y=>?_⟩
  obtain ⟨i',e'⟩:=n3 m y
  obtain ⟨c',d,z⟩:=List.mem_iff_getElem.mp ((xE o).mpr e')
  exact ⟨c',a (by rw [List.getElem?_eq_getElem d,z])⟩
end
section
variable {prog:Program}{w:World}{t:SetTable}{es:Array (Int×Value)}{xs:List (List Key×Addr)}{A:Around}{E:Value->Shared->Prop}{s:Shared}
def zep (prog:Program)(w:World)(h:Heap)(a:Addr)(xs:List (List Key×Addr)):Prop:=∃ o es ep t,h.get? a=some o/\o.ExactSet/\o.data = .set es ep t/\Tb prog w t es xs/\xs.length * 5<t.mask * 3
theorem zbo {ns:List Int}{b:Addr}{Q:Bool->Shared->Prop}(hk:(tk prog w).is s.heap (ns.map Sum.inl) b)(h:Q true s):wpAny (model prog w) A (hashByValue 8 (.ref b)) Q E s:=by
 have c:IsTupleKey (zL prog w) s.heap (ns.map Sum.inl) b:=hk
 have hT:=c.typeIs
 obtain ⟨o,items,n,ho,_,hd,hi⟩:=c
 have hints:∀ {ns:List Int} {vs:List Value},ItemsAre (zL prog w) (ns.map Sum.inl) vs->∀ v∈vs,∃ i t,v=Value.int i t:=by
  intro ns
  induction ns with
  | nil=>intro vs h v hv;cases h;simp at hv
  | cons n ns ih=>
   intro vs h v hv
   cases h with
   | cons h1 h2=>
    rcases List.mem_cons.mp hv with rfl | hv
    ·have d:zeQ (Sum.inl n) v=true:=h1
     rcases zQ d with ⟨i,t,_,e⟩ | ⟨x,t,z,_⟩
     ·exact ⟨i,t,e⟩
     ·cases z
    ·exact ih h2 v hv
 unfold hashByValue
 refine wpAny_bind (wpAny_specialOf hT F.slot_tuple_hash.lookup ?_)
 dsimp only
 refine wpAny_bind (wpAny_seqItems ho hd ?_)
 refine wpAny_bind ?_
 show wpAny _ _ (forIn items _ _) _ _ s
 rw [<- Array.forIn_toList]
 refine wpAny_forIn_list _ (fun z6 r s'=>r.1=none/\s'=s/\∀ v∈z6,∃ i t,v=Value.int i t) _ ?_ ?_ _ _ ⟨rfl,rfl,hints hi⟩
 ·rintro v z6 r s' ⟨hr,rfl,a⟩
  obtain ⟨i,t,rfl⟩:=a v List.mem_cons_self
  have e:hashByValue 7 (Value.int i t)=pure true:=rfl
  rw [e]
  refine wpAny_bind (wpAny_pure ?_)
  simp only [Bool.not_true,Bool.false_eq_true,if_false]
  exact wpAny_pure ⟨rfl,rfl,fun u f=>a u (List.mem_cons_of_mem _ f)⟩
 ·rintro ⟨r1,r2⟩ s' ⟨hr,rfl,_⟩
  simp only at hr
  subst hr
  exact wpAny_pure h
theorem zcC {h:Heap}{a:Addr}{o:Obj}{es:Array (Int×Value)}{ep:Nat}{t:SetTable}{es':Array (Int×Value)}{t':SetTable}(ho:h.get? a=some o)(hd:o.data = .set es ep t) :
  (h.update a (Obj.putSet es' t')).get? a=some { o with data:=.set es' (ep+1) t' }:=by
 have:=Heap.get?_update_self (Obj.putSet es' t') ho (by rw [putSet_of es' t' hd];rfl)
 rw [putSet_of es' t' hd] at this
 exact this
theorem zj9 {a:Addr}{o:Obj}{ep wanted mask:Nat}{Q:Unit->Shared->Prop}(T:Tb prog w t es xs)(ho:s.heap.get? a=some o)(hx:o.ExactSet)(hd:o.data = .set es ep t)(hw:SetTable.sizeAbove wanted=mask+1)(hm:zag mask)(hl:xs.length * 5<mask * 3)
  (h:∀ h' xs',Heap.SameBut a s.heap h'->zep prog w h' a xs'->xs'.Perm xs->Q () { s with heap:=h' }):wpAny (model prog w) A (setRelay a wanted) Q E s:=by
 unfold setRelay
 refine wpAny_bind (wpAny_setState_of ho hd T.fits ?_)
 dsimp only
 have:=hm.le
 rw [if_neg (by rw [hw,sizeLine_eq];lia)]
 obtain ⟨t',order,xs',e,hsz,T',hp,hmk⟩:=T.laid hm (by lia) t.finger (t.movedTo mask)
 have e':t.relaid (es.map (·.1)) wanted=some (t',order):=by
  unfold SetTable.relaid
  rw [hw,T.plain]
  exact e
 have core:∀ {R:Array (Int×Value)×SetTable->Shared->Prop},R (order.filterMap (es[·]?),t') s->wpAny (model prog w) A (do
   let some (t,order):=t.relaid (es.map (·.1)) wanted | unsupported "internal:set-table-without-room"
   let es':=order.filterMap (es[·]?)
   if es'.size != es.size then unsupported "internal:set-table-lost-an-element"
   pure (es',t)) R E s:=fun {R} hR=>by
  rw [e']
  dsimp only
  rw [hsz]
  simp only [bne_self_eq_false,Bool.false_eq_true,if_false]
  first | exact wpAny_pure hR | exact wpAny_bind (wpAny_pure (wpAny_pure hR))
 refine wpAny_bind (core ?_)
 refine wpAny_storeSet_of ho hd ?_ (by rw [hsz,T.size,sizeLine_eq];lia)
 refine h _ xs' (Heap.SameBut.update _ a _) ⟨_,_,_,t',zcC ho hd,hx,rfl,T',?_⟩ hp
 rw [hp.length_eq,hmk]
 exact hl
theorem znO {a b:Addr}{ns:List Int}{Q:Bool->Shared->Prop}(hu:A.units<cLine)(S:zep prog w s.heap a xs)(hk:(tk prog w).is s.heap (ns.map Sum.inl) b)(hel:∀ q∈xs,(tk prog w).is s.heap q.1 q.2)(hn:xs.length<300)
  (h:∀ r h' n xs',Heap.SameBut a s.heap h'->zep prog w h' a xs'->((ns.map Sum.inl)∈xs.map (·.1)->xs'=xs)->((ns.map Sum.inl)∉xs.map (·.1)->xs'.Perm ((ns.map Sum.inl,b)::xs))->Q r { s with heap:=h',toks:=n }) :
  wpAny (model prog w) A (setAdd a (.ref b)) Q E s:=by
 obtain ⟨o,es,ep,t,ho,hx,hd,T,c⟩:=S
 unfold setAdd
 refine wpAny_holding (wpAny_bind ((tk prog w).pyHash hu hk ?_))
 unfold setAddHashed
 refine wpAny_holding ?_
 rw [show (100000:Nat)=99999+1 from rfl]
 unfold setAddHashedIn
 refine wpAny_bind (wpAny_setState_of (s:={ s with toks:=s.toks+(tk prog w).draws (ns.map Sum.inl) }) ho hd T.fits ?_)
 dsimp only
 rw [show byScan (.ref b) es=false from rfl]
 simp only [Bool.false_eq_true,if_false]
 unfold setSearch
 have hm:=T.msk.le
 have H:t.fill=xs.length:=by unfold SetTable.fill;rw [T.sz,T.dm];rfl
 refine wpAny_bind (zeb (s:={ s with toks:=s.toks+(tk prog w).draws (ns.map Sum.inl) }) hu T hk hel ho hd ?found ?free 100000 0 none rfl (by unfold SetTable.turns;lia) (Nat.zero_le _) (fun m hm=>absurd hm (Nat.not_lt_zero _)))
 case found=>
  intro r i q hq f _
  dsimp only
  have x:(ns.map Sum.inl)∈xs.map (·.1):=List.mem_map.mpr ⟨q,List.mem_of_getElem? hq,f⟩
  exact wpAny_pure (h false s.heap _ xs (Heap.SameBut.refl a s.heap) ⟨o,es,ep,t,ho,hx,hd,T,c⟩ (fun _=>rfl) (fun z=>absurd x z))
 case free=>
  intro N hN he hp
  have l:(ns.map Sum.inl)∉xs.map (·.1):=fun z=>by
   obtain ⟨q,hq,f⟩:=List.mem_map.mp z
   obtain ⟨i,hi⟩:=List.mem_iff_getElem?.mp hq
   obtain ⟨n,h1,h2,h3⟩:=T.reach i q hi
   rw [f] at h2 h3
   rcases Nat.lt_trichotomy N n with z | z | z
   ·obtain ⟨i',e⟩:=h3 N z
    exact he i' e
   ·subst z;exact he i h2
   ·obtain ⟨i',q',e1,e2,e3⟩:=hp n z
    have:i'=i:=by
     have a1:=zaQ T.ris e1
     have a2:=zaQ T.ris h2
     rw [a1] at a2
     cases a2
     rfl
    subst this
    rw [hi] at e2
    cases e2
    exact e3 f
  dsimp only
  refine wpAny_bind (wpAny_setState_of (s:={ s with toks:=s.toks+(tk prog w).draws (ns.map Sum.inl) }) ho hd T.fits ?_)
  dsimp only
  have y:wk t.mask ((tk prog w).hash (ns.map Sum.inl)) N<=t.mask:=by
   have:∀ (h:Int) (n:Nat),wk t.mask h n<=t.mask/\(stp t.mask h n).j+(stp t.mask h n).more<=t.mask:=by
    intro h n
    induction n with
    | zero=>
     have h0:SetTable.bits h % (t.mask+1)<=t.mask:=Nat.le_of_lt_succ (Nat.mod_lt _ (Nat.succ_pos _))
     obtain ⟨r1,r2⟩:=zb6 h0
     refine ⟨h0,?_⟩
     show SetTable.bits h % (t.mask+1)+(SetTable.runEnd t.mask (SetTable.bits h % (t.mask+1)) - SetTable.bits h % (t.mask+1))<=t.mask
     lia
    | succ n ih=>
     show ((tm t.mask).advance (stp t.mask h n)).j<=t.mask/\((tm t.mask).advance (stp t.mask h n)).j+((tm t.mask).advance (stp t.mask h n)).more<=t.mask
     by_cases hmr:0<(stp t.mask h n).more
     ·rw [zfh _ _ hmr]
      show (stp t.mask h n).j+1<=t.mask/\(stp t.mask h n).j+1+((stp t.mask h n).more - 1)<=t.mask
      lia
     ·rw [zcM _ _ (by lia)]
      have h0:((stp t.mask h n).i * 5+1+(stp t.mask h n).perturb / 32) % (t.mask+1)<=t.mask:=Nat.le_of_lt_succ (Nat.mod_lt _ (Nat.succ_pos _))
      obtain ⟨r1,r2⟩:=zb6 h0
      refine ⟨h0,?_⟩
      dsimp only
      lia
   exact (this _ _).1
  obtain ⟨C,T1,u⟩:=T.put (b:=b) hN he hp l (by lia) y
  generalize hput:t.put (wk t.mask ((tk prog w).hash (ns.map Sum.inl)) N)=tp at T1
  obtain ⟨t1,p⟩:=tp
  dsimp only at T1 ⊢
  have v:t1.mask=t.mask:=by
   have:t1=(t.put (wk t.mask ((tk prog w).hash (ns.map Sum.inl)) N)).1:=by rw [hput]
   rw [this]
   rfl
  rw [T1.plain]
  simp only [if_true]
  refine wpAny_bind (zbo (s:={ s with toks:=s.toks+(tk prog w).draws (ns.map Sum.inl) }) hk ?_)
  simp only [if_true]
  have g:=u.length_eq
  rw [List.length_cons] at g
  refine wpAny_bind (wpAny_storeSet_of (s:={ s with toks:=s.toks+(tk prog w).draws (ns.map Sum.inl) }) ho hd ?_ (by rw [T1.size,sizeLine_eq];lia))
  have g1:=zcC (es':=SetTable.insertAt es p ((tk prog w).hash (ns.map Sum.inl),.ref b)) (t':=t1) ho hd
  have B:=Heap.SameBut.update s.heap a (Obj.putSet (SetTable.insertAt es p ((tk prog w).hash (ns.map Sum.inl),.ref b)) t1)
  simp only [Bool.not_false,Bool.true_and]
  have k:t1.fill=xs.length+1:=by unfold SetTable.fill;rw [T1.sz,T1.dm,g];rfl
  by_cases hf:t1.tooFull=true
  ·rw [if_pos hf]
   unfold SetTable.tooFull at hf
   rw [k,v] at hf
   have d:=of_decide_eq_true hf
   rw [T.size]
   have next:∃ mask,SetTable.sizeAbove (SetTable.grown (xs.length+1))=mask+1/\zag mask/\(xs.length+1) * 5<mask * 3:=by
    rcases T.msk with e | e | e | e
    ·rw [e] at d c
     have:xs.length=4:=by lia
     rw [this]
     exact ⟨31,by decide,.inr (.inl rfl),by lia⟩
    ·rw [e] at d c
     have:xs.length=18:=by lia
     rw [this]
     exact ⟨127,by decide,.inr (.inr (.inl rfl)),by lia⟩
    ·rw [e] at d c
     have:xs.length=76:=by lia
     rw [this]
     exact ⟨511,by decide,.inr (.inr (.inr rfl)),by lia⟩
    ·rw [e] at d c
     lia
   obtain ⟨mask,m1,m2,m3⟩:=next
   refine wpAny_bind (zj9 (s:={ s with heap:=s.heap.update a (Obj.putSet (SetTable.insertAt es p ((tk prog w).hash (ns.map Sum.inl),.ref b)) t1),toks:=s.toks+(tk prog w).draws (ns.map Sum.inl) }) T1 g1 hx rfl m1 m2 (by rw [g];exact m3) fun h' D F S2 G=>?_)
   exact wpAny_pure (h true h' _ D (B.trans F) S2 (fun z=>absurd z l) fun _=>G.trans u)
  ·rw [if_neg hf]
   unfold SetTable.tooFull at hf
   rw [k,v] at hf
   have d:¬ ((xs.length+1) * 5 ≥ t.mask * 3):=fun z=>hf (decide_eq_true z)
   refine wpAny_pure (h true _ _ C B ⟨_,_,_,t1,g1,hx,rfl,T1,?_⟩ (fun z=>absurd z l) fun _=>u)
   rw [g,v]
   lia
end
open PySem PySem.Spec PyProof.Rows PySem.W
theorem zP:Slot "set_iterator" "__next__" "set_iterator.__next__" :=
 .of (owner := "set_iterator") (n := "__next__") (by rw [typeLookup_type,builtinLookup_eq_fast];kernel_rfl) (by decide +kernel) (by decide +kernel) (by decide +kernel)
  (by first | exact .inl (by decide +kernel) | exact .inr (by decide +kernel)) (by rw [isSubtype_type];kernel_rfl)
theorem ub:Slot "set_iterator" "__iter__" "set_iterator.__iter__" :=
 .of (owner := "set_iterator") (n := "__iter__") (by rw [typeLookup_type,builtinLookup_eq_fast];kernel_rfl) (by decide +kernel) (by decide +kernel) (by decide +kernel)
  (by first | exact .inl (by decide +kernel) | exact .inr (by decide +kernel)) (by rw [isSubtype_type];kernel_rfl)
theorem xC:entryFor table "set_iterator.__next__" = some Builtin.«set_iterator.__next__»:=entryFor_of_tree (by kernel_rfl)
theorem zaA:entryFor table "set_iterator.__iter__" = some Builtin.«dict_keyiterator.__iter__»:=entryFor_alias (id' := "dict_keyiterator.__iter__") (by kernel_rfl) rfl (by decide +kernel) (by kernel_rfl)
theorem zcb:entryFor table "set.__iter__" = some Builtin.«frozenset.__iter__»:=entryFor_alias (id' := "frozenset.__iter__") (by kernel_rfl) rfl (by decide +kernel) (by kernel_rfl)
theorem xV (a:Value):argsOk "set_iterator.__next__" ⟨[a],[]⟩:=by unfold argsOk;kernel_rfl
theorem zaY (a:Value):argsOk "set_iterator.__iter__" ⟨[a],[]⟩:=by unfold argsOk;kernel_rfl
theorem zg7 {α:Type}(next:Nat->Nat):∀ (n k:Nat) (left:List α) (out:Array α),left.length=n->(pickOrder.go next n k left out).toList.Perm (out.toList++left)
 | 0,k,left,out,h=>by
  have:left=[]:=List.eq_nil_of_length_eq_zero h
  subst this
  show out.toList.Perm (out.toList++[])
  rw [List.append_nil]
 | n+1,k,left,out,h=>by
  have a:next k % left.length<left.length:=Nat.mod_lt _ (by lia)
  show (match left[next k % left.length]? with
   | some x=>pickOrder.go next n (k+1) (left.eraseIdx (next k % left.length)) (out.push x)
   | none=>out).toList.Perm _
  rw [List.getElem?_eq_getElem a]
  refine (zg7 next n (k+1) _ _ (by rw [List.length_eraseIdx_of_lt a];lia)).trans ?_
  rw [Array.toList_push,List.append_assoc]
  refine List.Perm.append_left _ ?_
  have e:left=left.take (next k % left.length)++left[next k % left.length]::left.drop (next k % left.length+1):=by
   rw [<- List.drop_eq_getElem_cons a]
   exact (List.take_append_drop _ _).symm
  rw [List.eraseIdx_eq_take_drop_succ]
  refine List.Perm.trans ?_ (List.Perm.of_eq e.symm)
  rw [List.singleton_append]
  exact List.perm_middle.symm
theorem zd8 {α:Type}(next:Nat->Nat)(xs:Array α):(pickOrder next xs).toList.Perm xs.toList:=by
 show (pickOrder.go next xs.size 0 xs.toList #[]).toList.Perm _
 have:=zg7 next xs.size 0 xs.toList #[] (Array.length_toList)
 rwa [show (#[]:Array α).toList++xs.toList=xs.toList from rfl] at this
section
variable {prog:Program}{w:World}{t:SetTable}{es:Array (Int×Value)}{xs:List (List Key×Addr)}{A:Around}{E:Value->Shared->Prop}{s:Shared}
def zjM (w:World)(a:Addr)(ep:Nat)(es:Array (Int×Value)):Array (Int×Value):=if w.params.followText "set-order" then pickOrder (w.params.setOrder a ep) es else es
theorem zd7 (a:Addr)(ep:Nat):(zjM w a ep es).toList.Perm es.toList:=by
 unfold zjM
 split
 ·exact zd8 _ _
 ·exact List.Perm.refl _
def yg (h:Heap)(it a:Addr)(slot i n ep:Nat):Prop:=∃ o,h.get? it=some o/\o.cls = .type "set_iterator" /\ o.data = .fields #[.int slot 0,.int i 0,.ref a,.int n 0,.int ep 0]
theorem yg.typeIs {it a:Addr}{slot i n ep:Nat}(x:yg s.heap it a slot i n ep):s.TypeIs (.ref it) "set_iterator" := let ⟨o,ho,hc,_⟩:=x;⟨o,ho,hc⟩
structure SetIs (prog:Program)(w:World)(h:Heap)(a:Addr)(es:Array (Int×Value))(ep:Nat)(t:SetTable)(xs:List (List Key×Addr)):Prop where
 ob:∃ o,h.get? a=some o/\o.ExactSet/\o.data = .set es ep t
 tb:Tb prog w t es xs
theorem zhQ {it a:Addr}{slot i ep:Nat}{e:Int×Value}{Q:Option Value->Shared->Prop}(hit:yg s.heap it a slot i es.size ep)(S:SetIs prog w s.heap a es ep t xs)
  (hs:w.params.followText "set-order" = true\/SetTable.below t.place slot=i) (hx:(zjM w a ep es)[i]?=some e)
  (hQ:∀ h' slot',yg h' it a slot' (i+1) es.size ep->(w.params.followText "set-order" = true\/SetTable.below t.place slot'=i+1)->Heap.SameBut it s.heap h'->Q (some e.2) { s with heap:=h' }):wpAny (model prog w) A (pyNext (.ref it)) Q E s:=by
 obtain ⟨o,ho,hc,hd⟩:=id hit
 obtain ⟨⟨os,hos,_,hds⟩,T⟩:=S
 have hf:=T.fits
 unfold pyNext
 refine wpAny_bind (wpAny_attempt (wpAny_callSpecial?_slot (name:=Str.ofString "__next__") hit.typeIs zP
  (wpAny_call_entry zP hit.typeIs xC ?_ (xV _))))
 refine wpAny_bind (wpAny_pure ?_)
 refine wpAny_bind (wpAny_fieldsOf ho hd ?_)
 dsimp only
 refine wpAny_bind (wpAny_setEntries_of hos hds hf ?_)
 rw [if_neg (by simp)]
 have upd2:∀ slot':Nat,∃ h',yg h' it a slot' (i+1) es.size ep/\Heap.SameBut it s.heap h'/\∀ {A':Around} {E':Value->Shared->Prop} {α:Type} {f:Sem α} {R:α->Shared->Prop},wpAny (model prog w) A' f R E' { s with heap:=h' }->wpAny (model prog w) A' (do setField (.ref it) 0 (rawInt slot');setField (.ref it) 1 (rawInt ((i:Int)+1));f) R E' s:=by
  intro slot'
  have h1:(s.heap.update it (Obj.mapFields (·.setIfInBounds 0 (rawInt slot')))).get? it=some (Obj.mapFields (·.setIfInBounds 0 (rawInt slot')) o):=Heap.get?_update_self _ ho (Obj.isFreed_of_fields (Obj.data_mapFields hd _))
  have hd1:(Obj.mapFields (·.setIfInBounds 0 (rawInt slot')) o).data = .fields #[.int slot' 0,.int i 0,.ref a,.int es.size 0,.int ep 0]:=by rw [Obj.data_mapFields hd];simp [rawInt]
  refine ⟨(s.heap.update it (Obj.mapFields (·.setIfInBounds 0 (rawInt slot')))).update it (Obj.mapFields (·.setIfInBounds 1 (rawInt ((i:Int)+1)))),⟨_,Heap.get?_update_self _ h1 (Obj.isFreed_of_fields (Obj.data_mapFields hd1 _)),?_,?_⟩,(Heap.SameBut.update ..).trans (Heap.SameBut.update ..),fun {A' E' α f R} hR=>?_⟩
  ·rw [Obj.cls_mapFields,Obj.cls_mapFields];exact hc
  ·rw [Obj.data_mapFields hd1];simp [rawInt]
  ·exact wpAny_bind (wpAny_setField ho hd (by simp) (wpAny_bind (wpAny_setField (s:={ s with heap:=s.heap.update it (Obj.mapFields (·.setIfInBounds 0 (rawInt slot'))) }) h1 hd1 (by simp) hR)))
 unfold setNext
 cases hb:w.params.followText "set-order" with
 | true=>
  have hx':(pickOrder (w.params.setOrder a ep) es)[i]?=some e:=by
   unfold zjM at hx
   rw [if_pos hb] at hx
   exact hx
  obtain ⟨h',hi',sb',step⟩:=upd2 slot
  refine wpAny_bind ?_
  refine wpAny_bind (wpAny_setState_of hos hds hf ?_)
  dsimp only
  unfold setsByText
  refine wpAny_bind (wpAny_bind (wpAny_askSetting (wpAny_pure ?_)))
  rw [show (model prog w).w=w from rfl,hb]
  simp only [if_true]
  rw [if_neg (by simp)]
  unfold setWalk
  refine wpAny_bind ?_
  refine wpAny_bind (wpAny_setState_of hos hds hf ?_)
  dsimp only
  unfold setsByText
  refine wpAny_bind (wpAny_bind (wpAny_askSetting (wpAny_pure ?_)))
  rw [show (model prog w).w=w from rfl,hb]
  simp only [if_true]
  refine wpAny_bind (wpAny_askSetting (wpAny_pure ?_))
  refine wpAny_pure ?_
  rw [show (model prog w).w=w from rfl]
  simp only [Int.toNat_natCast]
  rw [hx']
  dsimp only [Option.map]
  exact step (wpAny_pure ⟨_,rfl,wpAny_pure (hQ h' slot hi' (.inl hb) sb')⟩)
 | false=>
  have hx':es[i]?=some e:=by
   unfold zjM at hx
   rw [if_neg (by rw [hb];exact Bool.false_ne_true)] at hx
   exact hx
  have hsl:SetTable.below t.place slot=i:=by
   rcases hs with z | z
   ·rw [hb] at z;cases z
   ·exact z
  have hi:i<es.size:=(Array.getElem?_eq_some_iff.mp hx').1
  have hpl:t.place[i]?=some (t.place.getD i 0):=zeG (by rw [T.sz,<- T.size];exact hi)
  obtain ⟨h',hi',sb',step⟩:=upd2 (t.place.getD i 0+1)
  refine wpAny_bind ?_
  refine wpAny_bind (wpAny_setState_of hos hds hf ?_)
  dsimp only
  unfold setsByText
  refine wpAny_bind (wpAny_bind (wpAny_askSetting (wpAny_pure ?_)))
  rw [show (model prog w).w=w from rfl,hb]
  simp only [Bool.false_eq_true,if_false]
  rw [if_neg (by show ¬ ((!t.plain&&decide (es.size > 1))=true);rw [T.plain];simp)]
  refine wpAny_bind ?_
  show wpAny _ _ (if (!t.led&&!es.isEmpty)=true then unsupported "set:maker-not-led" else pure ()) _ _ s
  rw [if_neg (by rw [T.led,hb];simp)]
  refine wpAny_pure ?_
  simp only [Int.toNat_natCast]
  rw [hsl,hx',hpl]
  refine wpAny_pure ?_
  dsimp only
  refine step (wpAny_pure ⟨_,rfl,wpAny_pure (hQ h' _ hi' (.inr ?_) sb')⟩)
  obtain ⟨b1,b2,b3⟩:=xW T.ris (t.place.getD i 0+1)
  have hi2:=(xt hpl).1
  rcases Nat.lt_trichotomy (SetTable.below t.place (t.place.getD i 0+1)) (i+1) with z | z | z
  ·have:=b3 i (by lia) hi2
   lia
  ·exact z
  ·have h1:=b2 (i+1) z
   have h2:=T.ris i (i+1) (Nat.lt_succ_self i) (by lia)
   lia
theorem zjF {it a:Addr}{slot ep:Nat}{Q:Option Value->Shared->Prop}(hh:A.handled=none)(hit:yg s.heap it a slot es.size es.size ep)(S:SetIs prog w s.heap a es ep t xs)
  (hs:w.params.followText "set-order" = true\/SetTable.below t.place slot=es.size)
  (hQ:∀ h',Heap.ExtBut it s.heap h'->Q none { s with heap:=h' }):wpAny (model prog w) A (pyNext (.ref it)) Q E s:=by
 obtain ⟨o,ho,hc,hd⟩:=id hit
 obtain ⟨⟨os,c,_,d⟩,T⟩:=S
 have hf:=T.fits
 unfold pyNext
 refine wpAny_bind (wpAny_attempt (wpAny_callSpecial?_slot (name:=Str.ofString "__next__") hit.typeIs zP
  (wpAny_call_entry zP hit.typeIs xC ?_ (xV _))))
 refine wpAny_bind (wpAny_pure ?_)
 refine wpAny_bind (wpAny_fieldsOf ho hd ?_)
 dsimp only
 refine wpAny_bind (wpAny_setEntries_of c d hf ?_)
 rw [if_neg (by simp)]
 unfold setNext
 refine wpAny_bind ?_
 refine wpAny_bind (wpAny_setState_of c d hf ?_)
 dsimp only
 unfold setsByText
 refine wpAny_bind (wpAny_bind (wpAny_askSetting (wpAny_pure ?_)))
 cases hb:w.params.followText "set-order" with
 | true=>
  rw [show (model prog w).w=w from rfl,hb]
  simp only [if_true]
  rw [if_neg (by simp)]
  unfold setWalk
  refine wpAny_bind ?_
  refine wpAny_bind (wpAny_setState_of c d hf ?_)
  dsimp only
  unfold setsByText
  refine wpAny_bind (wpAny_bind (wpAny_askSetting (wpAny_pure ?_)))
  rw [show (model prog w).w=w from rfl,hb]
  simp only [if_true]
  refine wpAny_bind (wpAny_askSetting (wpAny_pure ?_))
  refine wpAny_pure ?_
  rw [show (model prog w).w=w from rfl]
  simp only [Int.toNat_natCast]
  have hn:(pickOrder (w.params.setOrder a ep) es)[es.size]?=none:=by
   rw [zaZ]
   refine List.getElem?_eq_none ?_
   rw [(zd8 _ es).length_eq,Array.length_toList]
   exact Nat.le_refl _
  rw [hn]
  dsimp only [Option.map]
  refine wpAny_bind (wpAny_setField ho hd (by simp) ?_)
  show wpAny _ _ (newExc (.type "StopIteration") [] >>= _) _ _ _
  refine wpAny_bind ?_
  simp only [newExc,newTuple]
  refine wpAny_bind (wpAny_newObj_type ?_ (by size_fits))
  refine wpAny_bind (m:=firstArgMember _ _) (wpAny_of_eq (a:=Value.none) (by first | rfl | (simp only [firstArgMember];rfl)) ?_)
  refine wpAny_newObj_type ?_ (by size_fits)
  simp only [raiseNew]
  refine wpAny_bind (wpAny_handled ?_)
  rw [show A.in1.handled=none from hh]
  refine wpAny_bind (wpAny_pure (wpAny_throw ?_))
  refine wpAny_bind (wpAny_isInstance (T := "StopIteration") (b:=true) ⟨_,Heap.get?_push_size _ rfl,rfl⟩ isSubtype_stop ?_)
  exact wpAny_pure (hQ _ (((Heap.SameBut.update ..).extBut.push _).push _))
 | false=>
  have e:SetTable.below t.place slot=es.size:=by
   rcases hs with z | z
   ·rw [hb] at z;cases z
   ·exact z
  rw [show (model prog w).w=w from rfl,hb]
  simp only [Bool.false_eq_true,if_false]
  rw [if_neg (by show ¬ ((!t.plain&&decide (es.size > 1))=true);rw [T.plain];simp)]
  refine wpAny_bind ?_
  show wpAny _ _ (if (!t.led&&!es.isEmpty)=true then unsupported "set:maker-not-led" else pure ()) _ _ s
  rw [if_neg (by rw [T.led,hb];simp)]
  refine wpAny_pure ?_
  simp only [Int.toNat_natCast]
  rw [e,Array.getElem?_eq_none (Nat.le_refl _)]
  refine wpAny_pure ?_
  dsimp only
  refine wpAny_bind (wpAny_setField ho hd (by simp) ?_)
  show wpAny _ _ (newExc (.type "StopIteration") [] >>= _) _ _ _
  refine wpAny_bind ?_
  simp only [newExc,newTuple]
  refine wpAny_bind (wpAny_newObj_type ?_ (by size_fits))
  refine wpAny_bind (m:=firstArgMember _ _) (wpAny_of_eq (a:=Value.none) (by first | rfl | (simp only [firstArgMember];rfl)) ?_)
  refine wpAny_newObj_type ?_ (by size_fits)
  simp only [raiseNew]
  refine wpAny_bind (wpAny_handled ?_)
  rw [show A.in1.handled=none from hh]
  refine wpAny_bind (wpAny_pure (wpAny_throw ?_))
  refine wpAny_bind (wpAny_isInstance (T := "StopIteration") (b:=true) ⟨_,Heap.get?_push_size _ rfl,rfl⟩ isSubtype_stop ?_)
  exact wpAny_pure (hQ _ (((Heap.SameBut.update ..).extBut.push _).push _))
theorem zhh {it a:Addr}{slot i n ep:Nat}{Q:Value->Shared->Prop}(hit:yg s.heap it a slot i n ep)(h:Q (.ref it) s):wpAny (model prog w) A (pyIter (.ref it)) Q E s:=by
 refine wpAny_pyIter_slot hit.typeIs ub (wpAny_call_entry ub hit.typeIs zaA ?_ (zaY _))
 show wpAny _ _ (ret (.ref it)) _ _ s
 exact wpAny_pure ⟨_,rfl,"set_iterator",_,hit.typeIs,zP.lookup,h⟩
theorem SetIs.typeIs {a:Addr}{ep:Nat}(S:SetIs prog w s.heap a es ep t xs):s.TypeIs (.ref a) "set" := let ⟨o,ho,hc,_⟩:=S.ob;⟨o,ho,hc.1⟩
theorem zjk {a:Addr}{ep:Nat}{Q:Value->Shared->Prop}(S:SetIs prog w s.heap a es ep t xs)
  (h:Q (.ref s.heap.objs.size) { s with heap:=s.heap.push { cls:=.type "set_iterator",data:=.fields #[.int 0 0,.int 0 0,.ref a,.int es.size 0,.int ep 0] } }):wpAny (model prog w) A (pyIter (.ref a)) Q E s:=by
 have hT:=S.typeIs
 obtain ⟨⟨os,b,hx,c⟩,T⟩:=S
 have hf:=T.fits
 refine wpAny_pyIter_slot hT F.slot_set_iter (wpAny_call_entry F.slot_set_iter hT zcb ?_ (F.args_set_iter_1 _))
 unfold Builtin.«frozenset.__iter__»
 refine wpAny_bind (m:=Builtin.Frozenset.slot0 "__iter__" ⟨[.ref a],[]⟩) (wpAny_pure ?_)
 refine wpAny_bind ?_
 unfold Builtin.Frozenset.sizeOf
 refine wpAny_bind (wpAny_setEntries_of b c hf (wpAny_pure ?_))
 refine wpAny_bind ?_
 unfold setDrawn
 refine wpAny_bind (wpAny_setState_of b c hf ?_)
 dsimp only
 unfold setsByText
 refine wpAny_bind (wpAny_bind (wpAny_askSetting (wpAny_pure ?_)))
 refine wpAny_pure ?_
 rw [if_neg (by show ¬ ((!_&&(!t.plain&&decide (es.size > 1)))=true);rw [T.plain];simp)]
 refine wpAny_bind (wpAny_pure ?_)
 refine wpAny_bind (wpAny_setEpoch_of b c hf ?_)
 refine wpAny_bind (wpAny_newObj_type (wpAny_pure ⟨_,rfl,"set_iterator",_,⟨_,Heap.get?_push_size _ rfl,rfl⟩,zP.lookup,?_⟩))
 simpa [rawInt] using h
end
open PySem PySem.Spec PyProof.Rows PySem.W PySem.Calls
section
variable {prog:Program}{w:World}{t:SetTable}{es:Array (Int×Value)}{xs:List (List Key×Addr)}{A:Around}{E:Value->Shared->Prop}{s:Shared}
theorem zkc {r:Addr}{Q:Bool->Shared->Prop}(hT:s.TypeIs (.ref r) "set")(h:Q false s):wpAny (model prog w) A (Builtin.List.listLengthHint (.ref r)) Q E s:=by
 unfold Builtin.List.listLengthHint
 refine wpAny_bind (wpAny_specialOf hT PySem.F.slot_set_len.lookup ?_)
 generalize hid:("set.__len__" : String)=id0
 wp_delta
 rw [show splitId id0=some ("set","__len__") from by subst hid;decide +kernel]
 subst hid
 refine wpAny_bind (wpAny_isInstance (T := "set") (b:=true) hT (by rw [isSubtype_type];kernel_rfl) ?_)
 refine wpAny_ite_split (fun a=>absurd a (by decide)) (fun _=>?_)
 refine wpAny_ite_split (fun _=>?_) (fun a=>absurd (by decide +kernel) a)
 refine wpAny_bind (wpAny_typeOf hT ?_)
 exact wpAny_pure h
theorem SetIs.keep {h h':Heap}{a:Addr}{ep:Nat}(S:SetIs prog w h a es ep t xs)(k:∀ o,h.get? a=some o->h'.get? a=some o):SetIs prog w h' a es ep t xs:=let ⟨⟨o,ho,r⟩,T⟩:=S;⟨⟨o,k o ho,r⟩,T⟩
theorem yg.keep {h h':Heap}{it a:Addr}{slot i n ep:Nat}(S:yg h it a slot i n ep)(k:∀ o,h.get? it=some o->h'.get? it=some o):yg h' it a slot i n ep:=let ⟨o,ho,r⟩:=S;⟨o,k o ho,r⟩
theorem SetIs.lt {h:Heap}{a:Addr}{ep:Nat}(S:SetIs prog w h a es ep t xs):a<h.objs.size:=let ⟨⟨o,ho,_⟩,_⟩:=S;Heap.lt_size ho
theorem zis (hh:A.handled=none)(I a:Addr)(hne:a≠I)(ep:Nat) :
  Walks prog w A I [I,a] [I] es.size (fun i v=>∃ e,(zjM w a ep es)[i]?=some e/\v=e.2) (fun i h=>(∃ slot,yg h I a slot i es.size ep/\(w.params.followText "set-order" = true\/SetTable.below t.place slot=i))/\SetIs prog w h a es ep t xs) where
 sub:=fun b hb=>by simp at hb;simp [hb]
 frame:=fun _ _ _ st hk=>⟨let ⟨sl,x,y⟩:=st.1;⟨sl,x.keep fun o e=>hk I (by simp) o e,y⟩,st.2.keep fun o e=>hk a (by simp) o e⟩
 item:=fun i s Q E hi st hQ=>by
  obtain ⟨⟨sl,hit,hs⟩,S⟩:=st
  have d:i<(zjM w a ep es).size:=by
   have:=(zd7 (w:=w) (es:=es) a ep).length_eq
   rw [Array.length_toList,Array.length_toList] at this
   lia
  refine zhQ hit S hs (e:=(zjM w a ep es)[i]) (Array.getElem?_eq_getElem d) fun h' c f g sb=>?_
  exact hQ _ h' s.toks ⟨_,Array.getElem?_eq_getElem d,rfl⟩ ⟨⟨c,f,g⟩,S.keep fun o e=>(sb.2 a hne).trans e⟩ fun b o hb e=>sb.extBut b o (fun h=>hb (by simp [h])) e
 done:=fun s Q E st hQ=>by
  obtain ⟨⟨sl,hit,hs⟩,S⟩:=st
  exact zjF hh hit S hs fun h' j=>hQ h' s.toks fun b o hb e=>j b o (fun h=>hb (by simp [h])) e
 self:=fun _ _ _ _ st hQ=>let ⟨sl,x,_⟩:=st.1;zhh x hQ
theorem znb (a:Addr)(ep:Nat):KdlSrc prog w "set" a a es.size (fun i v=>∃ e,(zjM w a ep es)[i]?=some e/\v=e.2) (fun h=>SetIs prog w h a es ep t xs) where
 type:=fun s S=>S.typeIs
 there:=fun _ S=>⟨S.lt,S.lt⟩
 keep:=fun _ _ S hk=>S.keep fun o e=>hk a (.inl rfl) o e
 notList:=by decide
 notTuple:=by decide
 hint:=fun _ _ _ _ S hq=>zkc S.typeIs hq
 iter:=fun A s hh S=>⟨_,_,(fun _ _ hq=>zjk S hq),zis hh _ a (Nat.ne_of_lt S.lt) ep,⟨⟨0,⟨_,Heap.get?_push_size _ rfl,rfl,rfl⟩,.inr ?_⟩,S.keep fun o e=>Heap.get?_push_of_some _ e⟩⟩
where finally
 have b:=xW S.tb.ris 0
 rcases Nat.eq_zero_or_pos (SetTable.below t.place 0) with z | z
 ·exact z
 ·exact absurd (b.2.1 0 z) (Nat.not_lt_zero _)
end
def zdD (h:Heap)(L D:Addr)(v:Value)(st:List Int):Prop:=∃ (a:Addr) (items:List Value),v = .ref a/\IsTup h a items.toArray/\z0 (st.map V.int) items/\a≠L/\a≠D
theorem zdD.keep {h h':Heap}{L D:Addr}{v:Value}{st:List Int}(r:zdD h L D v st)(kp:∀ b o,b≠L->b≠D->h.get? b=some o->h'.get? b=some o):zdD h' L D v st:=by
 obtain ⟨a,items,e,⟨o,ho,hc⟩,hv,h1,h2⟩:=r
 exact ⟨a,items,e,⟨o,kp a o h1 h2 ho,hc⟩,hv,h1,h2⟩
theorem zcw {h:Heap}{L D:Addr}:∀ {vs:List Value} {sts:List (List Int)},Paired (zdD h L D) vs sts->(∀ st∈sts,1<=st.length)->∃ fs,W.KatTups h vs fs/\fs.length=sts.length/\∀ f∈fs,∃ a t,f=Value.int a t
 | _,_,.nil,_=>⟨[],trivial,rfl,fun _ h=>by simp at h⟩
 | _,_,.cons (b:=st) r rr,h1=>by
  obtain ⟨a,items,rfl,⟨o,ho,hc,n,hd⟩,rv,_⟩:=r
  obtain ⟨fs,f1,f2,f3⟩:=zcw rr fun z hz=>h1 z (List.mem_cons_of_mem _ hz)
  have c:=h1 st List.mem_cons_self
  match st,rv,c with
  | z::zs,rv,_=>
   cases rv with
   | cons q1 qq=>
    obtain ⟨t,rfl⟩:=q1
    refine ⟨_::fs,⟨⟨a,o,_,n,rfl,ho,hc,hd,rfl⟩,f1⟩,by rw [List.length_cons,f2];rfl,fun f hf=>?_⟩
    rcases List.mem_cons.mp hf with rfl | hf
    ·exact ⟨_,_,rfl⟩
    ·exact f3 f hf
theorem za7 {α β:Type}{R:α->β->Prop}:∀ {l:List α} {l':List β},Paired R l l'->∀ {i:Nat} (d:α) (d':β),i<l'.length->R (l.getD i d) (l'.getD i d')
 | _,_,.nil,i,_,_,h=>by simp at h
 | _,_,.cons r _,0,_,_,_=>r
 | _,_,.cons _ t,i+1,d,d',h=>by
  have:=za7 t (i:=i) d d' (by simpa using h)
  simpa using this
theorem zcB {α β:Type}{R:α->β->Prop}:∀ {l:List α} {l':List β},Paired R l l'->l.length=l'.length
 | _,_,.nil=>rfl
 | _,_,.cons _ t=>by rw [List.length_cons,List.length_cons,zcB t]
section
variable {prog:Program}{w:World}{A:Around}{E:Value->Shared->Prop}{s:Shared}
theorem zjx {L D:Addr}{m0:Str->Option Value}{vs:List Value}{n m:Nat}{sts:List (List Int)}{Q:Value->Shared->Prop}(hns:s.heap.Ns L m0)(hDL:D≠L)(ho:s.heap.get? D=some (seqObj "list" vs.toArray n))
  (hv:Paired (zdD s.heap L D) vs sts) (h64:sts.length<64) (hm1:1<=m) (hm:∀ st∈sts,st.length=m) (hnd:sts.Nodup)
  (h:∀ h' c p,List.Perm p (List.range sts.length)->((p.map fun i=>sts.getD i []).Pairwise fun a b=>HT.lexLt a b=true)->(∀ b o,b≠L->b≠D->s.heap.get? b=some o->h'.get? b=some o)->h'.Ns L m0->
   h'.get? D=some (seqObj "list" (p.map fun i=>vs.getD i .none).toArray c)->Q .none { s with heap:=h' }) :
  wpAny (model prog w) A (call (.builtin "list.sort") [.ref D]) Q E s:=by
 have H:=zcB hv
 by_cases h2:2<=sts.length
 ·have d:∀ p∈(zaN s.heap L).filter (fun q=>decide (q.1≠D)),s.heap.get? p.1=some p.2/\p.1≠L/\p.1≠D:=fun p hp=>by
   have h1:=List.mem_filter.mp hp
   have h2:=zN.mp (show (p.1,p.2)∈zaN s.heap L from h1.1)
   exact ⟨h2.2,h2.1,of_decide_eq_true h1.2⟩
  have l:∀ b,(⟨#[],{}⟩:Heap).get? b=none:=fun b=>by
   cases e:(⟨#[],{}⟩:Heap).get? b with
   | none=>rfl
   | some o'=>
    have:=Heap.lt_size e
    simp at this
  refine W.kat_lsort (h₀:=(⟨#[],{}⟩:Heap)) (L:=L) (m:=m0) (D:=D) (its:=vs.toArray) (n:=n) (news:=(D,seqObj "list" vs.toArray n)::(zaN s.heap L).filter (fun q=>decide (q.1≠D))) (g:=fun o=>(D,o)::(zaN s.heap L).filter (fun q=>decide (q.1≠D))) ⟨hns,fun b o e=>?_,Nat.zero_le _⟩ (fun p hp=>?_) (W.UpdF.head fun q hq=>(d q hq).2.2) (vs:=vs) rfl (by lia) (by lia) fun e1 h' F N=>?_
  ·rw [l] at e;cases e
  ·rcases List.mem_cons.mp hp with rfl | hp
   ·exact ⟨ho,hDL,l _⟩
   ·exact ⟨(d p hp).1,(d p hp).2.1,l _⟩
  ·have kp:∀ b o,b≠L->b≠D->s.heap.get? b=some o->h'.get? b=some o:=fun b o hb hD e=>(N (b,o) (List.mem_cons_of_mem _ (List.mem_filter.mpr ⟨zN.mpr ⟨hb,e⟩,decide_eq_true hD⟩))).1
   have u:Paired (zdD h' L D) vs sts:=Paired.mapP hv fun v st r=>r.keep kp
   obtain ⟨fs,k1,k2,k3⟩:=zcw u fun st I=>by rw [hm st I];exact hm1
   refine W.kat_kind (T:=.type "int") (s:={ s with heap:=h' }) k1 (by lia) (fun f hf=>?_) (by decide) ?_
   ·obtain ⟨a,t,rfl⟩:=k3 f hf
    intro A' Q' E' s' _ hq
    exact wpAny_typeOf (typeIs_int s' a t) hq
   ·have hu:zbC sts.length (zbS sts):=fun i j hi hj e=>by
     have e1:=y6 hm hi hj
     have e2:=y6 hm hj hi
     rw [e,decide_eq_false (Int.lt_irrefl _)] at e1
     rw [e,decide_eq_false (Int.lt_irrefl _)] at e2
     have gi:sts.getD i []=sts[i]:=by simp [hi]
     have gj:sts.getD j []=sts[j]:=by simp [hj]
     rcases uK (a:=sts.getD i []) (b:=sts.getD j []) (by rw [gi,gj,hm _ (List.getElem_mem hi),hm _ (List.getElem_mem hj)]) with h | h | h
     ·rw [gi,gj] at h
      exact (List.getElem_inj hnd).mp h
     ·rw [h] at e1;cases e1
     ·rw [h] at e2;cases e2
    obtain ⟨p,z,x⟩:=zfK hu h2
    rw [show vs.length=sts.length by lia]
    refine z.wp (S:=fun s'=>s'={ s with heap:=h' }) (fun i j C s' hi hj y hC=>?_) (fun s' y=>?_) _ rfl
    ·subst y
     obtain ⟨a1,J,b1,c1,d1,_⟩:=za7 u .none [] hi
     obtain ⟨a2,K,b2,c2,d2,_⟩:=za7 u .none [] hj
     obtain ⟨o1,M,_,n1,O⟩:=c1
     obtain ⟨o2,P,_,n2,hd2⟩:=c2
     show wpAny _ _ (keyLt' _ (vs.getD i .none) (vs.getD j .none)) C _ _
     rw [b1,b2]
     have gi:(sts.getD i []).length=m:=by
      have:sts.getD i []=sts[i]:=by simp [hi]
      rw [this];exact hm _ (List.getElem_mem hi)
     have gj:(sts.getD j []).length=m:=by
      have:sts.getD j []=sts[j]:=by simp [hj]
      rw [this];exact hm _ (List.getElem_mem hj)
     have l1:=d1.length
     have l2:=d2.length
     rw [List.length_map] at l1 l2
     refine W.kat_lt (s:={ s with heap:=h' }) M O P hd2 ?_
     rw [show decide (J.toArray.size<K.toArray.size)=false from decide_eq_false (by simp;lia)]
     refine zc5 0 d1 d2 (by rw [gi,gj]) ?_
     have:=hC { s with heap:=h' } rfl
     rw [show zek (zbS sts) i j=HT.lexLt (sts.getD i []) (sts.getD j []) from y6 hm hi hj] at this
     exact this
    ·subst y
     have B:p.toList.Perm (List.range sts.length):=by
      have:=x.perm.toList
      simpa using this
     have G:∀ i∈p.toList,i<sts.length:=fun i hi=>List.mem_range.mp ((B.mem_iff).mp hi)
     refine W.KasFin.intro F N (W.UpdF.head fun q' R=>(d q' R).2.2) fun U c F'' N''=>?_
     refine h U c p.toList B ?_ (fun b o hb hD e=>(N'' (b,o) (List.mem_cons_of_mem _ (List.mem_filter.mpr ⟨zN.mpr ⟨hb,e⟩,decide_eq_true hD⟩))).1) F''.ns (N'' (D,_) List.mem_cons_self).1
     have X:p.size=sts.length:=x6 x.perm
     rw [List.pairwise_iff_getElem]
     intro i j hi hj V
     rw [List.length_map,Array.length_toList] at hi hj
     have hk:=x.lt_of V (by lia)
     rw [List.getElem_map,List.getElem_map,Array.getElem_toList,Array.getElem_toList]
     have e1:p.getD i 0=p[i]:=by simp [hi]
     have e2:p.getD j 0=p[j]:=by simp [hj]
     unfold key at hk
     rw [e1,e2] at hk
     rw [<- y6 hm (G _ (by simp)) (G _ (by simp))]
     exact decide_eq_true hk
 ·refine wpAny_call_entry slot_list_sort ⟨_,ho,rfl⟩ entry_list_sort ?_ (args_list_sort _)
  refine uS ho (by lia) fun h' c kp hD=>⟨_,rfl,?_⟩
  refine h h' c (List.range sts.length) (List.Perm.refl _) ?_ (fun b o _ hb e=>kp b o hb e) ?_ ?_
  ·rw [u3]
   match sts,h2 with
   | [],_=>exact .nil
   | [_],_=>exact List.pairwise_singleton _ _
   | _::_::_,h2=>exact absurd (by simp) h2
  ·obtain ⟨o,es,ep,g,k⟩:=hns
   exact ⟨o,es,ep,kp _ _ (Ne.symm hDL) g,k⟩
  ·rw [<- H,u3]
   exact hD
end
theorem zbj {α β:Type}{f:α->β}{l m:List β}(h:l.Perm m):∀ {xs:List α},m=xs.map f->∃ c:List α,c.Perm xs/\l=c.map f:=by
 induction h with
 | nil=>
  intro xs e
  have:xs=[]:=by cases xs with | nil=>rfl | cons _ _=>cases e
  subst this
  exact ⟨[],.nil,rfl⟩
 | cons x _ ih=>
  intro xs e
  cases xs with
  | nil=>cases e
  | cons y ys=>
   rw [List.map_cons] at e
   injection e with e1 e2
   obtain ⟨c,h1,h2⟩:=ih e2
   exact ⟨y::c,h1.cons y,by rw [List.map_cons,<- h2,e1]⟩
 | swap x y l=>
  intro xs e
  match xs,e with
  | [],e=>cases e
  | [_],e=>cases e
  | a::b::r,e=>
   rw [List.map_cons,List.map_cons] at e
   injection e with e1 e2
   injection e2 with e2 e3
   exact ⟨b::a::r,.swap _ _ _,by rw [List.map_cons,List.map_cons,e1,e2,e3]⟩
 | trans _ _ g i=>
  intro xs e
  obtain ⟨c,h1,h2⟩:=i e
  obtain ⟨d,h3,h4⟩:=g h2
  exact ⟨d,h3.trans h1,h4⟩
def zgf (P:Program)(w:World)(a:Addr)(xs:List (List Key×Addr)):HO:=.ext fun h=>zep P w h a xs
def u7 (xs:List (List Int×Addr)):List (List Key×Addr):=xs.map fun q=>(q.1.map Sum.inl,q.2)
theorem zir {P:Program}{w:World}{H:Hp}{h:Heap}{a:Addr}{xs:List (List Key×Addr)}(S:zep P w h a xs):yh P w H h a (zgf P w a xs):=by
 refine ⟨S,?_,fun h1 h2 q k=>?_⟩
 ·obtain ⟨o,_,_,_,ho,_⟩:=S
  exact ⟨o,ho⟩
 ·obtain ⟨o,es,ep,t,ho,r⟩:=q
  exact ⟨o,es,ep,t,k o ho,r⟩
def zgl (P:Program)(w:World)(H:Hp)(a:Addr)(ks:List (List Int)):Prop:=∃ xs:List (List Int×Addr),H a=some (zgf P w a (u7 xs))/\(∀ q∈xs,H q.2=some (.tup (q.1.map V.int)))/\ks=xs.map (·.1)/\ks.Nodup
theorem zgl.stay {P:Program}{w:World}{H H':Hp}{a:Addr}{ks:List (List Int)}(S:zgl P w H a ks)(h:zw H H'):zgl P w H' a ks:=by
 obtain ⟨xs,h1,h2,h3,h4⟩:=S
 exact ⟨xs,h _ _ h1 (fun _ e=>by cases e),fun q hq=>h.tup (h2 q hq),h3,h4⟩
theorem zeN:∀ ns:List Int,(ns.map Sum.inl).map kV=ns.map V.int
 | []=>rfl
 | n::ns=>by rw [List.map_cons,List.map_cons,List.map_cons,zeN ns];rfl
section
variable {X:Cx}
theorem zhp {pins:List (Addr×Obj)}{σ:St}{H:Hp}{s:Shared}(I:Inv X pins σ H s){b:Addr}{ns:List Int}(h:H b=some (.tup (ns.map V.int))):(tk X.prog X.w).is s.heap (ns.map Sum.inl) b:=by
 obtain ⟨its,rv,⟨o,ho,hc,n,hd⟩,_⟩:=I.tuple (.of h)
 refine ⟨o,its.toArray,n,ho,hc,hd,?_⟩
 have gen:∀ {ns:List Int} {its:List Value},z0 (ns.map V.int) its->ItemsAre (zL X.prog X.w) (ns.map Sum.inl) its:=by
  intro ns
  induction ns with
  | nil=>intro its r;cases r;exact .nil
  | cons n ns ih=>
   intro its r
   cases r with
   | cons r1 r2=>
    obtain ⟨t,rfl⟩:=r1
    exact .cons (zdY n t) (ih r2)
 exact gen rv
def zkY (P:Program)(w:World):List V->Hp->VK->Prop:=fun xs H Q=>∃ (a:Addr) (ks:List (List Int)) (m:Nat),xs=[.ref a]/\zgl P w H a ks/\ks.length<64/\1<=m/\(∀ st∈ks,st.length=m)/\
 ∀ (ys:List V) (sts':List (List Int)),IsL H (sts'.map stD) ys->sts'.Perm ks->(sts'.Pairwise fun a b=>HT.lexLt a b=true)->New H (.lst ys) Q
theorem zc2 {H:Hp}:∀ {xs:List (List Int×Addr)},(∀ q∈xs,H q.2=some (.tup (q.1.map V.int)))->IsL H ((xs.map (·.1)).map stD) (xs.map fun q=>V.ref q.2)
 | [],_=>rfl
 | q::xs,h=>⟨_,_,rfl,⟨q.2,_,rfl,h q List.mem_cons_self,IsL.ints⟩,zc2 fun r hr=>h r (List.mem_cons_of_mem _ hr)⟩
theorem zb8:∀ (xs:List (List Int×Addr)),z0 (xs.map fun q=>V.ref q.2) (xs.map fun q=>Value.ref q.2)
 | []=>.nil
 | q::xs=>.cons rfl (zb8 xs)
theorem zi2 (hc:X.calm=true):CallQ X (.builtin "sorted") (zkY X.prog X.w):=⟨by
 intro pins s σ H xs us Q I r h
 obtain ⟨a,ks,m,rfl,⟨xs,hH,Y,rfl,Z⟩,G,va,hm,q⟩:=h
 obtain ⟨u,rfl,ru⟩:=zaU r
 cases ru
 obtain ⟨⟨o,es,ep,t,ho,hx,hd,T,_⟩,_⟩:=(show yh X.prog X.w H s.heap a (zgf X.prog X.w a (u7 xs)) from I.hok a _ hH)
 have S:SetIs X.prog X.w s.heap a es ep t (u7 xs):=⟨⟨o,ho,hx,hd⟩,T⟩
 obtain ⟨m0,J,_⟩:=id I.loc
 have hsz:es.size=xs.length:=by rw [T.size];unfold u7;rw [List.length_map]
 rw [List.length_map] at G
 have f:∀ b,(⟨#[],{}⟩:Heap).get? b=none:=fun b=>by
  cases e:(⟨#[],{}⟩:Heap).get? b with
  | none=>rfl
  | some o'=>
   have:=Heap.lt_size e
   simp at this
 have K:=zd7 (w:=X.w) (es:=es) a ep
 have heq:es.toList=xs.map fun q=>((tk X.prog X.w).hash (q.1.map Sum.inl),Value.ref q.2):=by rw [T.eq];unfold u7;rw [List.map_map];rfl
 rw [heq] at K
 obtain ⟨d,g,vb⟩:=zbj K rfl
 refine kdu_sorted (h₀:=(⟨#[],{}⟩:Heap)) (L:=X.env.locals) (m:=m0) (news:=zaN s.heap X.env.locals) (znb (t:=t) (xs:=u7 xs) a ep) (I.ok.hd hc) ⟨J,fun b o e=>(by rw [f] at e;cases e),Nat.zero_le _⟩ (fun p hp=>?_) S (by rw [hsz,sizeLine_eq];lia) fun D h' M vs F N vc hl hP=>?_
 ·obtain ⟨b,o⟩:=p
  have:=zN.mp hp
  exact ⟨this.2,this.1,f b⟩
 ·have O:vs=d.map fun q=>Value.ref q.2:=by
   have vd:=g.length_eq
   refine List.ext_getElem (by rw [hl,List.length_map,vd,hsz]) fun j h1 h2=>?_
   obtain ⟨e,he,hv⟩:=hP j vs[j] (List.getElem?_eq_getElem h1)
   rw [zaZ,vb,List.getElem?_map] at he
   rw [List.length_map] at h2
   rw [List.getElem?_eq_getElem h2] at he
   rw [hv,List.getElem_map,<- Option.some.inj he]
  have kp:∀ b o,b≠X.env.locals->s.heap.get? b=some o->h'.get? b=some o:=fun b o hb e=>(N (b,o) (List.mem_cons_of_mem _ (zN.mpr ⟨hb,e⟩))).1
  have P:D≠X.env.locals:=(N (D,_) List.mem_cons_self).2.1
  have x:s.heap.get? D=none:=by
   cases e:s.heap.get? D with
   | none=>rfl
   | some o=>exact absurd (vc (D,o) (zN.mpr ⟨P,e⟩)) (Nat.lt_irrefl _)
  have y:H D=none:=by
   cases e:H D with
   | none=>rfl
   | some o=>
    obtain ⟨o',n⟩:=zaI (I.hok D o e)
    rw [x] at n;cases n
  have v:∀ q∈d,H q.2=some (.tup (q.1.map V.int)):=fun q hq=>Y q ((g.mem_iff).mp hq)
  have rows:Paired (zdD h' X.env.locals D) vs (d.map (·.1)):=by
   rw [O]
   have gen:∀ (l:List (List Int×Addr)),(∀ q∈l,H q.2=some (.tup (q.1.map V.int)))->Paired (zdD h' X.env.locals D) (l.map fun q=>Value.ref q.2) (l.map (·.1)):=by
    intro l
    induction l with
    | nil=>intro _;exact .nil
    | cons q l ih=>
     intro hl
     have hq:=hl q List.mem_cons_self
     obtain ⟨items,rv,⟨o',n,ve⟩,_⟩:=I.tuple (.of hq)
     have R:=zb hq I.free
     exact .cons ⟨q.2,items,rfl,⟨o',kp _ _ R n,ve⟩,rv,R,zb hq y⟩ (ih fun r hr=>hl r (List.mem_cons_of_mem _ hr))
   exact gen d v
  have A:=g.map (·.1)
  refine zjx (s:={ s with heap:=h',toks:=M }) F.ns P (N (D,_) List.mem_cons_self).1 rows (by rw [List.length_map,g.length_eq];exact G) va (fun st vf=>hm st ((A.mem_iff).mp vf)) (A.nodup_iff.mpr Z) fun h'' c p hp U vg vh W=>?_
  have B:∀ i∈p,i<d.length:=fun i hi=>by have:=List.mem_range.mp ((hp.mem_iff).mp hi);rwa [List.length_map] at this
  have k:(p.map fun i=>(d.map (·.1)).getD i [])=(p.map fun i=>d.getD i ([],0)).map (·.1):=by
   rw [List.map_map]
   refine List.map_congr_left fun i hi=>?_
   have:=B i hi
   simp [this]
  have C:(p.map fun i=>vs.getD i .none)=(p.map fun i=>d.getD i ([],0)).map fun q=>Value.ref q.2:=by
   rw [O,List.map_map]
   refine List.map_congr_left fun i hi=>?_
   have:=B i hi
   simp [this]
  have pin:∀ q∈(p.map fun i=>d.getD i ([],0)),H q.2=some (.tup (q.1.map V.int)):=fun q hq=>by
   obtain ⟨i,hi,rfl⟩:=List.mem_map.mp hq
   have h1:=B i hi
   have:d.getD i ([],0)=d[i]:=by simp [h1]
   rw [this]
   exact v _ (List.getElem_mem h1)
  rw [C] at W
  rw [k] at U
  have E:p.length=xs.length:=by rw [hp.length_eq,List.length_range,List.length_map,g.length_eq]
  have I':=zc1 I J (ys:=(p.map fun i=>d.getD i ([],0)).map fun q=>V.ref q.2) (fun b o hb e=>vg b o hb (fun z=>by rw [z,x] at e;cases e) (kp b o hb e)) vh x y W (zb8 _) (by rw [List.length_map,List.length_map,E,sizeLine_eq];lia) M
  refine ⟨.ref D,_,I',rfl,(q _ ((p.map fun i=>d.getD i ([],0)).map (·.1)) (zc2 pin) ?_ U).at y⟩
  refine List.Perm.trans ?_ A
  rw [<- k]
  have:=hp.map fun i=>(d.map (·.1)).getD i []
  rwa [u3] at this⟩
end
open PySem PySem.Spec PyProof.Rows
theorem zdL (elt target iter:Expr)(ifs:List Expr)(scope:Scope)(pos:Pos)(it acc:Value)(env:Env) :
  compTurn (.SetComp elt [⟨target,iter,ifs,0⟩] scope pos) 0 it acc env=(do
   standAt iter.pos
   match <- pyNext it with
   | none=>pure (.done .next)
   | some v=>
    letOwnedTupleGo target it v
    assign target env v
    let mut ok:=true
    for c in ifs do
     if ok then ok <- isTrue c env (eval c env)
    if ok then
     (do let v <- eval elt env;standAt elt.pos;let _ <- call (.builtin "set.add") [acc,v])
    again (.compLoop (.SetComp elt [⟨target,iter,ifs,0⟩] scope pos) 0 it acc env)):=by rfl
section
variable {prog:Program}{w:World}{A:Around}{E:Value->Shared->Prop}{R:Result->Shared->Prop}{s:Shared}
theorem uD {elt target iter ifs z6 scope pos it acc env}
  (h0:codeAny (model prog w) A (.compLoop (.SetComp elt (⟨target,iter,ifs,0⟩::z6) scope pos) 0 it acc env) R s)
  (h:wpAny (model prog w) A (pyIter it) (fun it' s'=>codeAny (model prog w) A (.compLoop (.SetComp elt (⟨target,iter,ifs,0⟩::z6) scope pos) 0 it' acc env) R s')
   (notedBy (model prog w) A env fun x s'=>R (.error x) s') s) :
  codeAny (model prog w) A (.compStart (.SetComp elt (⟨target,iter,ifs,0⟩::z6) scope pos) 0 it acc env) R s:=by
 refine codeAny_of_tree ?_
 show wpAny _ _ ((compStart (.SetComp elt (⟨target,iter,ifs,0⟩::z6) scope pos) 0 it acc env).onRaise (fun x=>do noteFrame x env;standAt theWindowsPlace)) _ _ s
 refine wpAny_notedAt ?_
 unfold compStart
 show wpAny _ _ (ask >>= _) _ _ s
 refine wpAny_bind (wpAny_askSetting (wpAny_ite ?_))
 split
 ·first
   | exact wpAny_bind (wpAny_pure (wpAny_pure (And.intro rfl h0)))
   | exact wpAny_pure (And.intro rfl h0)
 ·first
   | exact wpAny_bind (wpAny_rule (wpAny_bind (wpAny_standAt (wpAny_bind (wpAny_mono h (fun it' s' h'=>wpAny_pure (And.intro rfl h')) fun _ _ x=>x)))))
   | (refine wpAny_bind (wpAny_rule ?_);show wpAny _ _ (standAt iter.pos >>= _) _ _ s;exact wpAny_bind (wpAny_standAt (wpAny_bind (wpAny_mono h (fun it' s' h'=>wpAny_pure (And.intro rfl h')) fun _ _ x=>x))))
theorem zbn {elt target iter:Expr}{ifs:List Expr}{scope:Scope}{pos:Pos}{it acc:Value}{env:Env}(I:Nat->Shared->Prop)
  (turn:∀ n s,I n s->wpAny (model prog w) A (pyNext it) (fun r s₁=>match r with
   | none=>R (.ok .next) s₁
   | some v=>wpAny (model prog w) A (letOwnedTupleGo target it v) (fun _ s₂=>wpAny (model prog w) A (assign target env v) (fun _ s₃=>
     wpAny (model prog w) A (forIn ifs true fun c r=>if r=true then do let ok <- isTrue c env (eval c env);pure (ForInStep.yield ok) else pure (ForInStep.yield r)) (fun ok s₄=>
      if ok=true then wpAny (model prog w) A (eval elt env) (fun x s₅=>
       wpAny (model prog w) A (call (.builtin "set.add") [acc,x]) (fun _ s₆=>∃ m,m<n/\I m s₆) (fun _ _=>False) s₅) (fun _ _=>False) s₄
      else ∃ m,m<n/\I m s₄) (fun _ _=>False) s₃) (fun _ _=>False) s₂) (fun _ _=>False) s₁) (fun _ _=>False) s)
  (n:Nat) (h:I n s) :
  codeAny (model prog w) A (.compLoop (.SetComp elt [⟨target,iter,ifs,0⟩] scope pos) 0 it acc env) R s:=by
 refine codeAny_loop rfl I (fun n s hI=>?_) n h
 show wpAny _ A ((compTurn (.SetComp elt [⟨target,iter,ifs,0⟩] scope pos) 0 it acc env).onRaise (fun x=>do noteFrame x env;theTreesLotGoes x)) _ _ s
 refine wpAny_noted ?_
 rw [zdL]
 refine wpAny_bind (wpAny_standAt (wpAny_bind (wpAny_mono (turn n s hI) (fun r s₁ h₁=>?_) fun _ _ h'=>h'.elim)))
 cases r with
 | none=>exact wpAny_pure h₁
 | some v=>
  refine wpAny_bind (wpAny_mono h₁ (fun _ s₂ h₂=>?_) fun _ _ h'=>h'.elim)
  refine wpAny_bind (wpAny_mono h₂ (fun _ s₃ h₃=>wpAny_bind (wpAny_mono h₃ (fun ok s₄ h₄=>?_) fun _ _ h'=>h'.elim)) fun _ _ h'=>h'.elim)
  cases ok with
  | false=>exact wpAny_pure ⟨rfl,h₄⟩
  | true=>
   exact wpAny_bind (wpAny_bind (wpAny_mono h₄ (fun x s₅ h₅=>wpAny_bind (wpAny_standAt (wpAny_bind (wpAny_mono h₅ (fun _ s₆ h₆=>wpAny_pure (wpAny_pure ⟨rfl,h₆⟩)) fun _ _ h'=>h'.elim)))) fun _ _ h'=>h'.elim))
theorem zhO {Q:Value->Shared->Prop}(h:Q (.ref s.heap.objs.size) { s with heap:=s.heap.push { cls:=.type "set",dict:=none,data:=.set #[] 0 (.fresh 0 0 (!w.params.followText "set-order")) } }):wpAny (model prog w) A (newSet (.type "set")) Q E s:=by
 unfold newSet setsByText
 refine wpAny_bind (wpAny_bind (wpAny_askSetting (wpAny_pure ?_)))
 dsimp only
 simp only [newObj]
 exact wpAny_bind (wpAny_alloc (wpAny_pure h))
theorem ziq (h:Heap):zep prog w (h.push { cls:=.type "set",dict:=none,data:=.set #[] 0 (.fresh 0 0 (!w.params.followText "set-order")) }) h.objs.size []:=by
 refine ⟨_,#[],0,_,Heap.get?_push_size _ rfl,⟨rfl,rfl,rfl⟩,rfl,⟨rfl,List.nodup_nil,rfl,fun i j _ hj=>?_,fun i j e=>?_,rfl,.inl rfl,Nat.zero_le _,rfl,rfl,fun i q e=>?_⟩,by show 0 * 5<7 * 3;decide⟩
 ·exact absurd hj (Nat.not_lt_zero _)
 ·simp [SetTable.fresh] at e
 ·simp at e
end
theorem uj:∀ {ns ms:List Int},ns.map (Sum.inl:Int->Key)=ms.map Sum.inl->ns=ms
 | [],[],_=>rfl
 | [],_::_,e=>by cases e
 | _::_,[],e=>by cases e
 | n::ns,m::ms,e=>by
  rw [List.map_cons,List.map_cons] at e
  injection e with e1 e2
  rw [Sum.inl.inj e1,uj e2]
section
variable {X:Cx}
theorem zgg {pins:List (Addr×Obj)}{σ:St}{H:Hp}{s:Shared}{acc b:Addr}{ns:List Int}{ks:List (List Int)}{Q:Value->Shared->Prop}(hu:X.A.units+1<cLine)(I:Inv X pins σ H s)(S:zgl X.prog X.w H acc ks)(hb:H b=some (.tup (ns.map V.int)))(hn:ks.length<300)
  (h:∀ o ks' s',zgl X.prog X.w (upd H acc o) acc ks'->(∀ x,x∈ks'↔x=ns\/x∈ks)->ks'.length<=ks.length+1->Inv X pins σ (upd H acc o) s'->Q .none s') :
  wpAny (model X.prog X.w) X.A (call (.builtin "set.add") [.ref acc,.ref b]) Q X.xe s:=by
 obtain ⟨xs,hH,hel,rfl,hnd⟩:=S
 have hS:=(show yh X.prog X.w H s.heap acc (zgf X.prog X.w acc (u7 xs)) from I.hok acc _ hH).1
 obtain ⟨o,es,ep,t,ho,hx,hd,T,hroom⟩:=id hS
 refine wpAny_call_entry F.slot_set_add ⟨o,ho,hx.1⟩ F.entry_set_add ?_ (F.args_set_add_2 _ _)
 unfold Builtin.«set.add»
 refine wpAny_bind (m:=Builtin.Frozenset.oneOther "add" ⟨[.ref acc,.ref b],[]⟩) (wpAny_pure ?_)
 have hba:b≠acc:=zeU hb hH (by intro z;cases z)
 have hea:∀ q∈xs,q.2≠acc:=fun q hq=>zeU (hel q hq) hH (by intro z;cases z)
 rw [List.length_map] at hn
 refine wpAny_bind (znO (A:=X.A.in1) (xs:=u7 xs) (ns:=ns) (Nat.lt_of_le_of_lt (Nat.le_refl _) hu) hS (zhp I hb) (fun q hq=>?_) (by unfold u7;rw [List.length_map];exact hn) fun r h' n xs' sb S' hin hout=>?_)
 ·unfold u7 at hq
  obtain ⟨q',hq',rfl⟩:=List.mem_map.mp hq
  exact zhp I (hel q' hq')
 ·
  have mem_key:∀ {l:List (List Int×Addr)},(ns.map Sum.inl)∈(u7 l).map (·.1)↔ns∈l.map (·.1):=by
   intro l
   unfold u7
   rw [List.map_map,List.mem_map,List.mem_map]
   constructor
   ·rintro ⟨q,hq,e⟩
    refine ⟨q,hq,?_⟩
    have e':q.1.map (Sum.inl:Int->Key)=ns.map Sum.inl:=e
    exact uj e'
   ·rintro ⟨q,hq,rfl⟩
    exact ⟨q,hq,rfl⟩
  have fin:∀ xs2:List (List Int×Addr),xs'=u7 xs2->(∀ q∈xs2,q∈xs\/q=(ns,b))->(∀ x,x∈xs2.map (·.1)↔x=ns\/x∈xs.map (·.1))->(xs2.map (·.1)).Nodup->xs2.length<=xs.length+1->wpAny (model X.prog X.w) X.A.in1 (do ret .none) (fun fin s'=>∃ v,fin = .done (.ret v)/\Q v s') X.xe { s with heap:=h',toks:=n }:=by
   rintro xs2 rfl hsub hmem hnd2 hlen
   have hel2:∀ q∈xs2,H q.2=some (.tup (q.1.map V.int)):=fun q hq=>by
    rcases hsub q hq with z | z
    ·exact hel q z
    ·rw [z];exact hb
   have hea2:∀ q∈xs2,q.2≠acc:=fun q hq=>zeU (hel2 q hq) hH (by intro z;cases z)
   refine wpAny_pure ⟨.none,rfl,h (zgf X.prog X.w acc (u7 xs2)) (xs2.map (·.1)) _ ⟨xs2,zo,fun q hq=>by rw [zf (hea2 q hq)];exact hel2 q hq,rfl,hnd2⟩ hmem (by rw [List.length_map,List.length_map];exact hlen) ?_⟩
   refine I.write (e:=acc) (by rw [hH];trivial) (.inl rfl) (fun c u hc q=>sb.extBut c u hc q) ?_ (zir S')
   obtain ⟨o',_,_,_,ho',_⟩:=S'
   exact ⟨o',ho'⟩
  by_cases hm:ns∈xs.map (·.1)
  ·have:=hin (mem_key.mpr hm)
   refine fin xs this (fun q hq=>.inl hq) (fun x=>⟨.inr,fun z=>z.elim (fun e=>e ▸ hm) id⟩) hnd (Nat.le_succ _)
  ·have hp:=hout fun z=>hm (mem_key.mp z)
   have hk:((ns.map Sum.inl,b)::u7 xs)=u7 ((ns,b)::xs):=rfl
   rw [hk] at hp
   obtain ⟨xs2,hp2,e2⟩:=zbj hp rfl
   refine fin xs2 e2 (fun q hq=>?_) (fun x=>?_) ?_ ?_
   ·rcases List.mem_cons.mp ((hp2.mem_iff).mp hq) with z | z
    ·exact .inr z
    ·exact .inl z
   ·rw [(hp2.map (·.1)).mem_iff,List.map_cons,List.mem_cons]
   ·rw [(hp2.map (·.1)).nodup_iff,List.map_cons,List.nodup_cons]
    exact ⟨hm,hnd⟩
   ·rw [hp2.length_eq,List.length_cons]
    exact Nat.le_refl _
end
theorem zdO {env:Env}(elt gens scope pos):eval (.SetComp elt gens scope pos) env=comprehension (.SetComp elt gens scope pos) scope env (firstIterPos gens pos) (newSet (.type "set")) (firstAsync gens) (firstIter gens env):=rfl
def setT (P:Program)(w:World)(g:TG)(ti:TT)(te:TE)(acc:Addr)(N:St->Hp->Prop)(x:V)(σ:St)(H:Hp):Prop:=
 g x σ H fun σ3 H3=>ti σ3 H3 fun ok H4=>if ok=true then te σ3 H4 fun v H5=>∃ b ns ks,v = .ref b/\H5 b=some (.tup (ns.map V.int))/\zgl P w H5 acc ks/\ks.length<300/\
  (∀ o ks',zgl P w (upd H5 acc o) acc ks'->(∀ x,x∈ks'↔x=ns\/x∈ks)->ks'.length<=ks.length+1->N σ3 (upd H5 acc o)) else N σ3 H4
def setG (P:Program)(w:World)(J:It)(g:TG)(ti:TT)(te:TE)(acc:Addr)(Q:VK)(σ:St)(H:Hp):Prop:=∃ W:Nat->Nat->St->Hp->Prop,(∃ m,W 0 m σ H)/\
 ∀ i m σ' H',W i m σ' H'->(J.stop i H'/\Q (.ref acc) H')\/(J.go i H'/\∃ N:St->Hp->Prop,(∀ σ2 H2,N σ2 H2->∃ m',m'<m/\W (i+1) m' σ2 H2)/\∀ x H2,J.yld i H' x H2->setT P w g ti te acc N x σ' H2)
def zno (P:Program)(w:World)(wi:TI)(g:TG)(ti:TT)(te:TE)(cix:List (Option Nat)):TE:=fun σ H Q=>wi σ H fun J H1=>∀ acc,H1 acc=none->zgl P w (upd H1 acc (zgf P w acc [])) acc []->setG P w J g ti te acc Q (zbv σ cix) (upd H1 acc (zgf P w acc []))
theorem zf7 {X:Cx}{elt tg iter:Expr}{ifs:List Expr}{scope:Scope}{pos:Pos}{wi:TI}{g:TG}{ti:TT}{te:TE}{N:List Str}{cix:List (Option Nat)}(hu:X.A.units+1<cLine)(hc:X.calm=true)(c:CompOk X scope N cix)
  (hi:PI X tg iter wi) (hg:∀ C s H ex,PG (zt X scope N C s H ex) tg g) (ht:∀ C s H ex,PTs (zt X scope N C s H ex) ifs ti) (he:∀ C s H ex,PE (zt X scope N C s H ex) elt te)
  (hs:∀ x,foldedSetIterable iter X.env x=pure x:=by intro _;rfl):PE X (.SetComp elt [⟨tg,iter,ifs,0⟩] scope pos) (zno X.prog X.w wi g ti te cix):=by
 intro pins s σ H Q I h
 rw [zdO]
 refine wpAny_comprehension_free (use:=none) rfl hs (uW (c.cells I.ok)) c.kind c.names (thn (hi pins s σ H _ I h) fun xv s1 h1=>thn h1 fun itv s2 h2=>?_)
 obtain ⟨it,fp,tn,J,H2,e,I2,T,D,f2,q2⟩:=h2
 subst e
 generalize hob:({ cls:=.type "set",dict:=none,data:=.set #[] 0 (.fresh 0 0 (!X.w.params.followText "set-order")) }:Obj)=ob
 refine zhO ?_
 rw [hob]
 refine wpAny_newFunctionEnv c.cell (by intro y hy;simp at hy) (fun h4 f j=>?_) c.kind
 dsimp only at f j ⊢
 have k:=I2.hok.fresh (Nat.le_refl s2.heap.objs.size)
 have E:zep X.prog X.w (s2.heap.push ob) s2.heap.objs.size []:=by rw [<- hob];exact ziq _
 have I3:Inv X pins σ (upd H2 s2.heap.objs.size (zgf X.prog X.w s2.heap.objs.size [])) { s2 with heap:=s2.heap.push ob,toks:=s2.toks }:=I2.laid (t':=s2.toks) (fun b u e=>Heap.get?_push_of_some _ e) (Nat.le_refl _) (zir E)
 obtain ⟨W,⟨m0,w0⟩,turn⟩:=q2 s2.heap.objs.size k ⟨[],zo,fun q hq=>by simp at hq,rfl,List.nodup_nil⟩
 have l:∀ b∈fp,b<s2.heap.objs.size:=fun b hb=>by
  obtain ⟨o,ho,_⟩:=T.obj _ _ D b hb
  exact Heap.lt_size ho
 have f3:∀ b∈fp,zdC X pins (upd H2 s2.heap.objs.size (zgf X.prog X.w s2.heap.objs.size [])) b:=fun b hb=>⟨by rw [zf (Nat.ne_of_lt (l b hb))];exact (f2 b hb).1,(f2 b hb).2⟩
 have kp:∀ b o,(s2.heap.push ob).get? b=some o->h4.get? b=some o:=fun b o e=>
  j.extBut b o (Nat.ne_of_lt (Heap.lt_size e)) (Heap.get?_push_of_some _ e)
 have F:s2.heap.objs.size<(s2.heap.push ob).objs.size:=by rw [Heap.size_push];exact Nat.lt_succ_self _
 have I4:=zbw (tk:=s2.toks+([]:List (Str×Value)).length) I3 c f3 (fun b hb=>Nat.lt_trans (l b hb) F) f kp
 have G:tn 0 h4:=T.keep _ _ _ D fun b hb o e=>kp b o (Heap.get?_push_of_some _ e)
 generalize hX:zt X scope N (s2.heap.push ob).objs.size { s2 with heap:=s2.heap.push ob,toks:=s2.toks } (upd H2 s2.heap.objs.size (zgf X.prog X.w s2.heap.objs.size [])) fp=X' at I4
 have pX:X'.prog=X.prog:=by rw [<- hX];rfl
 have wX:X'.w=X.w:=by rw [<- hX];rfl
 have KX:X'.K=X.K:=by rw [<- hX];rfl
 have AX:X'.A=X.A:=by rw [<- hX];rfl
 have cX:X'.calm=true:=by rw [<- hX];exact hc
 have xX:X'.xe=fun _ _=>False:=by rw [<- hX];rfl
 have eX:X'.env=compEnvC scope (zel X.env scope.names []) (s2.heap.push ob).objs.size X.env:=by rw [<- hX];rfl
 have R:PG X' tg g:=by rw [<- hX];exact hg _ _ _ _
 have U:PTs X' ifs ti:=by rw [<- hX];exact ht _ _ _ _
 have V:PE X' elt te:=by rw [<- hX];exact he _ _ _ _
 have f4:∀ {H':Hp},(∀ b∈fp,H' b=none)->∀ b∈fp,zdC X' [] H' b:=fun {H'} hn b hb=>by
  refine ⟨hn b hb,?_,?_,.inl ?_,?_,?_⟩
  ·rw [eX];exact Nat.ne_of_lt (Nat.lt_trans (l b hb) F)
  ·have e1:X'.fs=frs X.stack:=by rw [<- hX];rfl
   rw [e1]
   intro z
   rcases List.mem_cons.mp (I2.stkSub b z) with e | e
   ·exact (f2 b hb).2.1 e
   ·exact (f2 b hb).2.2.1 e
  ·rw [<- hX];exact hb
  ·rw [eX]
   intro x a e
   rcases xY (c.cells I.ok) e with z | z
   ·exact (f2 b hb).2.2.2.2.1 x a z
   ·simp at z
  ·intro p hp
   have e1:X'.pn++([]:List (Addr×Obj))=[]:=by rw [<- hX];rfl
   rw [e1] at hp
   simp at hp
 have loop:∀ s4:Shared,s4={ s2 with heap:=h4,toks:=s2.toks+([]:List (Str×Value)).length }->
   codeAny (model X.prog X.w) X.A (.compLoop (.SetComp elt [⟨tg,iter,ifs,0⟩] scope pos) 0 (.ref it) (.ref s2.heap.objs.size) X'.env)
    (compPost (model X.prog X.w) X.A X.xe none (EP X pins σ Q) (.ref s2.heap.objs.size) (s2.heap.push ob).objs.size) s4:=by
  rintro s4 rfl
  refine zbn (fun n s'=>∃ i σ' H',Inv X' [] σ' H' s'/\tn i s'.heap/\(∀ b∈fp,H' b=none)/\W i n σ' H') ?_ m0 ⟨0,zbv σ cix,_,I4,G,fun b hb=>(f3 b hb).1,w0⟩
  rintro n s5 ⟨i,σ5,H5,I5,L,M,w5⟩
  rcases turn i n σ5 H5 w5 with ⟨stop,qn⟩ | ⟨go,Nx,hN,step⟩
  ·have:=T.done X' pX wX KX cX i [] s5 σ5 H5 (fun _ _=>False) I5 (f4 M) L stop
   rw [AX] at this
   refine thn this fun r s6 ⟨hr,I6⟩=>?_
   subst hr
   obtain ⟨m6,O,_⟩:=I6.loc
   rw [eX] at O
   refine ⟨m6,O,fun h7 Y=>?_⟩
   have I6':=I6
   rw [<- hX] at I6'
   exact ⟨.ref s2.heap.objs.size,H5,uY I3 f3 I6' Y,rfl,qn⟩
  ·have:=T.item X' pX wX KX cX i [] s5 σ5 H5 (fun _ _=>False) I5 (f4 M) L go
   rw [AX] at this
   refine thn this fun r s6 ⟨u,hr,h6⟩=>?_
   subst hr
   refine thn h6 fun _ s7 ⟨x,H7,I7,r7,y7,B,Z⟩=>?_
   have I7':=I7.pinned (f4 Z) (T.obj _ _ B)
   have a7:=R _ s7 σ5 H7 x u _ I7' r7 (step x H7 y7)
   rw [pX,wX,AX,xX] at a7
   refine thn a7 fun _ s8 ⟨σ8,H8,I8,q8⟩=>?_
   have t8:=U _ s8 σ8 H8 _ I8 q8
   rw [pX,wX,AX,xX] at t8
   refine thn t8 fun ok s9 ⟨H9,I9,q9⟩=>?_
   have again:∀ {s':Shared} {σ':St} {H':Hp},Inv X' ([]++x8 fp s7.heap) σ' H' s'->Nx σ' H'->∃ m,m<n/\∃ i σ' H',Inv X' [] σ' H' s'/\tn i s'.heap/\(∀ b∈fp,H' b=none)/\W i m σ' H':=fun {s' σ' H'} J' n'=>by
    obtain ⟨m',hm,w'⟩:=hN σ' H' n'
    refine ⟨m',hm,i+1,σ',H',J'.unpinned,T.keep _ _ _ B fun b hb o e=>(J'.pin (b,o) (List.mem_append_right _ (List.mem_append_right _ (zT hb e)))).1,fun b hb=>?_,w'⟩
    obtain ⟨o,e,d⟩:=T.obj _ _ B b hb
    exact (J'.pin (b,o) (List.mem_append_right _ (List.mem_append_right _ (zT hb e)))).2.1
   cases ok with
   | false=>exact again I9 q9
   | true=>
    have e9:=V _ s9 σ8 H9 _ I9 q9
    rw [pX,wX,AX,xX] at e9
    refine thn e9 fun u2 s10 ⟨v,H10,I10,va,vb⟩=>?_
    obtain ⟨b,ns,ks,rfl,hb,S,hn,nx⟩:=vb
    cases va
    have P:=zgg (X:=X') (Q:=fun _ s'=>∃ m,m<n/\∃ i σ' H',Inv X' [] σ' H' s'/\tn i s'.heap/\(∀ b∈fp,H' b=none)/\W i m σ' H') (by rw [AX];exact hu) I10 (by rw [pX,wX];exact S) hb hn fun o vc s' S' hm hl I'=>again I' (nx o vc (by rw [pX,wX] at S';exact S') hm hl)
    rw [pX,wX,AX,xX] at P
    exact P
 have l0:=loop _ rfl
 rw [eX] at l0
 exact uD l0 (T.self X.A 0 _ _ _ G l0)
theorem zga {X:Cx}{pos:Pos}{te:TE}{elt tg iter:Expr}{ifs:List Expr}{scope:Scope}{wi:TI}{g:TG}{ti:TT}{N:List Str}{cix:List (Option Nat)}(hu:X.A.units+1<cLine)(hc:X.calm=true)(c:CompOk X scope N cix)
  (hi:QI X tg iter wi) (hg:∀ C s H ex,QG (zt X scope N C s H ex) tg g) (ht:∀ C s H ex,QTs (zt X scope N C s H ex) ifs ti) (he:∀ C s H ex,QE (zt X scope N C s H ex) elt te)
  (hs:∀ x,foldedSetIterable iter X.env x=pure x:=by intro _;rfl):QE X (.SetComp elt [⟨tg,iter,ifs,0⟩] scope pos) (zno X.prog X.w wi g ti te cix):=
 ⟨zf7 hu hc c hi.run (fun C s H ex=>(hg C s H ex).run) (fun C s H ex=>(ht C s H ex).run) (fun C s H ex=>(he C s H ex).run) hs⟩
section
variable {P:Program}{w:World}{K:PySem.W.Frag}{a acc:Addr}{xs:List V}{g:TG}{ti:TT}{te:TE}{σ:St}{H:Hp}{Q:VK}
end
open PySem
theorem zin (H:Hp):xB H H:=fun _ _ z=>z
open PySem PySem.Spec PyProof.Rows
structure FunD (K:PySem.W.Frag)(x qual:Str)(st:Stmt)(f:Addr)(fd:FuncData):Prop where
 ex:∃ (oc:Value) (od:Option Addr) (dV kV doc pm:Value) (an:Option Addr) (cdv ct:Value) (osl:Array (Option Value)),
  fd=PySem.W.fnOf x qual (zv st) (zp st) (zc st) dV kV doc pm an cdv ct/\K.lookup f=some ⟨oc,od,.func fd,osl⟩/\PySem.W.codeIn K cdv qual=true
 kp:PySem.W.keepIn K (.ref f)=true
theorem FunD.okQ {P:Program}{w:World}{K:PySem.W.Frag}{mg:Str->Option Value}{base:Heap}{x qual:Str}{st:Stmt}{f:Addr}{fd:FuncData}{N ps:List Str}{k:Nat}{sp:Sp}(F:FunD K x qual st f fd)(S:FnScope N ps (zc st))(len:∀ vs H Q E,sp vs H Q E->vs.length=ps.length)
  (hbody:∀ (a:Value) (A:Around) (outer:List Env) (s:Shared) (H:Hp) (vs:List V) (Q:VK) (E:XK),Room k (A.deeper (envOfC qual (zc st) s.heap.objs.size f a))->sp vs H Q E->
   ∃ t,QSs (zdz CX0 P w K mg base N qual (zc st) f a A outer s H E).nox (zp st) t/\t { nx:=fun _ H'=>Q .non H',rt:=Q } (uc N vs) H):FnOk P w K mg base CX0 (k+1) f fd ps sp:=by
 obtain ⟨oc,od,dV,kV,doc,pm,an,a,ct,d,rfl,lk,b⟩:=F.ex
 refine zod lk b S len fun A outer s H vs Q E hr c=>?_
 obtain ⟨t,h,q⟩:=hbody a A outer s H vs Q E hr c
 exact ⟨t,h.run.nox,q⟩
structure DfnD (K:PySem.W.Frag)(mg:Str->Option Value)(x:Str)(st:Stmt)(ps:List Str)(ds:List Value)(f:Addr)(fd:FuncData):Prop where
 F:FunD K x x st f fd
 b:zcG K fd ps []
 bd:zcG K fd ps ds
 m:mg x=some (.ref f)
section
variable {X:Cx}
theorem zpo {x:Str}{st:Stmt}{ps:List Str}{ds:List Value}{f:Addr}{fd:FuncData}{sp:Sp}{j k:Nat}{e:Expr}{es:List Expr}{t:TA}{p pos:Pos}(D:DfnD X.K X.mg x st ps ds f fd)(G:FnOk X.prog X.w X.K X.mg X.base CX0 j f fd ps sp)(hr:Room k X.A)
  (ha:QA X (e::es) t) (hjk:j<=k:=by decide) (hg:Gl X x:=by rfl) (hdb:(x==("__debug__" : Str))=false:=by decide) (he:starEach (e::es) X.env=(false,eval e X.env)::starEach es X.env:=by rfl) (hpl:(backTo pos (starEach es X.env)).any (·.1)=false:=by rfl) :
  QE X (.Call (.Name x p) (e::es) [] pos) (zef sp [] E0 t):=
 ⟨zh2 G (hr.mono hjk) hg D.m D.F.kp D.b .nil zoW ha.run hdb he hpl⟩
end
theorem zly {K:PySem.W.Frag}{x qual:Str}{st:Stmt}{f:Addr}{oc:Value}{od an:Option Addr}{osl:Array (Option Value)}{dV kV doc pm cdv ct:Value}(l:K.lookup f=some ⟨oc,od,.func (PySem.W.fnOf x qual (zv st) (zp st) (zc st) dV kV doc pm an cdv ct),osl⟩)
  (c:PySem.W.codeIn K cdv qual=true) (k:PySem.W.keepIn K (.ref f)=true):FunD K x qual st f (PySem.W.fnOf x qual (zv st) (zp st) (zc st) dV kV doc pm an cdv ct):=⟨⟨oc,od,dV,kV,doc,pm,an,cdv,ct,osl,rfl,l,c⟩,k⟩
theorem zko {K:PySem.W.Frag}{fd:FuncData}{f:Addr}{oc:Value}{od':Option Addr}{osl:Array (Option Value)}(l:K.lookup f=some ⟨oc,od',.func fd,osl⟩){ps:List Str}{ds:List Value}{T:Addr}{ot:Value}{od:Option Addr}{items:Array Value}{n:Nat}{sl:Array (Option Value)}(hd:fd.defaults = .ref T)(ht:K.lookup T=some ⟨ot,od,.seq items n,sl⟩)
  (h:∀ us:List Value,(us++ds).length=ps.length->∃ k:Option (Array Value)->Sem (List (Str×Value)),bindArgs fd ⟨us,[]⟩=seqItems? fd.defaults >>= k/\k (some items)=pure (ps.zip (us++ds))):zcG K fd ps ds:=fun s us KX hl=>by
 obtain ⟨k,h1,h2⟩:=h us hl
 exact .of_defaults hd (KX _ _ ht) rfl h1 h2
open PySem PySem.Spec PyProof.Rows PySem.W PySem.Calls
section
variable {prog:Program}{w:World}{A:Around}{E:Value->Shared->Prop}{s:Shared}{es:Array DictEntry}
def zaW (h:Heap)(d:Addr)(es:Array DictEntry)(ep:Nat):Prop:=∃ o,h.get? d=some o/\o.ExactDict/\o.data = .dict es ep
theorem zaW.keep {h h':Heap}{d:Addr}{ep:Nat}(x:zaW h d es ep)(k:∀ o,h.get? d=some o->h'.get? d=some o):zaW h' d es ep:=let ⟨o,ho,r⟩:=x;⟨o,k o ho,r⟩
theorem zaW.typeIs {d:Addr}{ep:Nat}(x:zaW s.heap d es ep):s.TypeIs (.ref d) "dict" := let ⟨o,ho,hc,_⟩:=x;⟨o,ho,hc.1⟩
theorem zaW.lt {h:Heap}{d:Addr}{ep:Nat}(x:zaW h d es ep):d<h.objs.size:=let ⟨o,ho,_⟩:=x;Heap.lt_size ho
theorem zhg {d:Addr}{ep:Nat}{Q:Value->Shared->Prop}(hd:(d==sysModules)=false)(hm:zaW s.heap d es ep)
  (hQ:Q (.ref s.heap.objs.size) { s with heap:=s.heap.push { cls:=.type "dict_keyiterator",data:=.fields #[.ref d,.int 0 0,.int es.size 0,.int ep 0] } }) :
  wpAny (model prog w) A (pyIter (.ref d)) Q E s:=by
 obtain ⟨o,ho,hc,a⟩:=id hm
 have hT:=hm.typeIs
 refine wpAny_pyIter_slot hT PySem.F.slot_dict_iter (wpAny_call_entry PySem.F.slot_dict_iter hT PySem.F.entry_dict_iter ?_ (PySem.F.args_dict_iter_1 _))
 unfold Builtin.«dict.__iter__»
 refine wpAny_bind ?_
 unfold Builtin.Dict.dictSlotNone
 refine wpAny_bind (wpAny_notOrdered_dict hT ?_)
 show wpAny _ _ (pure (Value.ref d)) _ _ s
 refine wpAny_pure ?_
 show wpAny _ _ (Builtin.Dict.showsAll d >>= _) _ _ s
 unfold Builtin.Dict.showsAll
 rw [if_neg (by rw [hd];exact Bool.false_ne_true)]
 refine wpAny_bind (wpAny_pure ?_)
 refine wpAny_bind (wpAny_dictEntries ho a ?_)
 refine wpAny_bind (wpAny_dictEpoch ho a ?_)
 refine wpAny_bind (wpAny_newObj_type (wpAny_pure ⟨_,rfl,"dict_keyiterator",_,⟨_,Heap.get?_push_size _ rfl,rfl⟩,PySem.F.slot_dict_keyiterator_next.lookup,?_⟩))
 simpa [rawInt] using hQ
theorem zf4 {it d:Addr}{i ep:Nat}{e:DictEntry}{Q:Option Value->Shared->Prop}(hit:s.heap.IsKeyIter it d i es.size ep)(hm:zaW s.heap d es ep)(hx:es[i]?=some e)
  (hQ:∀ h',h'.IsKeyIter it d (i+1) es.size ep->Heap.SameBut it s.heap h'->Q (some e.key) { s with heap:=h' }):wpAny (model prog w) A (pyNext (.ref it)) Q E s:=by
 obtain ⟨o,ho,hc,hd⟩:=id hit
 obtain ⟨od,b,g,c⟩:=id hm
 unfold pyNext
 refine wpAny_bind (wpAny_attempt (wpAny_callSpecial?_slot (name:=Str.ofString "__next__") hit.typeIs PySem.F.slot_dict_keyiterator_next
  (wpAny_call_entry PySem.F.slot_dict_keyiterator_next hit.typeIs PySem.F.entry_dict_keyiterator_next ?_ (PySem.F.args_dict_keyiterator_next_1 _))))
 refine wpAny_bind (wpAny_pure ?_)
 refine wpAny_bind ?_
 refine wpAny_bind ?_
 first | refine wpAny_bind (wpAny_typeNameOfWhole_keyiter hit.typeIs (wpAny_pure ?_)) | refine wpAny_bind (wpAny_typeNameOf_keyiter hit.typeIs (wpAny_pure ?_))
 refine wpAny_bind (wpAny_fieldsOf ho hd ?_)
 have f:Builtin.Dict_items.ownsTuple "dict_keyiterator" = false:=by decide
 simp only [f,Bool.false_eq_true,if_false]
 show wpAny _ _ (if (Value.ref d==Value.none)=true then _ else _) _ _ s
 rw [if_neg (show ¬ ((Value.ref d==Value.none)=true) from Bool.false_ne_true)]
 refine wpAny_bind (wpAny_pure ?_)
 refine wpAny_bind (wpAny_dictEntries b c ?_)
 rw [if_neg (by simp)]
 refine wpAny_bind (wpAny_pure ?_)
 refine wpAny_bind (wpAny_dictEpoch b c ?_)
 rw [if_neg (by simp)]
 refine wpAny_pure ?_
 simp only [show ¬ ((i:Int)<0) from by lia,if_false,Int.toNat_natCast,hx]
 refine wpAny_bind ?_
 first | refine wpAny_bind (wpAny_typeNameOfWhole_keyiter hit.typeIs (wpAny_pure ?_)) | refine wpAny_bind (wpAny_typeNameOf_keyiter hit.typeIs (wpAny_pure ?_))
 refine wpAny_bind (wpAny_isOneOf_keyiter hit.typeIs ?_)
 show wpAny _ _ (setField (.ref it) 1 (rawInt ((i:Int)+1)) >>= _) _ _ s
 refine wpAny_bind (wpAny_setField ho hd (by simp) ?_)
 have a:(s.heap.update it (Obj.mapFields (·.setIfInBounds 1 (rawInt ((i:Int)+1))))).IsKeyIter it d (i+1) es.size ep:=
  ⟨_,Heap.get?_update_self _ ho (Obj.isFreed_of_fields (Obj.data_mapFields hd _)),(Obj.cls_mapFields ..).trans hc,by rw [Obj.data_mapFields hd];simp [rawInt]⟩
 refine wpAny_bind (wpAny_holding ?_)
 refine wpAny_bind (wpAny_isOneOf_keyiter (s:={ s with heap:=s.heap.update it (Obj.mapFields (·.setIfInBounds 1 (rawInt ((i:Int)+1)))) }) a.typeIs ?_)
 show wpAny _ _ (pure e.key) _ _ _
 exact wpAny_pure (wpAny_pure ⟨_,rfl,wpAny_pure (hQ _ a (Heap.SameBut.update ..))⟩)
theorem zhP {it d:Addr}{ep:Nat}{Q:Option Value->Shared->Prop}(hh:A.handled=none)(hit:s.heap.IsKeyIter it d es.size es.size ep)(hm:zaW s.heap d es ep)
  (hQ:∀ h',Heap.ExtBut it s.heap h'->Q none { s with heap:=h' }):wpAny (model prog w) A (pyNext (.ref it)) Q E s:=by
 obtain ⟨o,ho,hc,hd⟩:=id hit
 obtain ⟨od,c,g,e⟩:=id hm
 unfold pyNext
 refine wpAny_bind (wpAny_attempt (wpAny_callSpecial?_slot (name:=Str.ofString "__next__") hit.typeIs PySem.F.slot_dict_keyiterator_next
  (wpAny_call_entry PySem.F.slot_dict_keyiterator_next hit.typeIs PySem.F.entry_dict_keyiterator_next ?_ (PySem.F.args_dict_keyiterator_next_1 _))))
 refine wpAny_bind (wpAny_pure ?_)
 refine wpAny_bind ?_
 refine wpAny_bind ?_
 first | refine wpAny_bind (wpAny_typeNameOfWhole_keyiter hit.typeIs (wpAny_pure ?_)) | refine wpAny_bind (wpAny_typeNameOf_keyiter hit.typeIs (wpAny_pure ?_))
 refine wpAny_bind (wpAny_fieldsOf ho hd ?_)
 have f:Builtin.Dict_items.ownsTuple "dict_keyiterator" = false:=by decide
 simp only [f,Bool.false_eq_true,if_false]
 show wpAny _ _ (if (Value.ref d==Value.none)=true then _ else _) _ _ s
 rw [if_neg (show ¬ ((Value.ref d==Value.none)=true) from Bool.false_ne_true)]
 refine wpAny_bind (wpAny_pure ?_)
 refine wpAny_bind (wpAny_dictEntries c e ?_)
 rw [if_neg (by simp)]
 refine wpAny_bind (wpAny_pure ?_)
 refine wpAny_bind (wpAny_dictEpoch c e ?_)
 rw [if_neg (by simp)]
 refine wpAny_pure ?_
 simp only [show ¬ ((es.size:Int)<0) from by lia,if_false,Int.toNat_natCast,Array.getElem?_eq_none (Nat.le_refl es.size)]
 refine wpAny_bind ?_
 first | refine wpAny_bind (wpAny_typeNameOfWhole_keyiter hit.typeIs (wpAny_pure ?_)) | refine wpAny_bind (wpAny_typeNameOf_keyiter hit.typeIs (wpAny_pure ?_))
 show wpAny _ _ (setField (.ref it) 0 .none >>= _) _ _ s
 refine wpAny_bind (wpAny_setField ho hd (by simp) ?_)
 show wpAny _ _ (newExc (.type "StopIteration") [] >>= _) _ _ _
 refine wpAny_bind ?_
 simp only [newExc,newTuple]
 refine wpAny_bind (wpAny_newObj_type ?_ (by size_fits))
 refine wpAny_bind (m:=firstArgMember _ _) (wpAny_of_eq (a:=Value.none) (by first | rfl | (simp only [firstArgMember];rfl)) ?_)
 refine wpAny_newObj_type ?_ (by size_fits)
 simp only [raiseNew]
 refine wpAny_bind (wpAny_handled ?_)
 rw [show A.in1.handled=none from hh]
 refine wpAny_bind (wpAny_pure (wpAny_throw ?_))
 refine wpAny_bind (wpAny_isInstance (T := "StopIteration") (b:=true) ⟨_,Heap.get?_push_size _ rfl,rfl⟩ isSubtype_stop ?_)
 exact wpAny_pure (hQ _ (((Heap.SameBut.update ..).extBut.push _).push _))
theorem zfX (hh:A.handled=none)(I d:Addr)(hne:d≠I)(ep:Nat) :
  Walks prog w A I [I,d] [I] es.size (fun i v=>∃ e,es[i]?=some e/\v=e.key) (fun i h=>h.IsKeyIter I d i es.size ep/\zaW h d es ep) where
 sub:=fun b hb=>by simp at hb;simp [hb]
 frame:=fun _ _ _ st hk=>⟨let ⟨o,ho,r⟩:=st.1;⟨o,hk I (by simp) o ho,r⟩,st.2.keep fun o e=>hk d (by simp) o e⟩
 item:=fun i s Q E hi st hQ=>by
  refine zf4 st.1 st.2 (Array.getElem?_eq_getElem hi) fun h' a sb=>?_
  exact hQ _ h' s.toks ⟨_,Array.getElem?_eq_getElem hi,rfl⟩ ⟨a,st.2.keep fun o e=>(sb.2 d hne).trans e⟩ fun b o hb e=>sb.extBut b o (fun h=>hb (by simp [h])) e
 done:=fun s Q E st hQ=>zhP hh st.1 st.2 fun h' c=>hQ h' s.toks fun b o hb e=>c b o (fun h=>hb (by simp [h])) e
 self:=fun _ _ _ _ st hQ=>wpAny_pyIter_keyiter st.1 hQ
theorem zi4 (d:Addr)(ep:Nat)(lo:(d==sysModules)=false):KdlSrc prog w "dict" d d es.size (fun i v=>∃ e,es[i]?=some e/\v=e.key) (fun h=>zaW h d es ep) where
 type:=fun s S=>S.typeIs
 there:=fun _ S=>⟨S.lt,S.lt⟩
 keep:=fun _ _ S hk=>S.keep fun o e=>hk d (.inl rfl) o e
 notList:=by decide
 notTuple:=by decide
 hint:=fun _ _ _ _ S hq=>kdl_hint_dict S.typeIs hq
 iter:=fun A s hh S=>⟨_,_,(fun _ _ hq=>zhg lo S hq),zfX hh _ d (Nat.ne_of_lt S.lt) ep,⟨⟨_,Heap.get?_push_size _ rfl,rfl,rfl⟩,S.keep fun o e=>Heap.get?_push_of_some _ e⟩⟩
end
section
variable {prog:Program}{w:World}{A:Around}{E:Value->Shared->Prop}{s:Shared}
end
section
variable {X:Cx}
end
def zhr (kvs:List (List Int×V)):List (List Key×V):=kvs.map fun q=>(q.1.map Sum.inl,q.2)
def dtO (kvs:List (List Int×V)):HO:=.dT (zhr kvs)
theorem zjt (kvs:List (List Int×V))(st:List Int)(v:V):za8 (zhr kvs) (st.map Sum.inl) v=zhr (za8 kvs st v):=by
 have hd:∀ q:List Int×V,decide ((q.1.map (Sum.inl:Int->Key))=st.map Sum.inl)=decide (q.1=st):=fun q=>by
  rw [Bool.eq_iff_iff,decide_eq_true_eq,decide_eq_true_eq]
  exact ⟨uj,fun z=>by rw [z]⟩
 have ha:((zhr kvs).any fun kv=>decide (kv.1=st.map Sum.inl))=kvs.any fun kv=>decide (kv.1=st):=by
  unfold zhr
  rw [List.any_map]
  congr 1
  funext q
  exact hd q
 unfold za8
 rw [ha]
 by_cases h:(kvs.any fun kv=>decide (kv.1=st))=true
 ·rw [if_pos h,if_pos h]
  unfold zhr
  rw [List.map_map,List.map_map]
  refine List.map_congr_left fun q _=>?_
  by_cases e:q.1=st
  ·show (if (q.1.map Sum.inl)=st.map Sum.inl then _ else _)=_
   rw [if_pos (by rw [e])]
   show _=(fun q:List Int×V=>(q.1.map (Sum.inl:Int->Key),q.2)) (if q.1=st then (q.1,v) else q)
   rw [if_pos e]
  ·show (if (q.1.map Sum.inl)=st.map Sum.inl then _ else _)=_
   rw [if_neg fun z=>e (uj z)]
   show _=(fun q:List Int×V=>(q.1.map (Sum.inl:Int->Key),q.2)) (if q.1=st then (q.1,v) else q)
   rw [if_neg e]
 ·rw [if_neg h,if_neg h]
  unfold zhr
  rw [List.map_append]
  rfl
theorem zfc.i {H:Hp}{a b:Addr}{kvs:List (List Int×V)}{st:List Int}{v:V}(e:H a=some (dtO kvs))(eb:H b=some (.tup (st.map V.int)))(hl:kvs.length<sizeLine):zfc H a (.ref b) v (upd H a (dtO (za8 kvs st v))):=by
 have:=zfc.t (k:=st.map Sum.inl) (v:=v) e (by rw [zeN];exact eb) (by unfold zhr;rw [List.length_map];exact hl)
 rwa [zjt] at this
def znl:TE:=fun _ H Q=>New H (dtO []) Q
section
variable {X:Cx}
theorem zj1 {pos:Pos}:QE X (.Dict [] [] pos) znl:=⟨fun pins s σ H Q I h=>zjP pins s σ H Q I fun p hp=>h.at hp⟩
theorem zln {pins:List (Addr×Obj)}{σ:St}{H:Hp}{s:Shared}(I:Inv X pins σ H s){a:Addr}{b:List (List Int×V)}(h:H a=some (dtO b)) :
  (a==sysModules)=false/\∃ (es:Array DictEntry) (ep:Nat) (ys:List (List Int×Addr)),zaW s.heap a es ep/\ys.map (·.1)=b.map (·.1)/\(∀ q∈ys,H q.2=some (.tup (q.1.map V.int)))/\es.toList.map (·.key)=ys.map (fun q=>Value.ref q.2)/\b.length<=sizeLine/\(b.map (·.1)).Nodup:=by
 obtain ⟨z,lo,xs,r,o,es,ep,h1,h2,h3,h4,h5⟩:=(show yh X.prog X.w H s.heap a (.dT (zhr b)) from I.hok a _ h)
 have gen:∀ {b:List (List Int×V)} {xs:List (List Key×Addr×Value)},Paired (fun (p:List Key×V) (q:List Key×Addr×Value)=>p.1=q.1/\H q.2.1=some (.tup (p.1.map kV))/\yu p.2 q.2.2) (zhr b) xs->
   ∃ ys:List (List Int×Addr),ys.map (·.1)=b.map (·.1)/\(∀ q∈ys,H q.2=some (.tup (q.1.map V.int)))/\xs.map (fun q=>Value.ref q.2.1)=ys.map (fun q=>Value.ref q.2)/\xs.map (·.1)=b.map (fun q=>q.1.map Sum.inl):=by
  intro b
  induction b with
  | nil=>intro xs r;cases r;exact ⟨[],rfl,fun _ h=>by simp at h,rfl,rfl⟩
  | cons q b ih=>
   intro xs r
   cases r with
   | cons r1 r2=>
    rename_i x d
    obtain ⟨ys,e1,e2,e3,e4⟩:=ih r2
    refine ⟨(q.1,x.2.1)::ys,by rw [List.map_cons,List.map_cons,e1],fun y hy=>?_,by rw [List.map_cons,List.map_cons,e3],by rw [List.map_cons,List.map_cons,e4];congr 1;exact r1.1.symm⟩
    rcases List.mem_cons.mp hy with rfl | hy
    ·have:=r1.2.1
     rwa [show ((q.1.map Sum.inl,q.2):List Key×V).1=q.1.map Sum.inl from rfl,zeN] at this
    ·exact e2 y hy
 obtain ⟨ys,e1,e2,e3,e4⟩:=gen r
 refine ⟨lo,es,ep,ys,⟨o,h1,h2,h3⟩,e1,e2,?_,?_,?_⟩
 ·rw [h4,List.map_map,<- e3]
  rfl
 ·unfold zhr at z
  rwa [List.length_map] at z
 ·rw [e4] at h5
  have c:((b.map (·.1)).map fun st:List Int=>st.map (Sum.inl:Int->Key)).Nodup:=by rw [List.map_map];exact h5
  exact (List.pairwise_map.mp c).imp fun h z=>h (by rw [z])
def zie:List V->Hp->VK->Prop:=fun xs H Q=>∃ (a:Addr) (kvs:List (List Int×V)),xs=[.ref a]/\H a=some (dtO kvs)/\((kvs.map (·.1)).Nodup->∀ ys:List V,IsL H ((kvs.map (·.1)).map stD) ys->New H (.lst ys) Q)
theorem ziZ (hc:X.calm=true):CallQ X (.type "list") zie:=⟨by
 intro pins s σ H xs us Q I r h
 obtain ⟨a,f,rfl,ha,q⟩:=h
 obtain ⟨u,rfl,ru⟩:=zaU r
 cases ru
 obtain ⟨lo,es,ep,ys,E,e1,e2,e3,hz,g⟩:=zln I ha
 have hl:es.size=ys.length:=by
  have:=congrArg List.length e3
  rwa [List.length_map,List.length_map,Array.length_toList] at this
 have b:ys.length=f.length:=by
  have:=congrArg List.length e1
  rwa [List.length_map,List.length_map] at this
 refine kdl_call (zi4 (es:=es) a ep lo) (I.ok.hd hc) E (by rw [hl,b];exact hz) fun h' tk acc c kp hg hit=>?_
 have d:acc.toList=ys.map fun q=>Value.ref q.2:=by
  rw [<- e3]
  refine List.ext_getElem (by rw [Array.length_toList,hit.1,List.length_map,Array.length_toList]) fun j h1 h2=>?_
  obtain ⟨e,he,hv⟩:=hit.2 j acc.toList[j] (by rw [zaZ,List.getElem?_eq_getElem h1])
  rw [hv,List.getElem_map]
  rw [zaZ] at he
  rw [List.length_map] at h2
  rw [List.getElem?_eq_getElem h2] at he
  rw [Option.some.inj he]
 refine ⟨.ref s.heap.objs.size,_,I.laid (t':=tk) (o:=.lst (ys.map fun q=>V.ref q.2)) kp (Nat.le_refl _) ⟨by rw [List.length_map,b];exact hz,ys.map (fun q=>Value.ref q.2),c,zb8 ys,?_⟩,rfl,(q g _ ?_).at (I.hok.fresh (Nat.le_refl _))⟩
 ·rw [<- d,Array.toArray_toList]
  exact hg
 ·rw [<- e1]
  exact zc2 e2⟩
end
open PySem PySem.Spec PyProof.Rows
abbrev Up' (l:List (List Int)):Prop:=l.Pairwise fun a b=>HT.lexLt a b=true
def zlF (x:List Int):List (List Int)->List (List Int)
 | []=>[x]
 | y::r=>if HT.lexLt x y then x::y::r else if x=y then y::r else y::zlF x r
def zgi (l:List (List Int)):List (List Int):=l.foldr zlF []
theorem zcZ {x z:List Int}:∀ {l:List (List Int)},z∈zlF x l↔z=x\/z∈l
 | []=>by show z∈[x]↔_;simp
 | y::r=>by
  unfold zlF
  split
  ·simp
  ·split
   ·rename_i e
    subst e
    simp
   ·rw [List.mem_cons,zcZ,List.mem_cons]
    constructor
    ·rintro (h | h | h)
     ·exact .inr (.inl h)
     ·exact .inl h
     ·exact .inr (.inr h)
    ·rintro (h | h | h)
     ·exact .inr (.inl h)
     ·exact .inl h
     ·exact .inr (.inr h)
theorem zaS {z:List Int}:∀ {l:List (List Int)},z∈zgi l↔z∈l
 | []=>Iff.rfl
 | x::l=>by
  show z∈zlF x (zgi l)↔_
  rw [zcZ,zaS,List.mem_cons]
theorem zhb {x:List Int}{m:Nat}(hx:x.length=m):∀ {l:List (List Int)},(∀ y∈l,y.length=m)->Up' l->Up' (zlF x l)
 | [],_,_=>List.pairwise_singleton _ _
 | y::r,hl,hu=>by
  have hy:=hl y List.mem_cons_self
  rw [Up',List.pairwise_cons] at hu
  unfold zlF
  split
  ·rename_i h
   refine List.pairwise_cons.mpr ⟨fun z hz=>?_,List.pairwise_cons.mpr hu⟩
   rcases List.mem_cons.mp hz with rfl | hz
   ·exact h
   ·exact zaG (hx.trans hy.symm) (hy.trans (hl z (List.mem_cons_of_mem _ hz)).symm) h (hu.1 z hz)
  ·rename_i h
   split
   ·exact List.pairwise_cons.mpr hu
   ·rename_i c
    refine List.pairwise_cons.mpr ⟨fun z hz=>?_,zhb hx (fun z hz=>hl z (List.mem_cons_of_mem _ hz)) hu.2⟩
    rcases zcZ.mp hz with rfl | hz
    ·rcases uK (a:=z) (b:=y) (hx.trans hy.symm) with e | e | e
     ·exact absurd e c
     ·exact absurd e h
     ·exact e
    ·exact hu.1 z hz
theorem ziu {m:Nat}{l:List (List Int)}(h:∀ y∈l,y.length=m):∀ y∈zgi l,y.length=m:=fun y hy=>h y (zaS.mp hy)
theorem zfJ {m:Nat}:∀ {l:List (List Int)},(∀ y∈l,y.length=m)->Up' (zgi l)
 | [],_=>.nil
 | x::l,h=>zhb (h x List.mem_cons_self) (ziu fun y hy=>h y (List.mem_cons_of_mem _ hy)) (zfJ fun y hy=>h y (List.mem_cons_of_mem _ hy))
theorem ziG {m:Nat}:∀ {l l':List (List Int)},(∀ y∈l,y.length=m)->Up' l->Up' l'->(∀ z,z∈l↔z∈l')->l=l'
 | [],[],_,_,_,_=>rfl
 | [],y::r,_,_,_,h=>absurd ((h y).mpr List.mem_cons_self) (by simp)
 | x::l,[],_,_,_,h=>absurd ((h x).mp List.mem_cons_self) (by simp)
 | x::l,y::r,hm,hu,hu',h=>by
  rw [Up',List.pairwise_cons] at hu hu'
  have b:∀ z∈y::r,z.length=m:=fun z hz=>hm z ((h z).mpr hz)
  have e:x=y:=by
   rcases List.mem_cons.mp ((h x).mp List.mem_cons_self) with e | e
   ·exact e
   ·rcases List.mem_cons.mp ((h y).mpr List.mem_cons_self) with e' | e'
    ·exact e'.symm
    ·have h1:=hu'.1 x e
     have h2:=hu.1 y e'
     have h3:=zaG ((hm x List.mem_cons_self).trans (b y List.mem_cons_self).symm) ((b y List.mem_cons_self).trans (hm x List.mem_cons_self).symm) h2 h1
     rw [x4] at h3
     cases h3
  subst e
  have a:∀ {l:List (List Int)},(∀ z∈l,HT.lexLt x z=true)->x∉l:=fun hl z=>by
   have:=hl x z
   rw [x4] at this
   cases this
  congr 1
  refine ziG (fun z hz=>hm z (List.mem_cons_of_mem _ hz)) hu.2 hu'.2 fun z=>?_
  constructor
  ·intro hz
   rcases List.mem_cons.mp ((h z).mp (List.mem_cons_of_mem _ hz)) with e | e
   ·subst e;exact absurd hz (a hu.1)
   ·exact e
  ·intro hz
   rcases List.mem_cons.mp ((h z).mpr (List.mem_cons_of_mem _ hz)) with e | e
   ·subst e;exact absurd hz (a hu'.1)
   ·exact e
theorem zke {m:Nat}{l l':List (List Int)}(hm:∀ y∈l,y.length=m)(hu:Up' l')(h:∀ z,z∈l'↔z∈l):l'=zgi l:=
 ziG (fun y hy=>hm y ((h y).mp hy)) hu (zfJ hm) fun z=>(h z).trans zaS.symm
def xa (bk:List Wi)(st hs:List Int):List (List Int):=(bk.filter fun x=>za2 st x&&!hs.contains x.b).map fun x=>chg st x.b x.r
def ziL (bk:List Wi)(st hs:List Int):List (List Int):=zgi (xa bk st hs)
theorem zdT {bk:List Wi}{st hs z:List Int}:z∈xa bk st hs↔∃ x∈bk,za2 st x=true/\x.b∉hs/\z=chg st x.b x.r:=by
 unfold xa
 rw [List.mem_map]
 constructor
 ·rintro ⟨x,hx,rfl⟩
  rw [List.mem_filter,Bool.and_eq_true] at hx
  refine ⟨x,hx.1,hx.2.1,fun z=>?_,rfl⟩
  have:=hx.2.2
  rw [List.contains_iff_mem.mpr z] at this
  cases this
 ·rintro ⟨x,h1,h2,h3,rfl⟩
  refine ⟨x,List.mem_filter.mpr ⟨h1,?_⟩,rfl⟩
  rw [h2,Bool.true_and]
  cases e:hs.contains x.b with
  | false=>rfl
  | true=>exact absurd (List.contains_iff_mem.mp e) h3
theorem zbH {rm:List Int}{bk:List Wi}{st hs:List Int}(hok:∀ x∈bk,WishOk rm x)(hl:st.length=rm.length):∀ z∈xa bk st hs,z.length=rm.length:=fun z hz=>by
 obtain ⟨x,hx,_,_,rfl⟩:=zdT.mp hz
 have h1:=(hok x hx).b1
 rw [zgy (hok x hx).b0 (by lia)]
 exact hl
theorem zd3 {α:Type}[BEq α][LawfulBEq α]:∀ {l l':List α},l.Nodup->(∀ x∈l,x∈l')->l.length<=l'.length
 | [],_,_,_=>Nat.zero_le _
 | a::l,l',hn,h=>by
  rw [List.nodup_cons] at hn
  have ha:=h a List.mem_cons_self
  have:=zd3 (l:=l) (l':=l'.erase a) hn.2 fun x hx=>by
   have b:x≠a:=fun z=>hn.1 (by rw [<- z];exact hx)
   exact (List.mem_erase_of_ne b).mpr (h x (List.mem_cons_of_mem _ hx))
  rw [List.length_erase_of_mem ha] at this
  have:0<l'.length:=List.length_pos_of_mem ha
  rw [List.length_cons]
  lia
theorem zdS {rm:List Int}{bk:List Wi}{st hs:List Int}{ks:List (List Int)}(hok:∀ x∈bk,WishOk rm x)(h8:rm.length<=8)(hb:∀ r∈rm,2<=r/\r<=4)(hn:ks.Nodup)(hk:∀ z∈ks,z∈xa bk st hs):ks.length<=32:=by
 have:=zd3 (l':=(List.range 32).map fun c=>chg st ((c / 4:Nat):Int) ((c % 4:Nat):Int)) hn fun z hz=>by
  obtain ⟨x,hx,_,_,rfl⟩:=zdT.mp (hk z hz)
  have o:=hok x hx
  have h1:=o.b1
  have h2:=o.b0
  have h3:=o.r0
  have h4:=o.r1
  have h5:=(yN hb h2 h1).2
  refine List.mem_map.mpr ⟨4 * x.b.toNat+x.r.toNat,List.mem_range.mpr (by lia),?_⟩
  rw [show (4 * x.b.toNat+x.r.toNat) / 4=x.b.toNat by lia,show (4 * x.b.toNat+x.r.toNat) % 4=x.r.toNat by lia,Int.toNat_of_nonneg h2,Int.toNat_of_nonneg h3]
 rw [List.length_map,List.length_range] at this
 exact this
open PySem
end L2
namespace L2
open PySem PySem.Spec PyProof.Rows PySem.SeqAt
section
variable {X:Cx}
end
open PySem PySem.Spec PyProof.Rows
def zkh (C:Nat->Nat->Bool)(w j:Nat):List (List Int):=((List.range j).filter (C w)).map fun b:Nat=>[(w:Int),(b:Int)]
def zr5 (C:Nat->Nat->Bool)(n:Nat):Nat->List (List Int)
 | 0=>[]
 | i+1=>zr5 C n i++zkh C i n
open PySem PySem.Spec PyProof.Rows PySem.W PySem.Calls
section
variable {prog:Program}{w:World}{A:Around}{E:Value->Shared->Prop}{s:Shared}{R:Result->Shared->Prop}
end
section
variable {X:Cx}
end
open PySem PySem.Spec PyProof.Rows
section
variable {X:Cx}{e st:Expr}{te tk:TE}{pos p2:Pos}
end
def unlike (one z hs:List Int):List Int:=hs.filter fun b=>decide (zK one b≠zK z b)
section
variable {X:Cx}{pos:Pos}
end
end L2
namespace L2
open PySem PySem.Spec PyProof.Rows
end L2
namespace L2
open PySem PySem.Spec PyProof.Rows
section
variable {M:Model}{A:Around}{E:Value->Shared->Prop}{s:Shared}
end
section
variable {X:Cx}{pins:List (Addr×Obj)}{σ:St}{H:Hp}{s:Shared}{scope:Scope}{N:List Str}{z:Str}{cix:List (Option Nat)}
end
end L2
namespace L2
open PySem PySem.Spec PyProof.Rows
end L2
namespace L2
open PySem PySem.Spec PyProof.Rows
theorem zdw:typeLookup (.type "tuple") "keys" = pure none:=by rw [typeLookup_type,builtinLookup_eq_fast];kernel_rfl
theorem zbD {prog:Program}{w:World}{A:Around}{E:Value->Shared->Prop}{s:Shared}{a:Addr}{o:Obj}{xs:Array Value}{k:Nat}{name:Str}{Q:Option Value->Shared->Prop}
  (hx:s.heap.get? a=some o) (hc:o.cls = .type "tuple") (hdat:o.data = .seq xs k) (hd:o.dict=none) (hmiss:typeLookup (.type "tuple") name=pure none) (hname:(["__module__","__name__","__qualname__","__doc__","__annotations__"]:List Str).contains name=false) (hA:A.handled=none)
  (h:∀ h' tk e,Heap.NewExcOf s.heap h' e "AttributeError" -> Q none { s with heap:=h',toks:=tk }) (hsz:name.length+100<=sizeLine:=by size_fits) :
  wpAny (model prog w) A (getAttr? (.ref a) name) Q E s:=by
 obtain ⟨c,dct,dat,sl⟩:=o
 simp only at hc hdat hd
 subst hc hdat hd
 obtain ⟨hp,g,d,tk,os⟩:=s
 have hT:∀ tk',(⟨hp,g,d,tk',os⟩:Shared).TypeIs (.ref a) "tuple" := fun _=>⟨_,hx,rfl⟩
 have f1:=sub_AttributeError
 have f3:=F.slot_tuple_getattribute.lookup
 have f4:=F.slot_tuple_getattribute.bind (.ref a)
 have f5:=am_tuple_getattr_none
 unfold getAttr? getAttrBy? getAttrBy
 repeat (any_goals (first | assumption | exact hT _ | ((with_reducible show wpAny _ _ (call (Value.builtin "tuple.__getattribute__") _ _) _ _ _);refine call_meets F.slot_tuple_getattribute (hT _) am_entry_tuple_getattribute (F.args_tuple_getattribute_2 _ _) (meets_getattribute_miss_tuple a xs k sl name _ hmiss hname hsz) ⟨hx,hA,fun h' tk e b=>?_⟩) | wp_step))
 obtain ⟨t',u',he⟩:=b.there
 show wpAny _ _ (getattributeRaised _ _ _ _ _ _ _) _ _ _
 unfold getattributeRaised
 repeat (any_goals (first | assumption | wp_step))
 exact h _ _ _ b.of
theorem yQ:entryFor table "dict.update.loop" = some Builtin.«dict.update.loop»:=entryFor_of_tree (by kernel_rfl)
theorem zR:plainId "dict.update.loop" = true:=by decide +kernel
structure PairAt (h:Heap)(q:Addr×Int×Tok×Value):Prop where
 at':IsTup h q.1 #[.int q.2.1 q.2.2.1,q.2.2.2]
theorem PairAt.keep {h h':Heap}{q:Addr×Int×Tok×Value}(x:PairAt h q)(k:∀ o,h.get? q.1=some o->h'.get? q.1=some o):PairAt h' q:=by
 obtain ⟨o,ho,r⟩:=x.at'
 exact ⟨⟨o,k o ho,r⟩⟩
section
variable {prog:Program}{w:World}{A:Around}{E:Value->Shared->Prop}{s:Shared}{R:Result->Shared->Prop}{Kt:Type}[DecidableEq Kt]{knd:KeyKind prog w Kt}{κ:Int->Kt}
theorem zb9 {a:Addr}{o:Obj}{xs:Array Value}{n:Nat}{Q:Option (Array Value)->Shared->Prop}(ho:s.heap.get? a=some o)(hd:o.data = .seq xs n)(h:Q (some xs) s):wpAny (model prog w) A (seqItems? (.ref a)) Q E s:=by
 obtain ⟨c,d,dt,sl⟩:=o
 simp only at hd
 subst hd
 unfold seqItems?
 repeat (any_goals (first | assumption | wp_step))
theorem zgQ {D I l:Addr}{items:Array Value}{ps:List (Addr×Int×Tok×Value)}{tk0:Tok}(hh:A.in1.handled=none)(hkk:∀ n t,knd.is (κ n) (.int n t)=true)(hit:items.toList=ps.map fun q=>Value.ref q.1)(hDI:D≠I)(hlD:l≠D)(hlI:l≠I)(hq:∀ q∈ps,q.1≠D/\q.1≠I)(hn:ps.length<=1000) :
  ∀ (k i:Nat) (s:Shared) (a:List (Kt×Value)) (j:Int) (tj:Tok),ps.length - i=k->i<=ps.length->s.heap.IsTupleIter I l i->s.heap.IsTuple l items->(∀ q∈ps,PairAt s.heap q)->s.heap.DictOf knd D a->a.length<=i->
   (∀ h' m,h'.DictOf knd D (merged a ((ps.drop i).map fun q=>(κ q.2.1,q.2.2.2)))->(∀ b o,b≠D->b≠I->s.heap.get? b=some o->h'.get? b=some o)->R (.ok (.ret .none)) { s with heap:=h',toks:=m })->
   codeAny (model prog w) A (.builtin "dict.update.loop" ⟨[.ref D,.ref I,.int j tj,.none],[]⟩) R s:=by
 intro k
 induction k with
 | zero=>
  intro i s a j tj hk hi hI hl p hD hlen hR
  have u:i=ps.length:=by lia
  subst u
  refine codeAny_builtin yQ ?_
  rw [Around.under_plainId zR _]
  show wpAny _ A.in1 (pyNext (.ref I) >>= _) _ _ s
  refine wpAny_bind (wpAny_pyNext_tuple_end hh hI hl ?_ fun h' hx=>?_)
  ·have e:items.toList[ps.length]?=none:=by rw [hit,List.getElem?_map,List.getElem?_eq_none (Nat.le_refl _)];rfl
   simpa using e
  show wpAny _ A.in1 (Builtin.Dict.addKeywords D [] >>= _) _ _ _
  refine wpAny_bind (wpAny_pure (wpAny_pure (hR h' s.toks ?_ fun b o _ hb e=>hx b o hb e)))
  rw [List.drop_length]
  obtain ⟨o,es,ep,ho,r⟩:=hD
  exact ⟨o,es,ep,hx D o hDI ho,r⟩
 | succ k ih=>
  intro i s a j tj hk hi hI hl p hD hlen hR
  have c:i<ps.length:=by lia
  refine codeAny_builtin yQ ?_
  rw [Around.under_plainId zR _]
  show wpAny _ A.in1 (pyNext (.ref I) >>= _) _ _ s
  have hx:items[i]?=some (Value.ref ps[i].1):=by
   have e:items.toList[i]?=some (Value.ref ps[i].1):=by rw [hit,List.getElem?_map,List.getElem?_eq_getElem c];rfl
   simpa using e
  have v:ps[i]∈ps:=List.getElem_mem c
  refine wpAny_bind (wpAny_pyNext_tuple_item hI hl hx fun h1 x y=>?_)
  have d:∀ b o,b≠I->s.heap.get? b=some o->h1.get? b=some o:=fun b o hb e=>by rw [y.2 b hb];exact e
  have g:∀ q∈ps,PairAt h1 q:=fun q z=>(p q z).keep fun o e=>d _ _ (hq q z).2 e
  have B:h1.DictOf knd D a:=by
   obtain ⟨o,es,ep,ho,r⟩:=hD
   exact ⟨o,es,ep,d _ _ hDI ho,r⟩
  have hp:=(g _ v).at'
  have hT:Shared.TypeIs { s with heap:=h1 } (.ref ps[i].1) "tuple" := hp.typeIs
  refine wpAny_bind (wpAny_holding ?_)
  refine wpAny_bind (wpAny_tryCatch ?_)
  unfold Builtin.Dict.pairItems
  refine wpAny_bind (wpAny_typeOf hT ?_)
  rw [if_pos (by decide)]
  obtain ⟨o,ho,hc,n,hd⟩:=id hp
  refine wpAny_bind (zb9 ho hd ?_)
  refine wpAny_pure ?_
  show wpAny _ _ (holding [Value.int ps[i].2.1 ps[i].2.2.1,ps[i].2.2.2] (dictSet D (Value.int ps[i].2.1 ps[i].2.2.1) ps[i].2.2.2)) _ _ _
  refine wpAny_holding ?_
  refine wpAny_dictSet_pairs (s:={ s with heap:=h1 }) (hkk _ _) B (fun h2 C E=>?_) (by rw [sizeLine_eq];lia)
  have f:∀ b o,b≠D->h1.get? b=some o->h2.get? b=some o:=fun b o hb e=>by rw [E.2 b hb];exact e
  refine wpAny_pure ⟨plainId_quiet zR _,ih (i+1) _ _ (j+1) _ (by lia) c ?_ ?_ ?_ C ?_ ?_⟩
  ·obtain ⟨o,ho,r⟩:=x
   exact ⟨o,f _ _ hDI.symm ho,r⟩
  ·obtain ⟨o,ho,r⟩:=hl
   exact ⟨o,f _ _ hlD (d _ _ hlI ho),r⟩
  ·exact fun q z=>(g q z).keep fun o e=>f _ _ (hq q z).1 e
  ·have:=stored_length_le a (κ ps[i].2.1) ps[i].2.2.2
   lia
  ·intro h' m F kp
   refine hR h' m ?_ fun b o b1 b2 e=>kp b o b1 b2 (f b o b1 (d b o b2 e))
   have e:ps.drop i=ps[i]::ps.drop (i+1):=List.drop_eq_getElem_cons c
   rw [e,List.map_cons]
   exact F
theorem zbE {l:Addr}{items:Array Value}{ps:List (Addr×Int×Tok×Value)}{Q:Value->Shared->Prop}(hh:A.handled=none)(hkk:∀ n t,knd.is (κ n) (.int n t)=true)(hinj:∀ a b,κ a=κ b->a=b)
  (hl:∃ o,s.heap.get? l=some o/\o.cls = .type "tuple" /\ (∃ n,o.data = .seq items n)/\o.dict=none) (hit:items.toList=ps.map fun q=>Value.ref q.1) (hel:∀ q∈ps,PairAt s.heap q) (hn:ps.length<=1000) (hnd:(ps.map (·.2.1)).Nodup)
  (h:∀ (h':Heap) (tk:Nat),h'.DictOf knd s.heap.objs.size (ps.map fun q=>(κ q.2.1,q.2.2.2))->(∀ b o,s.heap.get? b=some o->h'.get? b=some o)->Q (.ref s.heap.objs.size) { s with heap:=h',toks:=tk }) :
  wpAny (model prog w) A (call (.type "dict") [.ref l]) Q E s:=by
 refine callType_codes (Q₁:=fun obj s₁=>obj = .ref s.heap.objs.size/\s₁={ s with heap:=s.heap.push { cls:=.type "dict",data:=.dict #[] } }) F.kt_called_dict (F.kt_typeCall_dict_1 _) F.entry_dict_init (kt_code_dict_new _ ⟨rfl,rfl⟩) ?_
 rintro obj s₁ ⟨rfl,rfl⟩
 have c:(s.heap.push { cls:=.type "dict",data:=.dict #[] }).DictOf knd s.heap.objs.size []:=Heap.DictOf.new s.heap
 obtain ⟨o,ho,hc,⟨n,hd⟩,k⟩:=hl
 have g:(s.heap.push { cls:=.type "dict",data:=.dict #[] }).get? l=some o:=Heap.get?_push_of_some _ ho
 have m:Shared.TypeIs { s with heap:=s.heap.push { cls:=.type "dict",data:=.dict #[] } } (.ref l) "tuple" := ⟨o,g,hc⟩
 refine ⟨c.typeIs,F.args_dict_init_2 _ _,?_⟩
 unfold Builtin.«dict.__init__»
 refine wpAny_bind ?_
 unfold Builtin.Dict.selfAndRest
 refine wpAny_bind (wpAny_notOrdered_dict c.typeIs ?_)
 show wpAny _ _ (pure (s.heap.objs.size,[Value.ref l])) _ _ _
 refine wpAny_pure ?_
 show wpAny _ _ (Builtin.Dict.updateFrom "dict.__init__" s.heap.objs.size (.ref l) [] .none) _ _ _
 unfold Builtin.Dict.updateFrom
 refine wpAny_bind (wpAny_typeOf m ?_)
 rw [if_pos (by decide)]
 refine wpAny_bind (zbD g hc hd k zdw (by decide) (by simp [hh]) (fun h2 tk e hx=>?_) (by decide))
 have d:=hx.keeps
 rw [if_pos (by rfl)]
 refine wpAny_bind (wpAny_rule ?_)
 have i:l<s.heap.objs.size:=Heap.lt_size ho
 have p:∀ q∈ps,q.1<s.heap.objs.size:=fun q hq=>by
  obtain ⟨o,ho,_⟩:=(hel q hq).at'
  exact Heap.lt_size ho
 have f:s.heap.objs.size<h2.objs.size:=by
  obtain ⟨_,_,_,hg,_⟩:=c
  exact Heap.lt_size (d _ _ hg)
 have j:=d _ _ g
 refine wpAny_bind (wpAny_pyIter_tuple (s:={ s with heap:=h2,toks:=tk }) ⟨o,j,hc,n,hd⟩ ?_)
 refine wpAny_pure ⟨plainId_quiet zR _,?_⟩
 refine zgQ (A:=A.in1) (knd:=knd) (κ:=κ) (items:=items) (ps:=ps) (l:=l) (tk0:=0) (by simp [hh]) hkk hit ?_ ?_ ?_ ?_ hn (ps.length - 0) 0 _ [] _ _ (by lia) (Nat.zero_le _) ⟨_,Heap.get?_push_size _ rfl,rfl,rfl⟩ ?_ ?_ ?_ (Nat.le_refl _) ?_
 ·exact Nat.ne_of_lt f
 ·exact Nat.ne_of_lt i
 ·exact Nat.ne_of_lt (Nat.lt_trans i f)
 ·intro q hq
  have:=p q hq
  exact ⟨Nat.ne_of_lt this,Nat.ne_of_lt (Nat.lt_trans this f)⟩
 ·exact ⟨o,Heap.get?_push_of_some _ j,hc,n,hd⟩
 ·exact fun q hq=>(hel q hq).keep fun o e=>Heap.get?_push_of_some _ (d _ _ (Heap.get?_push_of_some _ e))
 ·obtain ⟨o',es,ep,u,r⟩:=c
  exact ⟨o',es,ep,Heap.get?_push_of_some _ (d _ _ u),r⟩
 ·intro h' v hD kp
  refine ⟨rfl,h h' v ?_ fun b o e=>?_⟩
  ·rw [List.drop_zero,merged_nil_of_nodup] at hD
   ·exact hD
   ·rw [List.map_map]
    have e:(ps.map ((fun x=>x.1) ∘ fun q=>(κ q.2.1,q.2.2.2)))=(ps.map (·.2.1)).map κ:=by rw [List.map_map];rfl
    rw [e]
    exact List.Pairwise.map κ (fun a b y he=>y (hinj a b he)) hnd
  ·have hb:=Heap.lt_size e
   exact kp b o (Nat.ne_of_lt hb) (Nat.ne_of_lt (Nat.lt_trans hb f)) (Heap.get?_push_of_some _ (d _ _ (Heap.get?_push_of_some _ e)))
end
structure PrsAt (H:Hp)(a:Addr)(ps:List (Addr×Int×V)):Prop where
 at':H a=some (.tup (ps.map fun q=>V.ref q.1))
 one:∀ q∈ps,H q.1=some (.tup [.int q.2.1,q.2.2])
theorem zrI {ps:List (Addr×Int×V)}{P:Program}{w:World}{H:Hp}{h:Heap}(ok:HOk P w H h):∀ {its:List Value},z0 (ps.map fun q=>V.ref q.1) its->(∀ q∈ps,H q.1=some (.tup [.int q.2.1,q.2.2]))->
  ∃ qs:List (Addr×Int×Tok×Value),its=qs.map (fun q=>Value.ref q.1)/\(∀ q∈qs,PairAt h q)/\qs.map (·.2.1)=ps.map (·.2.1)/\KV (ps.map fun q=>((Sum.inl q.2.1:Key),q.2.2)) (qs.map fun q=>((Sum.inl q.2.1:Key),q.2.2.2)):=by
 induction ps with
 | nil=>intro its r _;cases r;exact ⟨[],rfl,fun _ h=>by simp at h,rfl,.nil⟩
 | cons q ps ih=>
  intro its r hq
  cases r with
  | cons r1 r2=>
   obtain ⟨qs,rfl,h1,h2,h3⟩:=ih r2 fun z hz=>hq z (List.mem_cons_of_mem _ hz)
   cases r1
   obtain ⟨_,us,rv,o,ho,hc,⟨n,hd⟩,_⟩:=(show yh P w H h q.1 (.tup _) from ok _ _ (hq q List.mem_cons_self))
   cases rv with
   | cons rk rv=>
    cases rv with
    | cons ru rn=>
     cases rn
     obtain ⟨t,rfl⟩:=rk
     refine ⟨(q.1,q.2.1,t,_)::qs,rfl,fun z hz=>?_,by rw [List.map_cons,List.map_cons,h2],.cons ⟨rfl,ru⟩ h3⟩
     rcases List.mem_cons.mp hz with rfl | hz
     ·exact ⟨⟨o,ho,hc,n,hd⟩⟩
     ·exact h1 z hz
def zid:List V->Hp->VK->Prop:=fun xs H Q=>∃ (a:Addr) (ps:List (Addr×Int×V)),xs=[.ref a]/\PrsAt H a ps/\(ps.map (·.2.1)).Nodup/\ps.length<=1000/\New H (.dK (ps.map fun q=>((Sum.inl q.2.1:Key),q.2.2))) Q
theorem ziY {X:Cx}(hc:X.calm=true):CallQ X (.type "dict") zid:=⟨by
 intro pins s σ H xs us Q I rr hh
 obtain ⟨a,ps,rfl,hp,c,hn,q⟩:=hh
 cases rr with
 | cons r1 r2=>
  cases r2
  cases r1
  obtain ⟨hz,its,rv,o,ho,d,⟨n,hd⟩,f⟩:=(show yh X.prog X.w H s.heap a (.tup _) from I.hok a _ hp.at')
  obtain ⟨qs,rfl,h1,h2,h3⟩:=zrI I.hok rv hp.one
  have hlen:qs.length=ps.length:=by have:=congrArg List.length h2;simpa using this
  refine zbE (knd:=zL X.prog X.w) (κ:=Sum.inl) (items:=(qs.map fun q=>Value.ref q.1).toArray) (ps:=qs) (I.ok.hd hc) (fun n t=>zbU _ _ n t) (fun a b e=>Sum.inl.inj e) ⟨o,ho,d,⟨n,hd⟩,f⟩ (by simp) h1 (by lia) (by rw [h2];exact c) fun h' tk hD kp=>?_
  have hf:H s.heap.objs.size=none:=I.hok.fresh (Nat.le_refl _)
  refine ⟨.ref s.heap.objs.size,_,I.laid (t':=tk) (o:=.dK (ps.map fun q=>((Sum.inl q.2.1:Key),q.2.2))) kp (Nat.le_refl _) ⟨?_,?_,_,h3,hD⟩,rfl,q.at hf⟩
  ·rw [List.length_map,sizeLine_eq];lia
  ·exact beq_eq_false_iff_ne.mpr (Ne.symm (Nat.ne_of_lt I.big))⟩
theorem ul {X:Cx}{pins:List (Addr×Obj)}{σ:St}{H:Hp}{s:Shared}{a:Addr}{xs:List V}(I:Inv X pins σ H s)(h:SqL X.K H a xs):∃ its:List Value,z0 xs its/\s.heap.IsList a its.toArray/\xs.length<=sizeLine:=by
 obtain ⟨its,r,⟨o,n,e,c,_,d⟩,z⟩:=I.list h
 exact ⟨its,r,⟨o,e,c,n,d⟩,z⟩
def Izl (K:PySem.W.Frag)(a b:Addr):It:=
 ⟨fun i H=>∃ xs ys x y,SqL K H a xs/\SqL K H b ys/\xs[i]?=some x/\ys[i]?=some y,fun i H v H'=>∃ T x y,v = .ref T/\H T=none/\H'=upd H T (.tup [x,y])/\(∀ xs,SqL K H a xs->xs[i]?=some x)/\∀ ys,SqL K H b ys->ys[i]?=some y,fun i H=>∃ xs ys,SqL K H a xs/\SqL K H b ys/\(xs.length<=i\/ys.length<=i)⟩
theorem ziE {P:Program}{w:World}{K:PySem.W.Frag}{elts:List Expr}{x1}{tpos:Pos}(z TI TO i1 i2 a b:Addr)(D:ZipApart z TI TO i1 i2 a b) :
  Turn P w K (.Tuple elts x1 tpos) (Izl K a b) [z,TI,TO,i1,i2] z (fun i h=>IsZip h z TI TO .none/\IsPair h TI (.ref i1) (.ref i2)/\(∃ c d,IsPair h TO c d)/\h.IsListIter i1 a i/\h.IsListIter i2 b i) where
 mem:=by simp
 obj:=fun i h st c hc=>by
  obtain ⟨hz,n,⟨u,v,p⟩,⟨o1,e1,c1,d1⟩,⟨o2,e2,c2,d2⟩⟩:=st
  simp only [List.mem_cons,List.not_mem_nil,or_false] at hc
  rcases hc with rfl | rfl | rfl | rfl | rfl
  ·exact ⟨_,hz,fun v q=>by have q':Data.fields _=Data.cell v:=q;cases q'⟩
  ·exact ⟨_,n,fun v q=>by have q':Data.seq _ 0=Data.cell v:=q;cases q'⟩
  ·exact ⟨_,p,fun v q=>by have q':Data.seq _ 0=Data.cell v:=q;cases q'⟩
  ·exact ⟨o1,e1,fun v q=>by rw [d1] at q;cases q⟩
  ·exact ⟨o2,e2,fun v q=>by rw [d2] at q;cases q⟩
 keep:=fun i h h' st k=>by
  obtain ⟨hz,n,⟨u,v,p⟩,⟨o1,e1,r1⟩,⟨o2,e2,r2⟩⟩:=st
  exact ⟨k z (by simp) _ hz,k TI (by simp) _ n,⟨u,v,k TO (by simp) _ p⟩,⟨o1,k i1 (by simp) _ e1,r1⟩,⟨o2,k i2 (by simp) _ e2,r2⟩⟩
 item:=by
  intro X hP hw hK hc i pins s σ H E I hf st hg
  subst hP hw hK
  obtain ⟨xs,ys,x,y,J,L,hx,hy⟩:=hg
  obtain ⟨V,O,p1,hz1⟩:=ul I J
  obtain ⟨Y,R,p2,hz2⟩:=ul I L
  obtain ⟨u1,vg,vh⟩:=O.get hx
  obtain ⟨u2,vi,vj⟩:=R.get hy
  have fz:=hf z (by simp)
  have f:=hf TO (by simp)
  have f1:=hf i1 (by simp)
  have f2:=hf i2 (by simp)
  obtain ⟨hz,n,⟨c0,d0,p⟩,M,N⟩:=st
  have hT:s.TypeIs (.ref z) "zip" := ⟨_,hz,rfl⟩
  unfold pyNext
  refine wpAny_bind (wpAny_attempt (wpAny_callSpecial?_slot (name:=Str.ofString "__next__") hT F.slot_zip_next
   (wpAny_call_entry F.slot_zip_next hT F.entry_zip_next (zip_next_item (A:=X.A.in1) D hz n p M N p1 p2 (x:=u1) (y:=u2) (by simpa using vg) (by simpa using vi) fun h' gz vk vl vm gT sz' hk=>?_) (F.args_zip_next_1 _))))
  refine wpAny_pure ⟨_,rfl,?_⟩
  refine wpAny_letOwnedTupleGo_zip (s:={ s with heap:=h' }) gz fun G Z B=>?_
  have nz:∀ b' o',s.heap.get? b'=some o'->s.heap.objs.size≠b':=fun b' o' e=>Nat.ne_of_gt (Heap.lt_size e)
  have va:s.heap.objs.size≠z:=nz z _ hz
  have vb:s.heap.objs.size≠TO:=nz TO _ p
  have vn:s.heap.objs.size≠i1:=by obtain ⟨o,ho,_⟩:=M;exact nz i1 _ ho
  have vo:s.heap.objs.size≠i2:=by obtain ⟨o,ho,_⟩:=N;exact nz i2 _ ho
  have vc:s.heap.objs.size≠TI:=nz TI _ n
  have j:=I.hok.fresh (Nat.le_refl s.heap.objs.size)
  have kp:∀ c o,c≠z->c≠TO->c≠i1->c≠i2->s.heap.get? c=some o->G.get? c=some o:=fun c o h1 h2 h3 h4 hb=>(B.2 c h1).trans (hk c o h1 h2 h3 h4 hb)
  have vd:G.get? s.heap.objs.size=some { cls:=.type "tuple",data:=.seq #[u1,u2] }:=(B.2 _ va).trans gT
  have ve:∀ b' u',H b'=some u'->b'≠z/\b'≠TO/\b'≠i1/\b'≠i2:=fun b' u' hb=>⟨zb hb fz.1,zb hb f.1,zb hb f1.1,zb hb f2.1⟩
  have vf:HOk X.prog X.w (upd H s.heap.objs.size (.tup [x,y])) G:=by
   intro b' u' hb
   by_cases hbT:b'=s.heap.objs.size
   ·subst hbT
    rw [zo] at hb
    cases hb
    exact ⟨by show 2<=sizeLine;decide,[u1,u2],.cons vh (.cons vj .nil),_,vd,rfl,⟨0,rfl⟩,rfl⟩
   ·rw [zf hbT] at hb
    refine (I.hok b' u' hb).stay (fun c v l q=>?_) (fun c q=>?_) (fun c ys q=>?_)
    ·have:c≠z/\c≠TO/\c≠i1/\c≠i2:=by
      rcases l with rfl | l
      ·exact ve _ _ hb
      ·exact ⟨zb l fz.1,zb l f.1,zb l f1.1,zb l f2.1⟩
     exact kp c v this.1 this.2.1 this.2.2.1 this.2.2.2 q
    ·rw [zf (zb q j)];exact q
    ·rw [zf (zb q j)];exact q
  have C:∀ c o,c∉[z,TO,i1,i2]->s.heap.get? c=some o->G.get? c=some o:=fun c o hc e=>kp c o (fun q=>hc (by simp [q])) (fun q=>hc (by simp [q])) (fun q=>hc (by simp [q])) (fun q=>hc (by simp [q])) e
  have I1:Inv X pins σ (upd H s.heap.objs.size (.tup [x,y])) { s with heap:=G,toks:=s.toks }:=by
   refine Inv.step (ch:=[z,TO,i1,i2]) (g':=s.gens) (d':=s.drawn) (t':=s.toks) I (fun c hc=>?_) (fun c o h1 h2 h3 h4 h5=>?_) (fun c o h1 h2 h3 h4 h5=>?_) (fun c o h3 h4 h5=>?_) (fun c o h3 h4=>?_) (fun c ys q=>?_) (fun c o u' q=>?_) (fun c ps q=>?_) (fun m hm=>?_) vf I.bare
   ·simp only [List.mem_cons,List.not_mem_nil,or_false] at hc
    rcases hc with rfl | rfl | rfl | rfl
    ·exact ⟨fz.2.2.2.1,fz.2.1,fz.2.2.2.2.1,fz.2.2.2.2.2⟩
    ·exact ⟨f.2.2.2.1,f.2.1,f.2.2.2.2.1,f.2.2.2.2.2⟩
    ·exact ⟨f1.2.2.2.1,f1.2.1,f1.2.2.2.2.1,f1.2.2.2.2.2⟩
    ·exact ⟨f2.2.2.2.1,f2.2.1,f2.2.2.2.2.1,f2.2.2.2.2.2⟩
   ·exact C c o h3 h4
   ·exact ⟨o.slots,C c o h3 h4⟩
   ·rw [zf (Nat.ne_of_lt (Heap.lt_size h4))];exact h5
   ·exact ⟨o,C c o h3 h4⟩
   ·rw [zf (zb q j)];exact q
   ·rw [zf (zb q j)];exact q
   ·exact ⟨#[],by rw [zf (zb q j),Array.append_empty];exact q⟩
   ·obtain ⟨o,es,ep,S,r1⟩:=hm
    exact ⟨o,es,ep,kp _ o (Ne.symm fz.2.1) (Ne.symm f.2.1) (Ne.symm f1.2.1) (Ne.symm f2.2.1) S,r1⟩
  refine ⟨.ref s.heap.objs.size,_,I1,rfl,⟨s.heap.objs.size,x,y,rfl,j,rfl,fun zs U=>by rw [I.list_inj U J];exact hx,fun zs U=>by rw [I.list_inj U L];exact hy⟩,⟨Z,?_,⟨_,_,(B.2 TO D.TOz).trans vk⟩,?_,?_⟩,fun c hc=>?_⟩
  ·exact kp TI _ D.TIz D.TITO D.TIi1 D.TIi2 n
  ·obtain ⟨o,ho,r⟩:=vl
   exact ⟨o,(B.2 i1 D.i1z).trans ho,r⟩
  ·obtain ⟨o,ho,r⟩:=vm
   exact ⟨o,(B.2 i2 D.i2z).trans ho,r⟩
  ·simp only [List.mem_cons,List.not_mem_nil,or_false] at hc
   rcases hc with rfl | rfl | rfl | rfl | rfl
   ·rw [zf (Ne.symm va)];exact fz.1
   ·rw [zf (Ne.symm vc)];exact (hf _ (by simp)).1
   ·rw [zf (Ne.symm vb)];exact f.1
   ·rw [zf (Ne.symm vn)];exact f1.1
   ·rw [zf (Ne.symm vo)];exact f2.1
 done:=by
  intro X hP hw hK hc i pins s σ H E I hf st hg
  subst hP hw hK
  obtain ⟨xs,ys,J,L,hx⟩:=hg
  obtain ⟨V,O,p1,hzz⟩:=ul I J
  obtain ⟨Y,R,p2,vq⟩:=ul I L
  have fz:=hf z (by simp)
  have f:=hf TO (by simp)
  have f1:=hf i1 (by simp)
  have f2:=hf i2 (by simp)
  obtain ⟨hz,n,⟨c0,d0,p⟩,M,N⟩:=st
  have hl1:=O.length
  have hl2:=R.length
  have hT:s.TypeIs (.ref z) "zip" := ⟨_,hz,rfl⟩
  unfold pyNext
  refine wpAny_bind (wpAny_attempt (wpAny_callSpecial?_slot (name:=Str.ofString "__next__") hT F.slot_zip_next
   (wpAny_call_entry F.slot_zip_next hT F.entry_zip_next (zip_next_end (A:=X.A.in1) (I.ok.hd hc) D hz n p M N p1 p2 (hx.elim (fun z=>.inl (by simp;lia)) fun z=>.inr (by simp;lia)) fun h' e ko he=>?_) (F.args_zip_next_1 _))))
  obtain ⟨o,ho,vp⟩:=he
  refine wpAny_bind (wpAny_isInstance (T := "StopIteration") (b:=true) ⟨o,ho,vp⟩ isSubtype_stop ?_)
  refine wpAny_pure ⟨rfl,?_⟩
  have C:∀ c o,c∉[z,TO,i1,i2]->s.heap.get? c=some o->h'.get? c=some o:=fun c o hc e=>ko c o (fun q=>hc (by simp [q])) (fun q=>hc (by simp [q])) (fun q=>hc (by simp [q])) (fun q=>hc (by simp [q])) e
  refine Inv.step (ch:=[z,TO,i1,i2]) (g':=s.gens) (d':=s.drawn) (t':=s.toks) I (fun c hc=>?_) (fun c o h1 h2 h3 h4 h5=>C c o h3 h4) (fun c o h1 h2 h3 h4 h5=>⟨o.slots,C c o h3 h4⟩) (fun c o h3 h4 h5=>h5) (fun c o h3 h4=>⟨o,C c o h3 h4⟩) (fun c ys q=>q) (fun c o u' q=>q) (fun c ps q=>⟨#[],by rw [Array.append_empty];exact q⟩) (fun m hm=>?_) (fun b' u' hb=>?_) I.bare
  ·simp only [List.mem_cons,List.not_mem_nil,or_false] at hc
   rcases hc with rfl | rfl | rfl | rfl
   ·exact ⟨fz.2.2.2.1,fz.2.1,fz.2.2.2.2.1,fz.2.2.2.2.2⟩
   ·exact ⟨f.2.2.2.1,f.2.1,f.2.2.2.2.1,f.2.2.2.2.2⟩
   ·exact ⟨f1.2.2.2.1,f1.2.1,f1.2.2.2.2.1,f1.2.2.2.2.2⟩
   ·exact ⟨f2.2.2.2.1,f2.2.1,f2.2.2.2.2.1,f2.2.2.2.2.2⟩
  ·obtain ⟨o,es,ep,S,r1⟩:=hm
   exact ⟨o,es,ep,ko _ o (Ne.symm fz.2.1) (Ne.symm f.2.1) (Ne.symm f1.2.1) (Ne.symm f2.2.1) S,r1⟩
  ·refine (I.hok b' u' hb).stay (fun c v l q=>?_) (fun c q=>q) (fun c ys q=>q)
   have:c≠z/\c≠TO/\c≠i1/\c≠i2:=by
    rcases l with rfl | l
    ·exact ⟨zb hb fz.1,zb hb f.1,zb hb f1.1,zb hb f2.1⟩
    ·exact ⟨zb l fz.1,zb l f.1,zb l f1.1,zb l f2.1⟩
   exact ko c v this.1 this.2.1 this.2.2.1 this.2.2.2 q
 self:=fun A i s Q E st h=>by
  obtain ⟨hz,_⟩:=st
  exact wpAny_pyIter_zip hz h
def zoj (K:PySem.W.Frag)(ta:TA):TI:=fun σ H R=>ta σ H fun vs H1=>∃ a b,vs=[.ref a,.ref b]/\(∃ xs,SqL K H1 a xs)/\(∃ ys,SqL K H1 b ys)/\R (Izl K a b) H1
theorem zmu {X:Cx}{elts:List Expr}{x1}{tpos:Pos}{a b:Expr}{ta:TA}{p pos:Pos}(hg:Gl X "zip")(hm:X.mg "zip" = none)(ha:PA X [a,b] ta)(hs:starEach [a,b] X.env=[(false,eval a X.env),(false,eval b X.env)]:=by rfl)(hs2:starEach [b] X.env=[(false,eval b X.env)]:=by rfl) :
  PI X (.Tuple elts x1 tpos) (.Call (.Name "zip" p) [a,b] [] pos) (zoj X.K ta):=by
 intro pins s σ H R I h
 refine Call_ (zbR I hg hm boot_zip (PyProof.Rows.callWith_type1 (thn (ha pos pins s σ H _ I h) fun us s1 ⟨vs,H1,I1,r1,q1⟩=>?_) (by rw [hs,hs2]) (by rw [hs2];rfl)))
 obtain ⟨c,d,e,⟨xs,i⟩,⟨ys,j⟩,q⟩:=q1
 subst e
 cases r1 with
 | cons r rr=>
  cases rr with
  | cons r' rr=>
   cases rr
   cases r
   cases r'
   obtain ⟨f,w,p1,x⟩:=ul I1 i
   obtain ⟨g,y,p2,z⟩:=ul I1 j
   have k:c<s1.heap.objs.size:=by obtain ⟨o,ho,_⟩:=id p1;exact Heap.lt_size ho
   have l:d<s1.heap.objs.size:=by obtain ⟨o,ho,_⟩:=id p2;exact Heap.lt_size ho
   refine call_zip_2 (show s1.heap.IsList c f.toArray from p1) (show s1.heap.IsList d g.toArray from p2) fun h' gz m n u v hsz hk=>?_
   have I2:Inv X pins σ H1 { s1 with heap:=h',toks:=s1.toks }:=I1.kept (t':=s1.toks) hk
   refine wpAny_pyIter_zip gz ?_
   refine ⟨s1.heap.objs.size+4,[s1.heap.objs.size+4,s1.heap.objs.size+2,s1.heap.objs.size+3,s1.heap.objs.size,s1.heap.objs.size+1],_,_,H1,rfl,I2,ziE _ _ _ _ _ c d (zipApart_new k l),⟨gz,m,⟨_,_,n⟩,u,v⟩,fun e he=>?_,q⟩
   simp only [List.mem_cons,List.not_mem_nil,or_false] at he
   rcases he with rfl | rfl | rfl | rfl | rfl
   ·exact I1.fpOk (by lia) (I1.hok.fresh (by lia))
   ·exact I1.fpOk (by lia) (I1.hok.fresh (by lia))
   ·exact I1.fpOk (by lia) (I1.hok.fresh (by lia))
   ·exact I1.fpOk (Nat.le_refl _) (I1.hok.fresh (Nat.le_refl _))
   ·exact I1.fpOk (by lia) (I1.hok.fresh (by lia))
theorem zmU {X:Cx}{elts:List Expr}{x1}{tpos:Pos}{a b:Expr}{ta:TA}{p pos:Pos}(hg:Gl X "zip")(hm:X.mg "zip" = none)(ha:QA X [a,b] ta)(hs:starEach [a,b] X.env=[(false,eval a X.env),(false,eval b X.env)]:=by rfl)(hs2:starEach [b] X.env=[(false,eval b X.env)]:=by rfl) :
  QI X (.Tuple elts x1 tpos) (.Call (.Name "zip" p) [a,b] [] pos) (zoj X.K ta):=⟨zmu hg hm ha.run hs hs2⟩
section
variable {prog:Program}{w:World}{A:Around}{E:Value->Shared->Prop}{s:Shared}
theorem zcl {z TI TO i1 i2 t1 t2:Addr}{k1 k2:Nat}{xs ys:Array Value}{x y a b:Value}{Q:Value->Shared->Prop}(D:ZipApart z TI TO i1 i2 t1 t2)
  (hz:IsZip s.heap z TI TO .none) (hTI:IsPair s.heap TI (.ref i1) (.ref i2)) (hTO:IsPair s.heap TO a b) (h1:s.heap.IsListIter i1 t1 k1) (h2:s.heap.IsTupleIter i2 t2 k2)
  (hx:s.heap.IsList t1 xs) (hy:s.heap.IsTuple t2 ys) (ex:xs[k1]?=some x) (ey:ys[k2]?=some y)
  (hQ:∀ h',IsZip h' z TI TO (rawInt s.heap.objs.size)->IsPair h' TO x y->h'.IsListIter i1 t1 (k1+1)->h'.IsTupleIter i2 t2 (k2+1)->IsPair h' s.heap.objs.size x y->h'.objs.size=s.heap.objs.size+1->
   (∀ c o,c≠z->c≠TO->c≠i1->c≠i2->s.heap.get? c=some o->h'.get? c=some o)->Q (.ref s.heap.objs.size) { s with heap:=h' }) :
  wpAny (model prog w) A (Builtin.«zip.__next__» ⟨[.ref z],[]⟩) (fun fin s'=>∃ v,fin = .done (.ret v)/\Q v s') E s:=by
 show wpAny _ _ (field (.ref z) 2 >>= _) _ _ s
 refine wpAny_bind (wpAny_field hz rfl (x:=.bool false) rfl ?_)
 show wpAny _ _ (field (.ref z) 3 >>= _) _ _ s
 refine wpAny_bind (wpAny_field hz rfl (x:=.ref TI) rfl ?_)
 show wpAny _ _ (seqItems? (.ref TI) >>= _) _ _ s
 refine wpAny_bind (wpAny_seqItems hTI rfl ?_)
 show wpAny _ _ (Builtin.SmallTypes.ownedTupleIsFree (.ref z) >>= _) _ _ s
 refine wpAny_bind ?_
 show wpAny _ _ (field (.ref z) 0 >>= _) _ _ s
 refine wpAny_bind (wpAny_field hz rfl (x:=.none) rfl ?_)
 refine wpAny_pure ?_
 show wpAny _ _ (rule "zip.__next__.owned-tuple-again" >>= _) _ _ s
 refine wpAny_bind (wpAny_rule ?_)
 show wpAny _ _ (field (.ref z) 4 >>= _) _ _ s
 refine wpAny_bind (wpAny_field hz rfl (x:=.ref TO) rfl ?_)
 show wpAny _ _ (setField (.ref z) 0 .ellipsis >>= _) _ _ s
 refine wpAny_bind (wpAny_setField hz rfl (by simp) ?_)
 have F:(s.heap.update z (Obj.mapFields fun x=>x.setIfInBounds 0 Value.ellipsis)).get? z=some { cls:=.type "zip",data:=.fields #[.ellipsis,.bool false,.bool false,.ref TI,.ref TO] }:=Heap.get?_update_self _ hz rfl
 have d:∀ c,c≠z->(s.heap.update z (Obj.mapFields fun x=>x.setIfInBounds 0 Value.ellipsis)).get? c=s.heap.get? c:=fun c hc=>Heap.get?_update_other _ _ (Ne.symm hc)
 have G:(s.heap.update z (Obj.mapFields fun x=>x.setIfInBounds 0 Value.ellipsis)).objs.size=s.heap.objs.size:=by simp [Heap.update]
 generalize s.heap.update z (Obj.mapFields fun x=>x.setIfInBounds 0 Value.ellipsis)=H1 at F d G
 show wpAny _ _ (forIn ([(Value.ref i1,0),(Value.ref i2,1)]:List (Value×Nat)) ((none,()):Option PySem.Fin×Unit) _ >>= _) _ _ _
 rw [List.forIn_cons]
 refine wpAny_bind (wpAny_bind ?_)
 refine wpAny_bind (wpAny_onRaise ?_)
 show wpAny _ _ (if (Value.bool false==Value.bool true)=true then _ else (Builtin.SmallTypes.nextOf (.ref i1) >>= fun x=>pure (some x))) _ _ _
 rw [if_neg (by decide)]
 have W:H1.IsListIter i1 t1 k1:=by obtain ⟨o,ho,r⟩:=h1;exact ⟨o,(d _ D.i1z).trans ho,r⟩
 have X:H1.IsList t1 xs:=by obtain ⟨o,ho,r⟩:=hx;exact ⟨o,(d _ D.l1z).trans ho,r⟩
 refine wpAny_bind (wpAny_nextOf_list_item (s:={ s with heap:=H1 }) W X ex fun H2 H I=>?_)
 refine wpAny_pure ?_
 have f:∀ c,c≠i1->H2.get? c=H1.get? c:=fun c hc=>I.2 c hc
 have m:IsPair H2 TO a b:=(f _ D.TOi1).trans ((d _ D.TOz).trans hTO)
 show wpAny _ _ (seqItems? (.ref TO) >>= _) _ _ _
 refine wpAny_bind (wpAny_seqItems (s:={ s with heap:=H2 }) m rfl ?_)
 refine wpAny_bind (wpAny_updateSeq_pair (s:={ s with heap:=H2 }) m fun H3 J K=>?_)
 refine wpAny_bind (wpAny_letGo ?_)
 refine wpAny_pure ?_
 have q:IsPair H3 TO x b:=J
 have g:∀ c,c≠TO->H3.get? c=H2.get? c:=fun c hc=>K.2 c hc
 show wpAny _ _ (forIn ([(Value.ref i2,1)]:List (Value×Nat)) ((none,()):Option PySem.Fin×Unit) _) _ _ _
 rw [List.forIn_cons]
 refine wpAny_bind ?_
 refine wpAny_bind (wpAny_onRaise ?_)
 show wpAny _ _ (if (Value.bool false==Value.bool true)=true then _ else (Builtin.SmallTypes.nextOf (.ref i2) >>= fun x=>pure (some x))) _ _ _
 rw [if_neg (by decide)]
 have Y:H3.IsTupleIter i2 t2 k2:=by obtain ⟨o,ho,r⟩:=h2;exact ⟨o,(g _ (Ne.symm D.TOi2)).trans ((f _ (Ne.symm D.i12)).trans ((d _ D.i2z).trans ho)),r⟩
 have Z:H3.IsTuple t2 ys:=by obtain ⟨o,ho,r⟩:=hy;exact ⟨o,(g _ D.l2TO).trans ((f _ D.l2i1).trans ((d _ D.l2z).trans ho)),r⟩
 refine wpAny_bind (x5 (s:={ s with heap:=H3 }) Y Z ey fun H4 L M=>?_)
 refine wpAny_pure ?_
 have k:∀ c,c≠i2->H4.get? c=H3.get? c:=fun c hc=>M.2 c hc
 have n:IsPair H4 TO x b:=(k _ D.TOi2).trans q
 show wpAny _ _ (seqItems? (.ref TO) >>= _) _ _ _
 refine wpAny_bind (wpAny_seqItems (s:={ s with heap:=H4 }) n rfl ?_)
 refine wpAny_bind (wpAny_updateSeq_pair (s:={ s with heap:=H4 }) n fun H5 N O=>?_)
 refine wpAny_bind (wpAny_letGo ?_)
 refine wpAny_pure ?_
 have i:IsPair H5 TO x y:=N
 have l:∀ c,c≠TO->H5.get? c=H4.get? c:=fun c hc=>O.2 c hc
 show wpAny _ _ (forIn ([]:List (Value×Nat)) ((none,()):Option PySem.Fin×Unit) _) _ _ _
 rw [List.forIn_nil]
 refine wpAny_pure ?_
 show wpAny _ _ (seqItems? (.ref TO) >>= _) _ _ _
 refine wpAny_bind (wpAny_seqItems (s:={ s with heap:=H5 }) i rfl ?_)
 refine wpAny_bind (wpAny_newTuple ?_ (by show 2<=sizeLine;decide))
 have P:H5.objs.size=s.heap.objs.size:=O.1.trans (M.1.trans (K.1.trans (I.1.trans G)))
 have ko:∀ c o,c≠z->c≠TO->c≠i1->c≠i2->s.heap.get? c=some o->H5.get? c=some o:=fun c o c1 c2 c3 c4 e=>(l _ c2).trans ((k _ c4).trans ((g _ c2).trans ((f _ c3).trans ((d _ c1).trans e))))
 have va:H5.get? z=some { cls:=.type "zip",data:=.fields #[.ellipsis,.bool false,.bool false,.ref TI,.ref TO] }:=(l _ (Ne.symm D.TOz)).trans ((k _ (Ne.symm D.i2z)).trans ((g _ (Ne.symm D.TOz)).trans ((f _ (Ne.symm D.i1z)).trans F)))
 have j:=Heap.get?_push_size H5 (o:={ cls:=.type "tuple",data:=.seq #[x,y] }) rfl
 show wpAny _ _ (Builtin.SmallTypes.ownedTupleHandOut (.ref z) (.ref H5.objs.size) >>= _) _ _ { s with heap:=H5.push { cls:=.type "tuple",data:=.seq #[x,y] } }
 have t:∀ c o,H5.get? c=some o->(H5.push { cls:=.type "tuple",data:=.seq #[x,y] }).get? c=some o:=fun c o e=>Heap.get?_push_of_some _ e
 have R:(H5.push { cls:=.type "tuple",data:=.seq #[x,y] }).objs.size=s.heap.objs.size+1:=by rw [Heap.size_push,P]
 rw [P] at j ⊢
 generalize H5.push { cls:=.type "tuple",data:=.seq #[x,y] }=H6 at j t R
 have S:=t _ _ va
 refine wpAny_bind ?_
 show wpAny _ _ (setField (.ref z) 0 (rawInt s.heap.objs.size) >>= _) _ _ { s with heap:=H6 }
 refine wpAny_bind (wpAny_setField S rfl (by simp) ?_)
 have u:(H6.update z (Obj.mapFields fun x=>x.setIfInBounds 0 (rawInt s.heap.objs.size))).get? z=some { cls:=.type "zip",data:=.fields #[rawInt s.heap.objs.size,.bool false,.bool false,.ref TI,.ref TO] }:=Heap.get?_update_self _ S rfl
 have B:∀ c,c≠z->(H6.update z (Obj.mapFields fun x=>x.setIfInBounds 0 (rawInt s.heap.objs.size))).get? c=H6.get? c:=fun c hc=>Heap.get?_update_other _ _ (Ne.symm hc)
 have T:(H6.update z (Obj.mapFields fun x=>x.setIfInBounds 0 (rawInt s.heap.objs.size))).objs.size=H6.objs.size:=by simp [Heap.update]
 generalize H6.update z (Obj.mapFields fun x=>x.setIfInBounds 0 (rawInt s.heap.objs.size))=H7 at u B T
 refine wpAny_setField (s:={ s with heap:=H7 }) u rfl (by simp) ?_
 have U:(H7.update z (Obj.mapFields fun x=>x.setIfInBounds 1 (Value.bool false))).get? z=some { cls:=.type "zip",data:=.fields #[rawInt s.heap.objs.size,.bool false,.bool false,.ref TI,.ref TO] }:=Heap.get?_update_self _ u rfl
 have C:∀ c,c≠z->(H7.update z (Obj.mapFields fun x=>x.setIfInBounds 1 (Value.bool false))).get? c=H7.get? c:=fun c hc=>Heap.get?_update_other _ _ (Ne.symm hc)
 have V:(H7.update z (Obj.mapFields fun x=>x.setIfInBounds 1 (Value.bool false))).objs.size=H7.objs.size:=by simp [Heap.update]
 generalize H7.update z (Obj.mapFields fun x=>x.setIfInBounds 1 (Value.bool false))=H8 at U C V
 have kk:∀ c o,c≠z->H5.get? c=some o->H8.get? c=some o:=fun c o hc e=>(C _ hc).trans ((B _ hc).trans (t _ _ e))
 have p:=Heap.lt_size hz
 refine wpAny_pure ⟨_,rfl,hQ H8 U (kk _ _ D.TOz i) ?_ ?_ ?_ (by rw [V,T,R]) fun c o c1 c2 c3 c4 e=>kk _ _ c1 (ko c o c1 c2 c3 c4 e)⟩
 ·obtain ⟨o,ho,r⟩:=H
  exact ⟨o,kk _ _ D.i1z ((l _ (Ne.symm D.TOi1)).trans ((k _ D.i12).trans ((g _ (Ne.symm D.TOi1)).trans ho))),r⟩
 ·obtain ⟨o,ho,r⟩:=L
  exact ⟨o,kk _ _ D.i2z ((l _ (Ne.symm D.TOi2)).trans ho),r⟩
 ·exact (C _ (Nat.ne_of_gt p)).trans ((B _ (Nat.ne_of_gt p)).trans j)
theorem zdy {z TI TO i1 i2 t1 t2:Addr}{k1:Nat}{xs:Array Value}{Q:PySem.Fin->Shared->Prop}(D:ZipApart z TI TO i1 i2 t1 t2)(hh:A.handled=none)
  (hz:IsZip s.heap z TI TO .none) (hTI:IsPair s.heap TI (.ref i1) (.ref i2)) (h1:s.heap.IsListIter i1 t1 k1) (hx:s.heap.IsList t1 xs) (ex:xs[k1]?=none)
  (hE:∀ h' e,(∀ c o,c≠z->c≠i1->s.heap.get? c=some o->h'.get? c=some o)->(∃ o,h'.get? e=some o/\o.cls = .type "StopIteration")->E (.ref e) { s with heap:=h' }) :
  wpAny (model prog w) A (Builtin.«zip.__next__» ⟨[.ref z],[]⟩) Q E s:=by
 show wpAny _ _ (field (.ref z) 2 >>= _) _ _ s
 refine wpAny_bind (wpAny_field hz rfl (x:=.bool false) rfl ?_)
 show wpAny _ _ (field (.ref z) 3 >>= _) _ _ s
 refine wpAny_bind (wpAny_field hz rfl (x:=.ref TI) rfl ?_)
 show wpAny _ _ (seqItems? (.ref TI) >>= _) _ _ s
 refine wpAny_bind (wpAny_seqItems hTI rfl ?_)
 show wpAny _ _ (Builtin.SmallTypes.ownedTupleIsFree (.ref z) >>= _) _ _ s
 refine wpAny_bind ?_
 show wpAny _ _ (field (.ref z) 0 >>= _) _ _ s
 refine wpAny_bind (wpAny_field hz rfl (x:=.none) rfl ?_)
 refine wpAny_pure ?_
 show wpAny _ _ (rule "zip.__next__.owned-tuple-again" >>= _) _ _ s
 refine wpAny_bind (wpAny_rule ?_)
 show wpAny _ _ (field (.ref z) 4 >>= _) _ _ s
 refine wpAny_bind (wpAny_field hz rfl (x:=.ref TO) rfl ?_)
 show wpAny _ _ (setField (.ref z) 0 .ellipsis >>= _) _ _ s
 refine wpAny_bind (wpAny_setField hz rfl (by simp) ?_)
 have b:(s.heap.update z (Obj.mapFields fun x=>x.setIfInBounds 0 Value.ellipsis)).get? z=some { cls:=.type "zip",data:=.fields #[.ellipsis,.bool false,.bool false,.ref TI,.ref TO] }:=Heap.get?_update_self _ hz rfl
 have a:∀ c,c≠z->(s.heap.update z (Obj.mapFields fun x=>x.setIfInBounds 0 Value.ellipsis)).get? c=s.heap.get? c:=fun c hc=>Heap.get?_update_other _ _ (Ne.symm hc)
 generalize s.heap.update z (Obj.mapFields fun x=>x.setIfInBounds 0 Value.ellipsis)=H1 at b a
 show wpAny _ _ (forIn ([(Value.ref i1,0),(Value.ref i2,1)]:List (Value×Nat)) ((none,()):Option PySem.Fin×Unit) _ >>= _) _ _ _
 rw [List.forIn_cons]
 refine wpAny_bind (wpAny_bind ?_)
 refine wpAny_bind (wpAny_onRaise ?_)
 show wpAny _ _ (if (Value.bool false==Value.bool true)=true then _ else (Builtin.SmallTypes.nextOf (.ref i1) >>= fun x=>pure (some x))) _ _ _
 rw [if_neg (by decide)]
 have f:H1.IsListIter i1 t1 k1:=by obtain ⟨o,ho,r⟩:=h1;exact ⟨o,(a _ D.i1z).trans ho,r⟩
 have g:H1.IsList t1 xs:=by obtain ⟨o,ho,r⟩:=hx;exact ⟨o,(a _ D.l1z).trans ho,r⟩
 refine wpAny_bind (wpAny_nextOf_list_end (s:={ s with heap:=H1 }) hh f g ex fun H2 e eb he=>?_)
 have d:=eb z _ (Ne.symm D.i1z) b
 refine wpAny_setField (s:={ s with heap:=H2 }) d rfl (by simp) ?_
 have i:e≠z:=by
  intro q
  obtain ⟨o,ho,hc⟩:=he
  rw [q,d] at ho
  cases ho
  have:Value.type "zip" = Value.type "StopIteration" := hc
  exact absurd (Value.type.inj this) (by decide)
 refine hE _ e (fun c o c1 c2 e1=>?_) ?_
 ·exact (Heap.get?_update_other _ _ (Ne.symm c1)).trans (eb c o c2 ((a _ c1).trans e1))
 ·obtain ⟨o,ho,hc⟩:=he
  exact ⟨o,(Heap.get?_update_other _ _ (Ne.symm i)).trans ho,hc⟩
def zfS (h:Heap)(l1 l2:Addr):Heap:=
 ((((h.push { cls:=.type "list_iterator",data:=.fields #[.ref l1,.int 0 0] }).push { cls:=.type "tuple_iterator",data:=.fields #[.ref l2,.int 0 0] }).push { cls:=.type "tuple",data:=.seq #[.ref h.objs.size,.ref (h.objs.size+1)] }).push { cls:=.type "tuple",data:=.seq #[.none,.none] }).push
  { cls:=.type "zip",data:=.fields #[.none,.bool false,.bool false,.ref (h.objs.size+2),.ref (h.objs.size+3)] }
theorem zcd (l1 l2:Addr)(xs ys:Array Value) :
  Meets (Builtin.«zip.__new__» ⟨[.type "zip",.ref l1,.ref l2],[]⟩) (fun _ R s=>s.heap.IsList l1 xs/\s.heap.IsTuple l2 ys/\R (.ok (.ret (.ref (s.heap.objs.size+4)))) { s with heap:=zfS s.heap l1 l2 }):=
 .of_wp fun prog w A R s h=>by
  obtain ⟨hp,g,d,tk,os⟩:=s;obtain ⟨h1,h2,h⟩:=h
  have b:=sub_zip
  have a:Heap.IsTuple (Shared.heap ⟨hp.push { cls:=.type "list_iterator",data:=.fields #[.ref l1,.int 0 0] },g,d,tk,os⟩) l2 ys:=by
   obtain ⟨o,ho,r⟩:=h2
   exact ⟨o,Heap.get?_push_of_some _ ho,r⟩
  wp_walk using wpAny_pyIter_list h1,wpAny_pyIter_tuple a
  refine ⟨_,rfl,?_⟩
  unfold zfS at h
  simpa [Heap.size_push,Builtin.SmallTypes.ownedTupleFields] using h
theorem zca {l1 l2:Addr}{xs ys:Array Value}{Q:Value->Shared->Prop}(h1:s.heap.IsList l1 xs)(h2:s.heap.IsTuple l2 ys)
  (h:∀ h',IsZip h' (s.heap.objs.size+4) (s.heap.objs.size+2) (s.heap.objs.size+3) .none->IsPair h' (s.heap.objs.size+2) (.ref s.heap.objs.size) (.ref (s.heap.objs.size+1))->IsPair h' (s.heap.objs.size+3) .none .none->
   h'.IsListIter s.heap.objs.size l1 0->h'.IsTupleIter (s.heap.objs.size+1) l2 0->h'.objs.size=s.heap.objs.size+5->(∀ b o,s.heap.get? b=some o->h'.get? b=some o)->Q (.ref (s.heap.objs.size+4)) { s with heap:=h' }) :
  wpAny (model prog w) A (call (.type "zip") [.ref l1,.ref l2]) Q E s:=by
 refine callType_new F.called_zip (by decide) (F.typeCall_zip_2 _ _) (F.newCall_zip_2 _ _) (fun obj=>F.args_object_init_3 obj _ _) F.entry_zip_new (zcd l1 l2 xs ys) ⟨h1,h2,?_⟩
 generalize ho0:({ cls:=.type "list_iterator",data:=.fields #[.ref l1,.int 0 0] }:Obj)=o0
 have z1:∀ o,(s.heap.push o).objs.size=s.heap.objs.size+1:=fun o=>Heap.size_push ..
 have z2:∀ o o',((s.heap.push o).push o').objs.size=s.heap.objs.size+2:=fun o o'=>by rw [Heap.size_push,z1]
 have z3:∀ o o' a,(((s.heap.push o).push o').push a).objs.size=s.heap.objs.size+3:=fun o o' a=>by rw [Heap.size_push,z2]
 have z4:∀ o o' a p,((((s.heap.push o).push o').push a).push p).objs.size=s.heap.objs.size+4:=fun o o' a p=>by rw [Heap.size_push,z3]
 have gz:(zfS s.heap l1 l2).get? (s.heap.objs.size+4)=some { cls:=.type "zip",data:=.fields #[.none,.bool false,.bool false,.ref (s.heap.objs.size+2),.ref (s.heap.objs.size+3)] }:=by
  unfold zfS
  rw [<- z4]
  exact Heap.get?_push_size _ rfl
 have c:(zfS s.heap l1 l2).get? (s.heap.objs.size+3)=some { cls:=.type "tuple",data:=.seq #[.none,.none] }:=by
  unfold zfS
  refine Heap.get?_push_of_some _ ?_
  rw [<- z3]
  exact Heap.get?_push_size _ rfl
 have d:(zfS s.heap l1 l2).get? (s.heap.objs.size+2)=some { cls:=.type "tuple",data:=.seq #[.ref s.heap.objs.size,.ref (s.heap.objs.size+1)] }:=by
  unfold zfS
  refine Heap.get?_push_of_some _ (Heap.get?_push_of_some _ ?_)
  rw [<- z2]
  exact Heap.get?_push_size _ rfl
 have e:(zfS s.heap l1 l2).get? (s.heap.objs.size+1)=some { cls:=.type "tuple_iterator",data:=.fields #[.ref l2,.int 0 0] }:=by
  unfold zfS
  refine Heap.get?_push_of_some _ (Heap.get?_push_of_some _ (Heap.get?_push_of_some _ ?_))
  rw [<- z1]
  exact Heap.get?_push_size _ rfl
 have f:(zfS s.heap l1 l2).get? s.heap.objs.size=some { cls:=.type "list_iterator",data:=.fields #[.ref l1,.int 0 0] }:=by
  unfold zfS
  exact Heap.get?_push_of_some _ (Heap.get?_push_of_some _ (Heap.get?_push_of_some _ (Heap.get?_push_of_some _ (Heap.get?_push_size _ rfl))))
 refine ⟨⟨_,gz,rfl⟩,h _ gz d c ⟨_,f,rfl,rfl⟩ ⟨_,e,rfl,rfl⟩ ?_ fun b o x=>?_⟩
 ·unfold zfS
  rw [Heap.size_push,z4]
 ·unfold zfS
  exact Heap.get?_push_of_some _ (Heap.get?_push_of_some _ (Heap.get?_push_of_some _ (Heap.get?_push_of_some _ (Heap.get?_push_of_some _ x))))
end
def Izm (K:PySem.W.Frag)(a b:Addr):It:=
 ⟨fun i H=>∃ xs ys x y,SqL K H a xs/\SqT K H b ys/\xs[i]?=some x/\ys[i]?=some y,fun i H v H'=>∃ T x y,v = .ref T/\H T=none/\H'=upd H T (.tup [x,y])/\(∀ xs,SqL K H a xs->xs[i]?=some x)/\∀ ys,SqT K H b ys->ys[i]?=some y,fun i H=>∃ xs,SqL K H a xs/\xs.length<=i⟩
theorem ziF {P:Program}{w:World}{K:PySem.W.Frag}{elts:List Expr}{x1}{tpos:Pos}(z TI TO i1 i2 a b:Addr)(D:ZipApart z TI TO i1 i2 a b) :
  Turn P w K (.Tuple elts x1 tpos) (Izm K a b) [z,TI,TO,i1,i2] z (fun i h=>IsZip h z TI TO .none/\IsPair h TI (.ref i1) (.ref i2)/\(∃ c d,IsPair h TO c d)/\h.IsListIter i1 a i/\h.IsTupleIter i2 b i) where
 mem:=by simp
 obj:=fun i h st c hc=>by
  obtain ⟨hz,l,⟨u,v,C⟩,⟨o1,e1,c1,d1⟩,⟨o2,e2,c2,d2⟩⟩:=st
  simp only [List.mem_cons,List.not_mem_nil,or_false] at hc
  rcases hc with rfl | rfl | rfl | rfl | rfl
  ·exact ⟨_,hz,fun v q=>by have q':Data.fields _=Data.cell v:=q;cases q'⟩
  ·exact ⟨_,l,fun v q=>by have q':Data.seq _ 0=Data.cell v:=q;cases q'⟩
  ·exact ⟨_,C,fun v q=>by have q':Data.seq _ 0=Data.cell v:=q;cases q'⟩
  ·exact ⟨o1,e1,fun v q=>by rw [d1] at q;cases q⟩
  ·exact ⟨o2,e2,fun v q=>by rw [d2] at q;cases q⟩
 keep:=fun i h h' st k=>by
  obtain ⟨hz,l,⟨u,v,C⟩,⟨o1,e1,r1⟩,⟨o2,e2,r2⟩⟩:=st
  exact ⟨k z (by simp) _ hz,k TI (by simp) _ l,⟨u,v,k TO (by simp) _ C⟩,⟨o1,k i1 (by simp) _ e1,r1⟩,⟨o2,k i2 (by simp) _ e2,r2⟩⟩
 item:=by
  intro X hP hw hK hc i pins s σ H E I hf st hg
  subst hP hw hK
  obtain ⟨xs,ys,x,y,R,S,hx,hy⟩:=hg
  obtain ⟨vp,vd,p1,hz1⟩:=ul I R
  obtain ⟨vq,ve,p2,hz2⟩:=I.tuple S
  obtain ⟨u1,vf,vg⟩:=vd.get hx
  obtain ⟨u2,vh,vi⟩:=ve.get hy
  have fz:=hf z (by simp)
  have n:=hf TO (by simp)
  have f1:=hf i1 (by simp)
  have f2:=hf i2 (by simp)
  obtain ⟨hz,l,⟨c0,d0,C⟩,L,M⟩:=st
  have hT:s.TypeIs (.ref z) "zip" := ⟨_,hz,rfl⟩
  unfold pyNext
  refine wpAny_bind (wpAny_attempt (wpAny_callSpecial?_slot (name:=Str.ofString "__next__") hT F.slot_zip_next
   (wpAny_call_entry F.slot_zip_next hT F.entry_zip_next (zcl (A:=X.A.in1) D hz l C L M p1 p2 (x:=u1) (y:=u2) (by simpa using vf) (by simpa using vh) fun h' gz vj vk vl gT sz' hk=>?_) (F.args_zip_next_1 _))))
  refine wpAny_pure ⟨_,rfl,?_⟩
  refine wpAny_letOwnedTupleGo_zip (s:={ s with heap:=h' }) gz fun J U B=>?_
  have nz:∀ b' o',s.heap.get? b'=some o'->s.heap.objs.size≠b':=fun b' o' e=>Nat.ne_of_gt (Heap.lt_size e)
  have V:s.heap.objs.size≠z:=nz z _ hz
  have Y:s.heap.objs.size≠TO:=nz TO _ C
  have vm:s.heap.objs.size≠i1:=by obtain ⟨o,ho,_⟩:=L;exact nz i1 _ ho
  have vn:s.heap.objs.size≠i2:=by obtain ⟨o,ho,_⟩:=M;exact nz i2 _ ho
  have Z:s.heap.objs.size≠TI:=nz TI _ l
  have f:=I.hok.fresh (Nat.le_refl s.heap.objs.size)
  have kp:∀ c o,c≠z->c≠TO->c≠i1->c≠i2->s.heap.get? c=some o->J.get? c=some o:=fun c o h1 h2 h3 h4 hb=>(B.2 c h1).trans (hk c o h1 h2 h3 h4 hb)
  have va:J.get? s.heap.objs.size=some { cls:=.type "tuple",data:=.seq #[u1,u2] }:=(B.2 _ V).trans gT
  have vb:∀ b' u',H b'=some u'->b'≠z/\b'≠TO/\b'≠i1/\b'≠i2:=fun b' u' hb=>⟨zb hb fz.1,zb hb n.1,zb hb f1.1,zb hb f2.1⟩
  have vc:HOk X.prog X.w (upd H s.heap.objs.size (.tup [x,y])) J:=by
   intro b' u' hb
   by_cases hbT:b'=s.heap.objs.size
   ·subst hbT
    rw [zo] at hb
    cases hb
    exact ⟨by show 2<=sizeLine;decide,[u1,u2],.cons vg (.cons vi .nil),_,va,rfl,⟨0,rfl⟩,rfl⟩
   ·rw [zf hbT] at hb
    refine (I.hok b' u' hb).stay (fun c v j q=>?_) (fun c q=>?_) (fun c ys q=>?_)
    ·have:c≠z/\c≠TO/\c≠i1/\c≠i2:=by
      rcases j with rfl | j
      ·exact vb _ _ hb
      ·exact ⟨zb j fz.1,zb j n.1,zb j f1.1,zb j f2.1⟩
     exact kp c v this.1 this.2.1 this.2.2.1 this.2.2.2 q
    ·rw [zf (zb q f)];exact q
    ·rw [zf (zb q f)];exact q
  have G:∀ c o,c∉[z,TO,i1,i2]->s.heap.get? c=some o->J.get? c=some o:=fun c o hc e=>kp c o (fun q=>hc (by simp [q])) (fun q=>hc (by simp [q])) (fun q=>hc (by simp [q])) (fun q=>hc (by simp [q])) e
  have I1:Inv X pins σ (upd H s.heap.objs.size (.tup [x,y])) { s with heap:=J,toks:=s.toks }:=by
   refine Inv.step (ch:=[z,TO,i1,i2]) (g':=s.gens) (d':=s.drawn) (t':=s.toks) I (fun c hc=>?_) (fun c o h1 h2 h3 h4 h5=>?_) (fun c o h1 h2 h3 h4 h5=>?_) (fun c o h3 h4 h5=>?_) (fun c o h3 h4=>?_) (fun c ys q=>?_) (fun c o u' q=>?_) (fun c ps q=>?_) (fun m hm=>?_) vc I.bare
   ·simp only [List.mem_cons,List.not_mem_nil,or_false] at hc
    rcases hc with rfl | rfl | rfl | rfl
    ·exact ⟨fz.2.2.2.1,fz.2.1,fz.2.2.2.2.1,fz.2.2.2.2.2⟩
    ·exact ⟨n.2.2.2.1,n.2.1,n.2.2.2.2.1,n.2.2.2.2.2⟩
    ·exact ⟨f1.2.2.2.1,f1.2.1,f1.2.2.2.2.1,f1.2.2.2.2.2⟩
    ·exact ⟨f2.2.2.2.1,f2.2.1,f2.2.2.2.2.1,f2.2.2.2.2.2⟩
   ·exact G c o h3 h4
   ·exact ⟨o.slots,G c o h3 h4⟩
   ·rw [zf (Nat.ne_of_lt (Heap.lt_size h4))];exact h5
   ·exact ⟨o,G c o h3 h4⟩
   ·rw [zf (zb q f)];exact q
   ·rw [zf (zb q f)];exact q
   ·exact ⟨#[],by rw [zf (zb q f),Array.append_empty];exact q⟩
   ·obtain ⟨o,es,ep,N,r1⟩:=hm
    exact ⟨o,es,ep,kp _ o (Ne.symm fz.2.1) (Ne.symm n.2.1) (Ne.symm f1.2.1) (Ne.symm f2.2.1) N,r1⟩
  refine ⟨.ref s.heap.objs.size,_,I1,rfl,⟨s.heap.objs.size,x,y,rfl,f,rfl,fun zs O=>by rw [I.list_inj O R];exact hx,fun zs O=>by rw [I.tuple_inj O S];exact hy⟩,⟨U,?_,⟨_,_,(B.2 TO D.TOz).trans vj⟩,?_,?_⟩,fun c hc=>?_⟩
  ·exact kp TI _ D.TIz D.TITO D.TIi1 D.TIi2 l
  ·obtain ⟨o,ho,r⟩:=vk
   exact ⟨o,(B.2 i1 D.i1z).trans ho,r⟩
  ·obtain ⟨o,ho,r⟩:=vl
   exact ⟨o,(B.2 i2 D.i2z).trans ho,r⟩
  ·simp only [List.mem_cons,List.not_mem_nil,or_false] at hc
   rcases hc with rfl | rfl | rfl | rfl | rfl
   ·rw [zf (Ne.symm V)];exact fz.1
   ·rw [zf (Ne.symm Z)];exact (hf _ (by simp)).1
   ·rw [zf (Ne.symm Y)];exact n.1
   ·rw [zf (Ne.symm vm)];exact f1.1
   ·rw [zf (Ne.symm vn)];exact f2.1
 done:=by
  intro X hP hw hK hc i pins s σ H E I hf st hg
  subst hP hw hK
  obtain ⟨xs,hq,hx⟩:=hg
  obtain ⟨its,rv,p,hzz⟩:=ul I hq
  have fz:=hf z (by simp)
  have f1:=hf i1 (by simp)
  obtain ⟨hz,l,⟨c0,d0,C⟩,L,M⟩:=st
  have hl:=rv.length
  have hT:s.TypeIs (.ref z) "zip" := ⟨_,hz,rfl⟩
  unfold pyNext
  refine wpAny_bind (wpAny_attempt (wpAny_callSpecial?_slot (name:=Str.ofString "__next__") hT F.slot_zip_next
   (wpAny_call_entry F.slot_zip_next hT F.entry_zip_next (zdy (A:=X.A.in1) D (I.ok.hd hc) hz l L p (by simp;lia) fun h' e ko he=>?_) (F.args_zip_next_1 _))))
  obtain ⟨o,ho,vo⟩:=he
  refine wpAny_bind (wpAny_isInstance (T := "StopIteration") (b:=true) ⟨o,ho,vo⟩ isSubtype_stop ?_)
  refine wpAny_pure ⟨rfl,?_⟩
  have G:∀ c o,c∉[z,i1]->s.heap.get? c=some o->h'.get? c=some o:=fun c o hc e=>ko c o (fun q=>hc (by simp [q])) (fun q=>hc (by simp [q])) e
  refine Inv.step (ch:=[z,i1]) (g':=s.gens) (d':=s.drawn) (t':=s.toks) I (fun c hc=>?_) (fun c o h1 h2 h3 h4 h5=>G c o h3 h4) (fun c o h1 h2 h3 h4 h5=>⟨o.slots,G c o h3 h4⟩) (fun c o h3 h4 h5=>h5) (fun c o h3 h4=>⟨o,G c o h3 h4⟩) (fun c ys q=>q) (fun c o u' q=>q) (fun c ps q=>⟨#[],by rw [Array.append_empty];exact q⟩) (fun m hm=>?_) (fun b' u' hb=>?_) I.bare
  ·simp only [List.mem_cons,List.not_mem_nil,or_false] at hc
   rcases hc with rfl | rfl
   ·exact ⟨fz.2.2.2.1,fz.2.1,fz.2.2.2.2.1,fz.2.2.2.2.2⟩
   ·exact ⟨f1.2.2.2.1,f1.2.1,f1.2.2.2.2.1,f1.2.2.2.2.2⟩
  ·obtain ⟨o,es,ep,N,r1⟩:=hm
   exact ⟨o,es,ep,ko _ o (Ne.symm fz.2.1) (Ne.symm f1.2.1) N,r1⟩
  ·refine (I.hok b' u' hb).stay (fun c v j q=>?_) (fun c q=>q) (fun c ys q=>q)
   have:c≠z/\c≠i1:=by
    rcases j with rfl | j
    ·exact ⟨zb hb fz.1,zb hb f1.1⟩
    ·exact ⟨zb j fz.1,zb j f1.1⟩
   exact ko c v this.1 this.2 q
 self:=fun A i s Q E st h=>by
  obtain ⟨hz,_⟩:=st
  exact wpAny_pyIter_zip hz h
def zok (K:PySem.W.Frag)(ta:TA):TI:=fun σ H R=>ta σ H fun vs H1=>∃ a b,vs=[.ref a,.ref b]/\(∃ xs,SqL K H1 a xs)/\(∃ ys,SqT K H1 b ys)/\R (Izm K a b) H1
theorem zmv {X:Cx}{elts:List Expr}{x1}{tpos:Pos}{a b:Expr}{ta:TA}{p pos:Pos}(hg:Gl X "zip")(hm:X.mg "zip" = none)(ha:PA X [a,b] ta)(hs:starEach [a,b] X.env=[(false,eval a X.env),(false,eval b X.env)]:=by rfl)(hs2:starEach [b] X.env=[(false,eval b X.env)]:=by rfl) :
  PI X (.Tuple elts x1 tpos) (.Call (.Name "zip" p) [a,b] [] pos) (zok X.K ta):=by
 intro pins s σ H R I h
 refine Call_ (zbR I hg hm boot_zip (PyProof.Rows.callWith_type1 (thn (ha pos pins s σ H _ I h) fun us s1 ⟨vs,H1,I1,r1,q1⟩=>?_) (by rw [hs,hs2]) (by rw [hs2];rfl)))
 obtain ⟨c,d,e,⟨xs,i⟩,⟨ys,j⟩,q⟩:=q1
 subst e
 cases r1 with
 | cons r rr=>
  cases rr with
  | cons r' rr=>
   cases rr
   cases r
   cases r'
   obtain ⟨f,w,p1,x⟩:=ul I1 i
   obtain ⟨g,y,p2,z⟩:=I1.tuple j
   have k:c<s1.heap.objs.size:=by obtain ⟨o,ho,_⟩:=id p1;exact Heap.lt_size ho
   have l:d<s1.heap.objs.size:=by obtain ⟨o,ho,_⟩:=id p2;exact Heap.lt_size ho
   refine zca (show s1.heap.IsList c f.toArray from p1) (show s1.heap.IsTuple d g.toArray from p2) fun h' gz m n u v hsz hk=>?_
   have I2:Inv X pins σ H1 { s1 with heap:=h',toks:=s1.toks }:=I1.kept (t':=s1.toks) hk
   refine wpAny_pyIter_zip gz ?_
   refine ⟨s1.heap.objs.size+4,[s1.heap.objs.size+4,s1.heap.objs.size+2,s1.heap.objs.size+3,s1.heap.objs.size,s1.heap.objs.size+1],_,_,H1,rfl,I2,ziF _ _ _ _ _ c d (zipApart_new k l),⟨gz,m,⟨_,_,n⟩,u,v⟩,fun e he=>?_,q⟩
   simp only [List.mem_cons,List.not_mem_nil,or_false] at he
   rcases he with rfl | rfl | rfl | rfl | rfl
   ·exact I1.fpOk (by lia) (I1.hok.fresh (by lia))
   ·exact I1.fpOk (by lia) (I1.hok.fresh (by lia))
   ·exact I1.fpOk (by lia) (I1.hok.fresh (by lia))
   ·exact I1.fpOk (Nat.le_refl _) (I1.hok.fresh (Nat.le_refl _))
   ·exact I1.fpOk (by lia) (I1.hok.fresh (by lia))
theorem zmV {X:Cx}{elts:List Expr}{x1}{tpos:Pos}{a b:Expr}{ta:TA}{p pos:Pos}(hg:Gl X "zip")(hm:X.mg "zip" = none)(ha:QA X [a,b] ta)(hs:starEach [a,b] X.env=[(false,eval a X.env),(false,eval b X.env)]:=by rfl)(hs2:starEach [b] X.env=[(false,eval b X.env)]:=by rfl) :
  QI X (.Tuple elts x1 tpos) (.Call (.Name "zip" p) [a,b] [] pos) (zok X.K ta):=⟨zmv hg hm ha.run hs hs2⟩
section
variable {X:Cx}
def zm3:V->List V->Hp->VK->Prop:=fun x vs H Q=>∃ l xs k y,x = .ref l/\vs=[.int k,y]/\H l=some (.lst xs)/\0<=k/\k<=xs.length/\xs.length<sizeLine/\Q .non (upd H l (.lst (xs.take k.toNat++y::xs.drop k.toNat)))
theorem zhN:MtM X "list.insert" zm3:=by
 intro pins s σ H x vs v us Q I rx rv h
 obtain ⟨l,xs,k,y,rfl,rfl,hH,h0,h1,hz,q⟩:=h
 cases rx
 cases rv with
 | cons r1 rr=>
  cases rr with
  | cons r2 rn=>
   cases rn
   obtain ⟨t,rfl⟩:=r1
   obtain ⟨z,its,n,r,hl,e⟩:=I.lstM hH
   have hk:k<2 ^ 63:=by
    have:(xs.length:Int)<=2 ^ 40:=by
     have h2:xs.length<=2 ^ 40:=Nat.le_trans (Nat.le_of_lt hz) (by decide)
     lia
    lia
   refine call_meets PySem.F.slot_list_insert ⟨_,e,rfl⟩ PySem.F.entry_list_insert (PySem.F.args_list_insert_3 _ _ _)
    (AutoSeq1.list_insert_list_int_val_1 l its.toArray n k t _ (by rw [fitsIndex_both (by lia) hk];decide) (by rw [List.size_toArray];lia)) ⟨e,?_⟩
   refine ⟨.non,_,I.lset (its':=its.take k.toNat++_::its.drop k.toNat) hH e ?_ ((r.take _).append (.cons r2 (r.drop _))) ?_,rfl,q⟩
   ·show (its.toArray.extract 0 (if k<0 then (k+(its.toArray.size:Int)).toNat else min k.toNat its.toArray.size)).push _++its.toArray.extract (if k<0 then (k+(its.toArray.size:Int)).toNat else min k.toNat its.toArray.size)=_
    rw [if_neg (by lia),List.size_toArray,Nat.min_eq_left (by lia)]
    apply Array.toList_inj.mp
    simp
    rw [List.take_of_length_le (by rw [List.length_drop];exact Nat.le_refl _)]
   ·rw [List.length_append,List.length_cons,List.length_take,List.length_drop]
    lia
theorem zkU {T:String}{name:Str}{id:String}{r:V->List V->Hp->VK->Prop}{o e:Expr}{es:List Expr}{to:TE}{t:TA}{apos cpos:Pos}(pa:PlainAttrs T)(slot:Slot T name id)(hty:typeOf (.builtin id)=pure (.type "method_descriptor"))(hm:MtR X id r)(ho:QE X o to)(ha:QA X (e::es) t)
  (hbase:attributeBase o name X.env (eval o X.env)=eval o X.env:=by rfl)
  (hfew:((backTo cpos (starEach (e::es) X.env)).all (fun x=>!x.1)&&(backToKw cpos (keywordEach [] X.env)).all (fun x=>x.1.isSome)
   && decide ((e::es).length+([]:List Keyword).length+(if ([]:List Keyword).isEmpty then 0 else 1)<30))=true:=by rfl)
  (hline:(apos.endLine==cpos.line)=true:=by rfl) (hs:starEach (e::es) X.env=(false,eval e X.env)::starEach es X.env:=by rfl) (hplain:(backTo cpos (starEach es X.env)).any (·.1)=false:=by rfl) :
  QE X (.Call (.Attribute o name apos) (e::es) [] cpos) (tBM X.K T r to t):=⟨zoZ pa slot hty hm ho.run ha.run hbase hfew hline hs hplain⟩
def zig:List V->Hp->VK->Prop:=fun xs H Q=>∃ (l:Addr) (ns:List Int),xs=[.ref l]/\H l=some (.lst (ns.map V.int))/\ns.length<64/\∀ ns':List Int,ns'.Perm ns->ns'.Pairwise (·<=·)->New H (.lst (ns'.map V.int)) Q
theorem zfv:∀ {ns:List Int} {its:List Value},z0 (ns.map V.int) its->IntsAre its ns
 | [],_,h=>by cases h;exact .nil
 | n::ns,_,h=>by
  cases h with
  | cons r1 r2=>
   obtain ⟨t,rfl⟩:=r1
   exact .cons _ _ (zfv r2)
theorem ziP {ns:List Int}{its:List Value}(h:IntsAre its ns):z0 (ns.map V.int) its:=by
 induction h with
 | nil=>exact .nil
 | cons _ _ _ ih=>exact .cons ⟨_,rfl⟩ ih
theorem zi1:CallQ X (.builtin "sorted") zig:=⟨by
 intro pins s σ H xs us Q I r h
 obtain ⟨l,ns,rfl,hl,n,q⟩:=h
 obtain ⟨u,rfl,ru⟩:=zaU r
 cases ru
 obtain ⟨its,rv,pl,hz⟩:=I.list (.of hl)
 obtain ⟨m0,a,_⟩:=id I.loc
 refine PySem.W.kso_sorted (h₀:=(⟨#[],{}⟩:Heap)) (L:=X.env.locals) (m:=m0) (news:=zaN s.heap X.env.locals) ⟨a,fun b o e=>?_,Nat.zero_le _⟩ (fun p hp=>?_) pl.isList (zfv rv) n fun D w d c h' F N f hi hlen hp hs _=>?_
 ·have:=Heap.lt_size e
  simp at this
 ·obtain ⟨b,o⟩:=p
  have:=zN.mp hp
  refine ⟨this.2,this.1,?_⟩
  cases e:(⟨#[],{}⟩:Heap).get? b with
  | none=>rfl
  | some o'=>
   have:=Heap.lt_size e
   simp at this
 ·have t:∀ b o,b≠X.env.locals->s.heap.get? b=some o->h'.get? b=some o:=fun b o hb e=>(N (b,o) (List.mem_cons_of_mem _ (zN.mpr ⟨hb,e⟩))).1
  have v:D≠X.env.locals:=(N (D,_) List.mem_cons_self).2.1
  have g:s.heap.get? D=none:=by
   cases e:s.heap.get? D with
   | none=>rfl
   | some o=>exact absurd (f (D,o) (zN.mpr ⟨v,e⟩)) (Nat.lt_irrefl _)
  have i:H D=none:=by
   cases e:H D with
   | none=>rfl
   | some o=>
    obtain ⟨o',j⟩:=zaI (I.hok D o e)
    rw [g] at j;cases j
  have k:=(N (D,_) List.mem_cons_self).1
  have I':=zc1 I a (ys:=d.map V.int) t F.ns g i k (ziP hi) (by rw [List.length_map,hlen,sizeLine_eq];lia) s.toks
  exact ⟨.ref D,_,I',rfl,(q d hp hs).at i⟩⟩
end
end L2
namespace L3
open PySem L2
abbrev zr:=Addr×Addr×List Int
inductive W where
 | d (x:Dt) | pen (p:Addr) | dk (kvs:List (Key×Dt)) | dt (kvs:List (List Int×Dt))
abbrev Mo (α:Type):=Nat->(α->Nat->Prop)->Prop
abbrev Ev:=List (Option W)
def NP (o:HO):Prop:=∀ kvs,o = .dK kvs->zbs kvs (Sum.inr "at" : Key)=none
theorem NP.lst {xs:List V}:NP (.lst xs):=fun _ e=>by cases e
open Classical in
noncomputable def z7 (A:Addr->Prop)(H:Hp):Hp:=fun b=>if A b then none else H b
section
variable {A A0:Addr->Prop}{H H' G G' T T':Hp}{a b:Addr}{o:HO}
theorem yw:z7 A H b=some o↔¬ A b/\H b=some o:=by
 unfold z7
 by_cases h:A b
 ·simp [h]
 ·simp [h]
theorem zF (h:¬ A b)(e:H b=some o):z7 A H b=some o:=yw.mpr ⟨h,e⟩
theorem zq:xB (z7 A H) H:=fun b o e=>(yw.mp e).2
theorem zV (s:zw H H'):zw (z7 A H) (z7 A H'):=fun b o e n=>zF (yw.mp e).1 (s b o (yw.mp e).2 n)
theorem uF (s:xB H H'):xB (z7 A H) (z7 A H'):=fun b o e=>zF (yw.mp e).1 (s b o (yw.mp e).2)
theorem yZ (h:∀ b,A0 b->A b):xB (z7 A H) (z7 A0 H):=fun b o e=>zF (fun z=>(yw.mp e).1 (h b z)) (yw.mp e).2
theorem yp (h:A a):z7 A (upd H a o)=z7 A H:=by
 funext b
 unfold z7
 by_cases hb:A b
 ·simp [hb]
 ·have:b≠a:=fun e=>hb (e ▸ h)
  simp [hb,zf this]
end
def DAt (T G:Hp):Dt->V->Prop
 | .lst l,v=>∃ a xs,v = .ref a/\T a=some (.lst xs)/\IsL G l xs
 | .dct,v=>∃ a kvs,v = .ref a/\T a=some (.dK kvs)/\zbs kvs (Sum.inr "at" : Key)=none
 | .non,v=>Is G .non v
 | .bl b,v=>Is G (.bl b) v
 | .int i,v=>Is G (.int i) v
 | .str x,v=>Is G (.str x) v
 | .tup l,v=>Is G (.tup l) v
theorem DAt.is {G:Hp}{x:Dt}{v:V}(h:DAt G G x v):Is G x v:=by cases x <;> exact h
theorem DAt.of {G:Hp}{x:Dt}{v:V}(h:Is G x v):DAt G G x v:=by cases x <;> exact h
theorem DAt.up {T T' G G':Hp}{x:Dt}{v:V}(t:zw T T')(g:zw G G')(h:DAt T G x v):DAt T' G' x v:=by
 cases x with
 | lst l=>obtain ⟨a,xs,e,h1,h2⟩:=h;exact ⟨a,xs,e,t.lst h1,h2.stay g⟩
 | dct=>obtain ⟨a,b,e,h1,h2⟩:=h;exact ⟨a,b,e,t _ _ h1 fun k q=>by cases q;exact h2,h2⟩
 | _=>exact Is.stay g h
theorem DAt.full {T G H:Hp}{x:Dt}{v:V}(t:xB T H)(g:xB G H)(h:DAt T G x v):Is H x v:=(DAt.up (zw.same t) (zw.same g) h).is
def u5 {κ:Type}(G:Hp):List (κ×Dt)->List (κ×V)->Prop
 | [],ks=>ks=[]
 | q::r,ks=>∃ v s,ks=(q.1,v)::s/\Is G q.2 v/\u5 G r s
theorem u5.stay {κ:Type}{G G':Hp}(s:zw G G'):∀ {kvs:List (κ×Dt)} {ks:List (κ×V)},u5 G kvs ks->u5 G' kvs ks
 | [],_,h=>h
 | q::r,ks,⟨v,t,e,h1,h2⟩=>⟨v,t,e,h1.stay s,u5.stay s h2⟩
def WAt (T G:Hp):W->V->Prop
 | .d x,v=>DAt T G x v
 | .pen p,v=>v = .ref p
 | .dk kvs,v=>∃ a ks,v = .ref a/\T a=some (.dK ks)/\u5 G kvs ks/\zbs ks (Sum.inr "at" : Key)=none
 | .dt kvs,v=>∃ a ks,v = .ref a/\T a=some (dtO ks)/\u5 G kvs ks
theorem WAt.up {T T' G G':Hp}{w:W}{v:V}(t:zw T T')(g:zw G G')(h:WAt T G w v):WAt T' G' w v:=by
 cases w with
 | d x=>exact DAt.up t g h
 | pen p=>exact h
 | dk b=>
  obtain ⟨a,ks,e,h1,h2,h3⟩:=h
  exact ⟨a,ks,e,t _ _ h1 fun k q=>by cases q;exact h3,h2.stay g,h3⟩
 | dt b=>
  obtain ⟨a,ks,e,h1,h2⟩:=h
  exact ⟨a,ks,e,t _ _ h1 (fun k q=>by cases q),h2.stay g⟩
@[reducible] def W.mut:W->Bool
 | .d (.lst _)=>true
 | .d .dct=>true
 | .dk _=>true
 | .dt _=>true
 | _=>false
abbrev Val (A:Addr->Prop)(H:Hp)(w:W)(v:V):Prop:=WAt (z7 A H) (z7 A H) w v
abbrev Bor (A:Addr->Prop)(H:Hp)(w:W)(v:V):Prop:=WAt H (z7 A H) w v
theorem Val.bor {A:Addr->Prop}{H:Hp}{w:W}{v:V}(h:Val A H w v):Bor A H w v:=WAt.up (zw.same zq) (zw.refl _) h
theorem Val.stay {A:Addr->Prop}{H H':Hp}{w:W}{v:V}(h:Val A H w v)(s:zw H H'):Val A H' w v:=WAt.up (zV s) (zV s) h
theorem Bor.stay {A:Addr->Prop}{H H':Hp}{w:W}{v:V}(h:Bor A H w v)(s:zw H H'):Bor A H' w v:=WAt.up s (zV s) h
theorem Bor.is {A:Addr->Prop}{H:Hp}{x:Dt}{v:V}(h:Bor A H (.d x) v):Is H x v:=DAt.full (zin _) zq h
theorem Val.is {A:Addr->Prop}{H:Hp}{x:Dt}{v:V}(h:Val A H (.d x) v):Is (z7 A H) x v:=DAt.is h
theorem Val.of {A:Addr->Prop}{H:Hp}{x:Dt}{v:V}(h:Is (z7 A H) x v):Val A H (.d x) v:=DAt.of h
mutual
theorem zkB {A:Addr->Prop}{H:Hp}(hA:∀ a xs,A a->H a≠some (.tup xs)):∀ {x:Dt} {v:V},x.noL=true->Is H x v->Is (z7 A H) x v
 | .non,_,_,h=>h
 | .bl _,_,_,h=>h
 | .int _,_,_,h=>h
 | .str _,_,_,h=>h
 | .tup l,_,n,h=>by
  obtain ⟨p,xs,e,hp,hl⟩:=h
  exact ⟨p,xs,e,zF (fun z=>hA p xs z hp) hp,xu hA (by simpa [Dt.noL] using n) hl⟩
 | .lst l,_,n,_=>by simp [Dt.noL] at n
 | .dct,_,n,_=>by simp [Dt.noL] at n
theorem xu {A:Addr->Prop}{H:Hp}(hA:∀ a xs,A a->H a≠some (.tup xs)):∀ {ds:List Dt} {xs:List V},Dt.noLs ds=true->IsL H ds xs->IsL (z7 A H) ds xs
 | [],_,_,h=>h
 | d::ds,xs,n,h=>by
  obtain ⟨x,r,e,h1,h2⟩:=h
  have n':(d.noL&&Dt.noLs ds)=true:=by simpa [Dt.noLs] using n
  rw [Bool.and_eq_true] at n'
  exact ⟨x,r,e,zkB hA n'.1 h1,xu hA n'.2 h2⟩
end
def xh (Pn:Option zr)(A:Addr->Prop)(n:Nat)(H:Hp):Prop:=
 match Pn with
 | none=>True
 | some (p,c,ns)=>Pen H p c ns n/\(∀ r,ns=0::r->¬ A c)/\¬ A p
def Own (A:Addr->Prop)(H:Hp)(w:W)(v:V):Prop:=∃ a,v = .ref a/\A a/\Bor A H w v/\w.mut=true
def Al (A:Addr->Prop)(H:Hp):Prop:=∀ a,A a->∃ o,H a=some o/\NP o/\∀ xs,o≠.tup xs
structure EnvR (A:Addr->Prop)(M:List Nat)(σ:St)(H:Hp)(ρ:Ev):Prop where
 len:σ.length=ρ.length
 val:∀ i w,ρ[i]?=some (some w)->∃ v,σ[i]?=some (some v)/\(i∉M->Val A H w v)/\(i∈M->Own A H w v)
 dis:∀ i j w u a,i∈M->j∈M->i≠j->ρ[i]?=some (some w)->ρ[j]?=some (some u)->σ[i]?=some (some (.ref a))->σ[j]?≠some (some (.ref a))
 al:Al A H
theorem EnvR.stay {A:Addr->Prop}{M:List Nat}{σ:St}{H H':Hp}{ρ:Ev}(E:EnvR A M σ H ρ)(s:zw H H'):EnvR A M σ H' ρ where
 len:=E.len
 val:=fun i w e=>by
  obtain ⟨v,h1,h2,h3⟩:=E.val i w e
  refine ⟨v,h1,fun z=>(h2 z).stay s,fun z=>?_⟩
  obtain ⟨a,e,h4,h5,h6⟩:=h3 z
  exact ⟨a,e,h4,h5.stay s,h6⟩
 dis:=E.dis
 al:=fun a h=>by
  obtain ⟨o,h1,h2,h3⟩:=E.al a h
  exact ⟨o,s _ _ h1 h2,h2,h3⟩
theorem EnvR.new {A:Addr->Prop}{M:List Nat}{σ:St}{H:Hp}{ρ:Ev}(E:EnvR A M σ H ρ){p:Addr}(h:H p=none):¬ A p:=fun z=>by
 obtain ⟨o,h1,_⟩:=E.al p z
 rw [h] at h1
 cases h1
def Fr (H:Hp)(a:Addr):Prop:=∀ o,H a=some o->¬ NP o
theorem Fr.of {H:Hp}{a:Addr}(h:H a=none):Fr H a:=fun o e=>by rw [h] at e;cases e
theorem Fr.back {H H1:Hp}{a:Addr}(h:Fr H1 a)(s:zw H H1):Fr H a:=fun o e n=>h o (s _ _ e n) n
def FrV (A:Addr->Prop)(H H':Hp)(w:W)(v:V):Prop:=∃ a,v = .ref a/\Fr H a/\WAt H' (z7 (fun b=>A b\/b=a) H') w v
theorem FrV.back {A:Addr->Prop}{H H1 H':Hp}{w:W}{v:V}(h:FrV A H1 H' w v)(s:zw H H1):FrV A H H' w v:=let ⟨a,e,f,g⟩:=h;⟨a,e,f.back s,g⟩
theorem FrV.less {A A0:Addr->Prop}{H H':Hp}{w:W}{v:V}(h:FrV A H H' w v)(s:∀ a,A0 a->A a):FrV A0 H H' w v:=let ⟨a,e,f,g⟩:=h;⟨a,e,f,WAt.up (zw.refl _) (zw.same (yZ fun b z=>z.elim (fun z=>.inl (s b z)) .inr)) g⟩
theorem EnvR.newF {A:Addr->Prop}{M:List Nat}{σ:St}{H:Hp}{ρ:Ev}(E:EnvR A M σ H ρ){p:Addr}(h:Fr H p):¬ A p:=fun z=>by
 obtain ⟨o,h1,h2,_⟩:=E.al p z
 exact h o h1 h2
theorem y2 {A:Addr->Prop}{H H':Hp}{p:Addr}(s:zw H H')(n:Fr H p):zw (z7 A H) (z7 (fun b=>A b\/b=p) H'):=fun b o e np=>by
 obtain ⟨h1,h2⟩:=yw.mp e
 exact zF (fun z=>z.elim h1 fun z=>by subst z;exact n o h2 np) (s b o h2 np)
structure Go (Pn:Option zr)(A:Addr->Prop)(H:Hp)(n:Nat)(H':Hp):Prop where
 st:zw H H'
 pn:xh Pn A n H'
theorem Go.trans {Pn:Option zr}{A:Addr->Prop}{H H1 H2:Hp}{n m:Nat}(a:Go Pn A H n H1)(b:Go Pn A H1 m H2):Go Pn A H m H2:=⟨a.st.trans b.st,b.pn⟩
structure RE (Pn:Option zr)(M:List Nat)(fr:Bool)(te:TE)(f:Ev->Mo W):Prop where
 run:∀ A σ H ρ n Q R,EnvR A M σ H ρ->xh Pn A n H->f ρ n R->(∀ w m v H',R w m->Val A H' w v->Go Pn A H m H'->(fr=true->FrV A H H' w v)->Q v H')->te σ H Q
structure RB (Pn:Option zr)(M:List Nat)(te:TE)(f:Ev->Mo W):Prop where
 run:∀ A σ H ρ n Q R,EnvR A M σ H ρ->xh Pn A n H->f ρ n R->(∀ w m v H',R w m->Bor A H' w v->Go Pn A H m H'->Q v H')->te σ H Q
structure RT (Pn:Option zr)(M:List Nat)(te:TT)(f:Ev->Mo Bool):Prop where
 run:∀ A σ H ρ n Q R,EnvR A M σ H ρ->xh Pn A n H->f ρ n R->(∀ b m H',R b m->Go Pn A H m H'->Q b H')->te σ H Q
def znH (A:Addr->Prop)(H:Hp):List W->List V->Prop
 | [],vs=>vs=[]
 | w::ws,vs=>∃ v r,vs=v::r/\Bor A H w v/\znH A H ws r
def zcL (A:Addr->Prop)(H:Hp):List W->List V->Prop
 | [],vs=>vs=[]
 | w::ws,vs=>∃ v r,vs=v::r/\Val A H w v/\zcL A H ws r
theorem zcL.bor {A:Addr->Prop}{H:Hp}:∀ {ws:List W} {vs:List V},zcL A H ws vs->znH A H ws vs
 | [],_,h=>h
 | _::_,_,⟨v,r,e,h1,h2⟩=>⟨v,r,e,h1.bor,zcL.bor h2⟩
structure RA (Pn:Option zr)(M:List Nat)(ta:TA)(f:Ev->Mo (List W)):Prop where
 run:∀ A σ H ρ n Q R,EnvR A M σ H ρ->xh Pn A n H->f ρ n R->(∀ ws m vs H',R ws m->zcL A H' ws vs->Go Pn A H m H'->Q vs H')->ta σ H Q
structure RAB (Pn:Option zr)(M:List Nat)(ta:TA)(f:Ev->Mo (List W)):Prop where
 run:∀ A σ H ρ n Q R,EnvR A M σ H ρ->xh Pn A n H->f ρ n R->(∀ ws m vs H',R ws m->znH A H' ws vs->Go Pn A H m H'->Q vs H')->ta σ H Q
structure Kt where
 nx:Ev->Nat->Prop
 rt:W->Nat->Prop
 bk:Ev->Nat->Prop:=fun _ _=>False
 ct:Ev->Nat->Prop:=fun _ _=>False
abbrev Ms:=Ev->Nat->Kt->Prop
def StX (ca:Addr->Prop)(H0 H:Hp):Prop:=∀ b o,H0 b=some o->NP o->¬ ca b->H b=some o
theorem StX.of {ca:Addr->Prop}{H0 H:Hp}(s:zw H0 H):StX ca H0 H:=fun b o e n _=>s b o e n
theorem StX.stay {H0 H:Hp}(s:StX (fun _=>False) H0 H):zw H0 H:=fun b o e n=>s b o e n fun z=>z
structure Frm (A0:Addr->Prop)(H0:Hp)(ca:Addr->Prop)(A:Addr->Prop)(H:Hp):Prop where
 sub:∀ a,A0 a->A a
 new:∀ a,A a->A0 a\/Fr H0 a\/ca a
 st:StX ca H0 H
 al:Al A0 H0
 cn:∀ a,ca a->¬ A0 a
 cs:∀ a,ca a->∃ o,H a=some o/\NP o
theorem Frm.back {A0:Addr->Prop}{H0:Hp}{ca A:Addr->Prop}{H:Hp}(f:Frm A0 H0 ca A H){a:Addr}(h:Fr H a)(n:¬ A a):Fr H0 a:=fun o e np=>h o (f.st a o e np fun z=>let ⟨o2,e2,n2⟩:=f.cs a z;h o2 e2 n2) np
structure Bs where
 ca:Addr->Prop:=fun _=>False
 A0:Addr->Prop
 H0:Hp
 G0:Hp
 σ0:St
structure At3 (Pn:Option zr)(B:Bs)(S M:List Nat)(A:Addr->Prop)(σ:St)(H:Hp)(ρ:Ev)(n:Nat):Prop where
 env:EnvR A M σ H ρ
 frm:Frm B.A0 B.H0 B.ca A H
 pn:xh Pn A n H
 prot:zw B.G0 (z7 A H)
 fix:∀ i∈S,σ[i]?=B.σ0[i]?
 mine:∀ i w a,i∈M->ρ[i]?=some (some w)->σ[i]?=some (some (.ref a))->Fr B.H0 a\/B.ca a
structure KOk (Pn:Option zr)(B:Bs)(S M:List Nat)(fr:Bool)(k:Kt)(D:Ends):Prop where
 nx:∀ A σ H ρ n,At3 Pn B S M A σ H ρ n->k.nx ρ n->D.nx σ H
 bk:∀ A σ H ρ n,At3 Pn B S M A σ H ρ n->k.bk ρ n->D.bk σ H
 ct:∀ A σ H ρ n,At3 Pn B S M A σ H ρ n->k.ct ρ n->D.ct σ H
 fc:fr=true->∀ a,¬ B.ca a
 rt:∀ w n v H,Val B.A0 H w v->StX B.ca B.H0 H->xh Pn B.A0 n H->(fr=true->FrV B.A0 B.H0 H w v)->k.rt w n->D.rt v H
structure RS (Pn:Option zr)(S M:List Nat)(fr:Bool)(ts:TS)(fs:Ms):Prop where
 run:∀ B A σ H ρ n k D,At3 Pn B S M A σ H ρ n->KOk Pn B S M fr k D->fs ρ n k->ts D σ H
structure RG (S M:List Nat)(g:TG)(mg:W->Ev->(Ev->Prop)->Prop):Prop where
 run:∀ A σ H ρ v w Q R,EnvR A M σ H ρ->Val A H w v->mg w ρ R->(∀ σ' ρ',R ρ'->EnvR A M σ' H ρ'->(∀ i∈S,σ'[i]?=σ[i]?/\ρ'[i]?=ρ[i]?)->Q σ' H)->g v σ H Q
structure RGs (S M:List Nat)(g:TGs)(mg:List Dt->Ev->(Ev->Prop)->Prop):Prop where
 run:∀ A σ H ρ vs ds Q R,EnvR A M σ H ρ->IsL (z7 A H) ds vs->mg ds ρ R->(∀ σ' ρ',R ρ'->EnvR A M σ' H ρ'->(∀ i∈S,σ'[i]?=σ[i]?/\ρ'[i]?=ρ[i]?)->Q σ' H)->g vs σ H Q
structure ItV (ow:Bool)(A:Addr->Prop)(H:Hp)(J:It)(l:List W):Prop where
 one:∀ i w A2 H2,l[i]?=some w->zw (z7 A H) (z7 A2 H2)->(ow=true->zw H H2)->(∀ p,H2 p=none->¬ A2 p)->J.go i H2/\∀ x H3,J.yld i H2 x H3->xB H2 H3/\Val A2 H3 w x
 stop:∀ A2 H2,zw (z7 A H) (z7 A2 H2)->(ow=true->zw H H2)->J.stop l.length H2
structure RI (Pn:Option zr)(M:List Nat)(ow:Bool)(wi:TI)(f:Ev->Mo (List W)):Prop where
 run:∀ A σ H ρ n Q R,EnvR A M σ H ρ->xh Pn A n H->f ρ n R->(∀ l m J H',R l m->ItV ow A H' J l->Go Pn A H m H'->Q J H')->wi σ H Q
theorem RE.rb {Pn:Option zr}{M:List Nat}{fr:Bool}{te:TE}{f:Ev->Mo W}(h:RE Pn M fr te f):RB Pn M te f:=
 ⟨fun A σ H ρ n Q R E P hf k=>h.run A σ H ρ n Q R E P hf fun w m v H' r a g _=>k w m v H' r a.bor g⟩
theorem RA.rab {Pn:Option zr}{M:List Nat}{te:TA}{f:Ev->Mo (List W)}(h:RA Pn M te f):RAB Pn M te f:=
 ⟨fun A σ H ρ n Q R E P hf k=>h.run A σ H ρ n Q R E P hf fun w m v H' r a g=>k w m v H' r a.bor g⟩
theorem xh.same {Pn:Option zr}{A:Addr->Prop}{n:Nat}{H H':Hp}(h:xh Pn A n H)(s:xB H H'):xh Pn A n H':=by
 unfold xh at h ⊢
 split at h
 ·trivial
 ·exact ⟨h.1.same s,h.2⟩
theorem Go.same {Pn:Option zr}{A:Addr->Prop}{n:Nat}{H H':Hp}(h:xh Pn A n H)(s:xB H H'):Go Pn A H n H':=⟨zw.same s,h.same s⟩
theorem Go.refl {Pn:Option zr}{A:Addr->Prop}{n:Nat}{H:Hp}(h:xh Pn A n H):Go Pn A H n H:=⟨zw.refl _,h⟩
structure JE (X:Cx)(Pn:Option zr)(M:List Nat)(fr:Bool)(e:Expr)(f:Ev->Mo W):Prop where
 ex:∃ te,QE X e te/\RE Pn M fr te f
structure JB (X:Cx)(Pn:Option zr)(M:List Nat)(e:Expr)(f:Ev->Mo W):Prop where
 ex:∃ te,QE X e te/\RB Pn M te f
structure JT (X:Cx)(Pn:Option zr)(M:List Nat)(e:Expr)(f:Ev->Mo Bool):Prop where
 ex:∃ te,QT X e te/\RT Pn M te f
structure JW (X:Cx)(Pn:Option zr)(M:List Nat)(e:Expr)(f:Ev->Mo Bool):Prop where
 ex:∃ te,QW X e te/\RT Pn M te f
structure JA (X:Cx)(Pn:Option zr)(M:List Nat)(es:List Expr)(f:Ev->Mo (List W)):Prop where
 ex:∃ te,QA X es te/\RA Pn M te f
structure JAB (X:Cx)(Pn:Option zr)(M:List Nat)(es:List Expr)(f:Ev->Mo (List W)):Prop where
 ex:∃ te,QA X es te/\RAB Pn M te f
structure JO (X:Cx)(Pn:Option zr)(M:List Nat)(e:Option Expr)(f:Ev->Mo (Option Int)):Prop where
 ex:∃ t,QO X e t/\∀ A σ H ρ n Q R,EnvR A M σ H ρ->xh Pn A n H->f ρ n R->(∀ o m H',R o m->Go Pn A H m H'->Q o H')->t σ H Q
section
variable {X:Cx}{Pn:Option zr}{M:List Nat}{fr:Bool}{e a b c:Expr}{es:List Expr}{f fa fb fc:Ev->Mo W}{pos p:Pos}
def zoA (i:Nat):Ev->Mo W:=fun ρ n Q=>∃ w,ρ[i]?=some (some w)/\Q w n
@[reducible] def mC (w:W):Ev->Mo W:=fun _ n Q=>Q w n
@[reducible] def zhC (F:W->W->Mo W) (fa fb:Ev->Mo W):Ev->Mo W:=fun ρ n Q=>fa ρ n fun x n1=>fb ρ n1 fun y n2=>F x y n2 Q
@[reducible] def mUn (F:W->Mo W) (fa:Ev->Mo W):Ev->Mo W:=fun ρ n Q=>fa ρ n fun x n1=>F x n1 Q
def zjD (fa:Ev->Mo W):Ev->Mo Bool:=fun ρ n Q=>fa ρ n fun x n1=>∃ c,x = .d (.bl c)/\Q c n1
def zqq (t u:Ev->Mo Bool):Ev->Mo Bool:=fun ρ n Q=>t ρ n fun c n1=>if c=true then u ρ n1 Q else Q false n1
def mOr (t u:Ev->Mo Bool):Ev->Mo Bool:=fun ρ n Q=>t ρ n fun c n1=>if c=true then Q true n1 else u ρ n1 Q
def zrs (t:Ev->Mo Bool):Ev->Mo Bool:=fun ρ n Q=>t ρ n fun c n1=>Q (!c) n1
def mIf (t:Ev->Mo Bool)(fa fb:Ev->Mo W):Ev->Mo W:=fun ρ n Q=>t ρ n fun c n1=>if c=true then fa ρ n1 Q else fb ρ n1 Q
@[reducible] def zqv:Ev->Mo (List W):=fun _ n Q=>Q [] n
@[reducible] def zeR (fa:Ev->Mo W) (fr:Ev->Mo (List W)):Ev->Mo (List W):=fun ρ n Q=>fa ρ n fun x n1=>fr ρ n1 fun xs n2=>Q (x::xs) n2
@[reducible] def zri (F:List W->Mo W) (fa:Ev->Mo (List W)):Ev->Mo W:=fun ρ n Q=>fa ρ n fun xs n1=>F xs n1 Q
theorem JE.bo (h:JE X Pn M fr e f):JB X Pn M e f:=let ⟨te,h1,h2⟩:=h.ex;⟨te,h1,h2.rb⟩
theorem JA.bo {f:Ev->Mo (List W)}(h:JA X Pn M es f):JAB X Pn M es f:=let ⟨te,h1,h2⟩:=h.ex;⟨te,h1,h2.rab⟩
theorem zpE {i:Nat}(hi:i∉M):RE Pn M false (zk5 i) (zoA i):=⟨fun A σ H ρ n Q R E P hf k=>by
 obtain ⟨w,e,r⟩:=hf
 obtain ⟨v,h1,h2,_⟩:=E.val i w e
 exact ⟨v,h1,k w n v H r (h2 hi) (Go.refl P) fun z=>by cases z⟩⟩
theorem zpx {i:Nat}:RB Pn M (zk5 i) (zoA i):=⟨fun A σ H ρ n Q R E P hf k=>by
 obtain ⟨w,e,r⟩:=hf
 obtain ⟨v,h1,h2,h3⟩:=E.val i w e
 refine ⟨v,h1,k w n v H r ?_ (Go.refl P)⟩
 by_cases hi:i∈M
 ·obtain ⟨a,_,_,h,_⟩:=h3 hi
  exact h
 ·exact (h2 hi).bor⟩
theorem zre (i:Nat){x:Str}(hi:i∉M:=by decide)(hN:X.N[i]?=some x:=by rfl)(hv:Vis X.env.scope x:=by first | exact Or.inl rfl | exact Or.inr (Or.inl rfl) | exact Or.inr (Or.inr rfl))(hd:(x==("__debug__" : Str))=false:=by decide)
  (hcd:(x==("__classdict__" : Str))=false:=by decide):JE X Pn M false (.Name x pos) (zoA i):=⟨_,qv i hN hv hd hcd,zpE hi⟩
theorem zrb (i:Nat){x:Str}(hN:X.N[i]?=some x:=by rfl)(hv:Vis X.env.scope x:=by first | exact Or.inl rfl | exact Or.inr (Or.inl rfl) | exact Or.inr (Or.inr rfl))(hd:(x==("__debug__" : Str))=false:=by decide)
  (hcd:(x==("__classdict__" : Str))=false:=by decide):JB X Pn M (.Name x pos) (zoA i):=⟨_,qv i hN hv hd hcd,zpx⟩
theorem re_c {x:Dt}{v:V}(h:∀ G,Is G x v):RE Pn M false (tC v) (mC (.d x)):=⟨fun A σ H ρ n Q R E P hf k=>k _ n v H hf (Val.of (h _)) (Go.refl P) fun z=>by cases z⟩
theorem zi {i:Int}{j:Nat}:JE X Pn M false (.Constant (.int i) j pos) (mC (.d (.int i))):=⟨_,yy,re_c fun _=>rfl⟩
theorem zhk {k:Bool}{j:Nat}:JE X Pn M false (.Constant (.bool k) j pos) (mC (.d (.bl k))):=⟨_,zrS,re_c fun _=>rfl⟩
theorem Al.new {A:Addr->Prop}{H:Hp}(h:Al A H){p:Addr}(e:H p=none):¬ A p:=fun z=>by
 obtain ⟨o,h1,_⟩:=h p z
 rw [e] at h1;cases h1
theorem Al.stay {A:Addr->Prop}{H H':Hp}(h:Al A H)(s:zw H H'):Al A H':=fun a z=>by
 obtain ⟨o,h1,h2,h3⟩:=h a z
 exact ⟨o,s _ _ h1 h2,h2,h3⟩
theorem Al.noT {A:Addr->Prop}{H:Hp}(h:Al A H):∀ a xs,A a->H a≠some (.tup xs):=fun a xs z e=>by
 obtain ⟨o,h1,_,h3⟩:=h a z
 rw [h1] at e;cases e;exact h3 xs rfl
theorem Al.noT' {A:Addr->Prop}{H H':Hp}(h:Al A H)(s:zw H H'){p:Addr}{xs:List V}(e:H' p=some (.tup xs)):¬ A p:=fun z=>(h.stay s).noT p xs z e
structure F2 (Pn:Option zr)(fr:Bool)(r:R2)(F:W->W->Mo W):Prop where
 run:∀ A H x y wx wy n Q R,Al A H->Bor A H wx x->Bor A H wy y->xh Pn A n H->F wx wy n R->(∀ w m v H',R w m->Val A H' w v->Go Pn A H m H'->(fr=true->FrV A H H' w v)->Q v H')->r x y H Q
structure F1 (Pn:Option zr)(fr:Bool)(r:V->Hp->VK->Prop)(F:W->Mo W):Prop where
 run:∀ A H x wx n Q R,Al A H->Bor A H wx x->xh Pn A n H->F wx n R->(∀ w m v H',R w m->Val A H' w v->Go Pn A H m H'->(fr=true->FrV A H H' w v)->Q v H')->r x H Q
structure FL (Pn:Option zr)(fr:Bool)(r:List V->Hp->VK->Prop)(F:List W->Mo W):Prop where
 run:∀ A H xs ws n Q R,Al A H->znH A H ws xs->xh Pn A n H->F ws n R->(∀ w m v H',R w m->Val A H' w v->Go Pn A H m H'->(fr=true->FrV A H H' w v)->Q v H')->r xs H Q
theorem zj8 {r:R2}{F:W->W->Mo W}{ta tb:TE}(hr:F2 Pn fr r F)(ha:RB Pn M ta fa)(hb:RB Pn M tb fb):RE Pn M fr (tOp r ta tb) (zhC F fa fb):=⟨fun A σ H ρ n Q R E P hf k=>by
 refine ha.run A σ H ρ n _ _ E P hf fun x n1 v1 H1 r1 b1 g1=>?_
 refine hb.run A σ H1 ρ n1 _ _ (E.stay g1.st) g1.pn r1 fun y n2 v2 H2 r2 b2 g2=>?_
 have g:=g1.trans g2
 exact hr.run A H2 v1 v2 x y n2 _ _ (E.stay g.st).al (b1.stay g2.st) b2 g2.pn r2 fun w m v H' h1 h2 h3 h4=>k w m v H' h1 h2 (g.trans h3) fun z=>(h4 z).back g.st⟩
theorem zpz {r:List V->Hp->VK->Prop}{F:List W->Mo W}{ta:TA}{fa:Ev->Mo (List W)}(hr:FL Pn fr r F)(ha:RAB Pn M ta fa):RE Pn M fr (tCB r ta) (zri F fa):=⟨fun A σ H ρ n Q R E P hf k=>by
 refine ha.run A σ H ρ n _ _ E P hf fun x n1 v1 H1 r1 b1 g1=>?_
 exact hr.run A H1 v1 x n1 _ _ (E.stay g1.st).al b1 g1.pn r1 fun w m v H' h1 h2 h3 h4=>k w m v H' h1 h2 (g1.trans h3) fun z=>(h4 z).back g1.st⟩
theorem x2 {op:Operator}{r:R2}{F:W->W->Mo W}(ho:OpQ X (binaryOp op) r)(hr:F2 Pn fr r F)(ha:JB X Pn M a fa)(hb:JB X Pn M b fb):JE X Pn M fr (.BinOp a op b pos) (zhC F fa fb):=by
 obtain ⟨ta,qa,ra⟩:=ha.ex
 obtain ⟨tb,qb,rb⟩:=hb.ex
 exact ⟨_,yO ho qa qb,zj8 hr ra rb⟩
theorem zom {op:CmpOp}{r:R2}{F:W->W->Mo W}(ho:OpQ X (compareOp op) r)(hr:F2 Pn fr r F)(ha:JB X Pn M a fa)(hb:JB X Pn M b fb)(hm:behindInMarks op b=false):JE X Pn M fr (.Compare a [op] [b] pos) (zhC F fa fb):=by
 obtain ⟨ta,qa,ra⟩:=ha.ex
 obtain ⟨tb,qb,rb⟩:=hb.ex
 exact ⟨_,zmK ho qa qb hm,zj8 hr ra rb⟩
theorem zk1 {ta:TE}(h:RB Pn M ta fa):RT Pn M (znp ta) (zjD fa):=⟨fun A σ H ρ n Q R E P hf k=>by
 refine h.run A σ H ρ n _ _ E P hf fun x n1 v1 H1 ⟨c,e,r⟩ b1 g1=>?_
 subst e
 have a:v1 = .bl c:=b1
 exact ⟨c,a,k c n1 H1 r g1⟩⟩
theorem zC {op:CmpOp}{r:R2}{F:W->W->Mo W}(ho:OpQ X (compareOp op) r)(hr:F2 Pn fr r F)(ha:JB X Pn M a fa)(hb:JB X Pn M b fb)(hm:behindInMarks op b=false):JT X Pn M (.Compare a [op] [b] pos) (zjD (zhC F fa fb)):=by
 obtain ⟨ta,qa,ra⟩:=ha.ex
 obtain ⟨tb,qb,rb⟩:=hb.ex
 exact ⟨_,zb4 ho qa qb hm,zk1 (zj8 hr ra rb).rb⟩
theorem zaD (h:JB X Pn M e f)(he:∀ whole,isTrue e X.env whole=(do let v <- whole;standAt e.pos;holding [v] (truthy v)):=by intro _;rfl):JT X Pn M e (zjD f):=by
 obtain ⟨ta,qa,ra⟩:=h.ex
 exact ⟨_,zpu qa he,zk1 ra⟩
theorem zbN {t:Ev->Mo Bool}(h:JT X Pn M a t):JT X Pn M (.UnaryOp .Not a pos) (zrs t):=by
 obtain ⟨ta,qa,ra⟩:=h.ex
 exact ⟨_,zpt qa,⟨fun A σ H ρ n Q R E P hf k=>ra.run A σ H ρ n _ _ E P hf fun b m H' r g=>k _ m H' r g⟩⟩
theorem uJ {op:BoolOp}{t:Ev->Mo Bool}(b:op = .And\/op = .Or)(h:JT X Pn M a t):JW X Pn M (.BoolOp op [a] pos) t:=by
 obtain ⟨ta,qa,ra⟩:=h.ex
 rcases b with rfl | rfl
 ·exact ⟨_,zib qa,ra⟩
 ·exact ⟨_,zpv qa,ra⟩
theorem zpN {t u:TT}{ft fu:Ev->Mo Bool}(h:RT Pn M t ft)(h':RT Pn M u fu):RT Pn M (zr0 t u) (zqq ft fu):=⟨fun A σ H ρ n Q R E P hf k=>by
 refine h.run A σ H ρ n _ _ E P hf fun c m H1 r g=>?_
 cases c with
 | true=>exact h'.run A σ H1 ρ m _ _ (E.stay g.st) g.pn (by simpa using r) fun b m' H' r' g'=>k b m' H' r' (g.trans g')
 | false=>exact k false m H1 (by simpa using r) g⟩
theorem zrZ {t u:TT}{ft fu:Ev->Mo Bool}(h:RT Pn M t ft)(h':RT Pn M u fu):RT Pn M (tOr t u) (mOr ft fu):=⟨fun A σ H ρ n Q R E P hf k=>by
 refine h.run A σ H ρ n _ _ E P hf fun c m H1 r g=>?_
 cases c with
 | false=>exact h'.run A σ H1 ρ m _ _ (E.stay g.st) g.pn (by simpa using r) fun b m' H' r' g'=>k b m' H' r' (g.trans g')
 | true=>exact k true m H1 (by simpa using r) g⟩
theorem zaf {z6:List Expr}{t u:Ev->Mo Bool}(h:JT X Pn M a t)(h':JW X Pn M (.BoolOp .And (b::z6) pos) u):JW X Pn M (.BoolOp .And (a::b::z6) pos) (zqq t u):=by
 obtain ⟨ta,qa,ra⟩:=h.ex
 obtain ⟨tb,qb,rb⟩:=h'.ex
 exact ⟨_,zkX qa qb,zpN ra rb⟩
theorem zlS {z6:List Expr}{t u:Ev->Mo Bool}(h:JT X Pn M a t)(h':JW X Pn M (.BoolOp .Or (b::z6) pos) u):JW X Pn M (.BoolOp .Or (a::b::z6) pos) (mOr t u):=by
 obtain ⟨ta,qa,ra⟩:=h.ex
 obtain ⟨tb,qb,rb⟩:=h'.ex
 exact ⟨_,zrU qa qb,zrZ ra rb⟩
theorem JW.t {t:Ev->Mo Bool}(h:JW X Pn M e t):JT X Pn M e t:=let ⟨te,h1,h2⟩:=h.ex;⟨te,h1.pt,h2⟩
theorem j_if {t:Ev->Mo Bool}(hc:JT X Pn M c t)(ha:JE X Pn M fr a fa)(hb:JE X Pn M fr b fb):JE X Pn M fr (.IfExp c a b pos) (mIf t fa fb):=by
 obtain ⟨tc,qc,rc⟩:=hc.ex
 obtain ⟨ta,qa,ra⟩:=ha.ex
 obtain ⟨tb,qb,rb⟩:=hb.ex
 refine ⟨_,zj2 qc qa qb,⟨fun A σ H ρ n Q R E P hf k=>?_⟩⟩
 refine rc.run A σ H ρ n _ _ E P hf fun c m H1 r g=>?_
 cases c with
 | true=>
  rw [if_pos rfl] at r ⊢
  exact ra.run A σ H1 ρ m _ _ (E.stay g.st) g.pn r fun w m' v' H' r' a' g' f'=>k w m' v' H' r' a' (g.trans g') fun z=>(f' z).back g.st
 | false=>
  rw [if_neg (by decide)] at r ⊢
  exact rb.run A σ H1 ρ m _ _ (E.stay g.st) g.pn r fun w m' v' H' r' a' g' f'=>k w m' v' H' r' a' (g.trans g') fun z=>(f' z).back g.st
@[reducible] def isNon:W->Bool
 | .d .non=>true
 | _=>false
theorem Bor.isNon {A:Addr->Prop}{H:Hp}{w:W}{v:V}(h:Bor A H w v):decide (v = .non)=isNon w:=by
 cases w with
 | d x=>
  cases x with
  | non=>have:v = .non:=h;subst this;rfl
  | bl c=>have:v = .bl c:=h;subst this;rfl
  | int c=>have:v = .int c:=h;subst this;rfl
  | str c=>have:v = .str c:=h;subst this;rfl
  | tup l=>obtain ⟨a,_,rfl,_⟩:=h;rfl
  | lst l=>obtain ⟨a,_,rfl,_⟩:=h;rfl
  | dct=>obtain ⟨a,_,rfl,_⟩:=h;rfl
 | pen p=>have:v = .ref p:=h;subst this;rfl
 | dk k=>obtain ⟨a,_,rfl,_⟩:=h;rfl
 | dt k=>obtain ⟨a,_,rfl,_⟩:=h;rfl
@[reducible] def mIsN (fa:Ev->Mo W):Ev->Mo W:=fun ρ n Q=>fa ρ n fun x n1=>Q (.d (.bl (isNon x))) n1
@[reducible] def mNotN (fa:Ev->Mo W):Ev->Mo W:=fun ρ n Q=>fa ρ n fun x n1=>Q (.d (.bl (!isNon x))) n1
theorem zpD {ta:TE}(h:RB Pn M ta fa):RE Pn M false (zr3 ta) (mIsN fa):=⟨fun A σ H ρ n Q R E P hf k=>by
 refine h.run A σ H ρ n _ _ E P hf fun x m v H1 r b1 g=>?_
 exact k _ m _ H1 r (Val.of (by rw [b1.isNon];rfl)) g fun z=>by cases z⟩
theorem zpO {ta:TE}(h:RB Pn M ta fa):RT Pn M (tB ta) (zjD fa):=⟨fun A σ H ρ n Q R E P hf k=>by
 refine h.run A σ H ρ n _ _ E P hf fun x n1 v1 H1 ⟨c,e,r⟩ b1 g1=>?_
 subst e
 have a:v1 = .bl c:=b1
 exact ⟨c,a,k c n1 H1 r g1⟩⟩
theorem zoq {j:Nat}{pos':Pos}(h:JB X Pn M a fa):JT X Pn M (.Compare a [.Is] [.Constant .none j pos'] pos) (zjD (mIsN fa)):=by
 obtain ⟨ta,qa,ra⟩:=h.ex
 exact ⟨_,zkW (zpm qa),zpO (zpD ra).rb⟩
theorem ze:JA X Pn M [] zqv:=⟨_,y8,⟨fun A σ H ρ n Q R E P hf k=>k [] n [] H hf rfl (Go.refl P)⟩⟩
theorem za {fs:Ev->Mo (List W)}(ha:JE X Pn M fr e f)(hr:JA X Pn M es fs)(hs:starEach (e::es) X.env=(false,eval e X.env)::starEach es X.env:=by rfl):JA X Pn M (e::es) (zeR f fs):=by
 obtain ⟨ta,qa,ra⟩:=ha.ex
 obtain ⟨tb,qb,rb⟩:=hr.ex
 refine ⟨_,z8 qa qb hs,⟨fun A σ H ρ n Q R E P hf k=>?_⟩⟩
 refine ra.run A σ H ρ n _ _ E P hf fun x n1 v1 H1 r1 b1 g1 _=>?_
 exact rb.run A σ H1 ρ n1 _ _ (E.stay g1.st) g1.pn r1 fun xs n2 vs H2 r2 b2 g2=>k _ n2 _ H2 r2 ⟨v1,vs,rfl,b1.stay g2.st,b2⟩ (g1.trans g2)
theorem zj:JAB X Pn M [] zqv:=ze.bo
theorem zg {fs:Ev->Mo (List W)}(ha:JB X Pn M e f)(hr:JAB X Pn M es fs)(hs:starEach (e::es) X.env=(false,eval e X.env)::starEach es X.env:=by rfl):JAB X Pn M (e::es) (zeR f fs):=by
 obtain ⟨ta,qa,ra⟩:=ha.ex
 obtain ⟨tb,qb,rb⟩:=hr.ex
 refine ⟨_,z8 qa qb hs,⟨fun A σ H ρ n Q R E P hf k=>?_⟩⟩
 refine ra.run A σ H ρ n _ _ E P hf fun x n1 v1 H1 r1 b1 g1=>?_
 exact rb.run A σ H1 ρ n1 _ _ (E.stay g1.st) g1.pn r1 fun xs n2 vs H2 r2 b2 g2=>k _ n2 _ H2 r2 ⟨v1,vs,rfl,b1.stay g2.st,b2⟩ (g1.trans g2)
def lim:Nat:=500000
theorem zd0 {n:Nat}(h:n<=lim):n<=sizeLine:=Nat.le_trans h (by decide)
theorem zfz {n:Nat}(h:n<=lim):n<sizeLine:=Nat.lt_of_le_of_lt h (by decide)
def dts:List W->Option (List Dt)
 | []=>some []
 | .d x::r=>(dts r).map (x::·)
 | _::_=>none
theorem zcL.dts {A:Addr->Prop}{H:Hp}:∀ {ws:List W} {vs:List V} {l:List Dt},zcL A H ws vs->dts ws=some l->IsL (z7 A H) l vs
 | [],vs,l,h,e=>by cases e;exact h
 | .d x::ws,vs,l,⟨v,r,e1,h1,h2⟩,e=>by
  obtain ⟨l',e2,rfl⟩:=Option.map_eq_some_iff.mp e
  exact ⟨v,r,e1,h1.is,zcL.dts h2 e2⟩
 | .pen _::_,_,_,_,e=>by cases e
 | .dk _::_,_,_,_,e=>by cases e
 | .dt _::_,_,_,_,e=>by cases e
theorem zcL.len {A:Addr->Prop}{H:Hp}:∀ {ws:List W} {vs:List V},zcL A H ws vs->vs.length=ws.length
 | [],_,h=>by cases h;rfl
 | _::ws,vs,⟨v,r,e,_,h2⟩=>by rw [e,List.length_cons,List.length_cons,zcL.len h2]
theorem zdx {A:Addr->Prop}{H H':Hp}{p:Addr}{xs:List V}{l:List Dt}(hl:IsL (z7 A H) l xs)(s:zw H H')(n:¬ A p)(g:H' p=some (.tup xs)):Val A H' (.d (.tup l)) (.ref p):=
 Val.of ⟨p,xs,rfl,zF n g,hl.stay (zV s)⟩
theorem uU {A:Addr->Prop}{H H':Hp}{p:Addr}{xs:List V}{l:List Dt}(hl:IsL (z7 A H) l xs)(s:zw H H')(n:¬ A p)(g:H' p=some (.lst xs)):Val A H' (.d (.lst l)) (.ref p):=
 Val.of ⟨p,xs,rfl,zF n g,hl.stay (zV s)⟩
theorem uE {A:Addr->Prop}{H H':Hp}{p:Addr}{xs:List V}{l:List Dt}(hl:IsL (z7 A H) l xs)(s:xB H H')(n:H p=none)(g:H' p=some (.lst xs)):FrV A H H' (.d (.lst l)) (.ref p):=
 ⟨p,rfl,.of n,p,xs,rfl,g,hl.stay (y2 (zw.same s) (.of n))⟩
@[reducible] def zqx:Nat->List W->(List Dt->Prop)->Prop
 | _,[],P=>P []
 | k+1,.d x::r,P=>zqx k r fun l=>P (x::l)
 | _,_,_=>False
theorem zdh:∀ {k:Nat} {l:List W} {P:List Dt->Prop},zqx k l P->∃ ds,dts l=some ds/\P ds/\l.length<=k
 | 0,[],P,h=>⟨[],rfl,h,Nat.zero_le _⟩
 | k+1,[],P,h=>⟨[],rfl,h,Nat.zero_le _⟩
 | 0,.d x::r,P,h=>h.elim
 | k+1,.d x::r,P,h=>by
  obtain ⟨ds,e,h2,hz⟩:=zdh (k:=k) (l:=r) (P:=fun l=>P (x::l)) h
  exact ⟨x::ds,by simp [dts,e],h2,Nat.succ_le_succ hz⟩
 | 0,.pen _::r,P,h=>h.elim
 | k+1,.pen _::r,P,h=>h.elim
 | 0,.dk _::r,P,h=>h.elim
 | k+1,.dk _::r,P,h=>h.elim
 | 0,.dt _::r,P,h=>h.elim
 | k+1,.dt _::r,P,h=>h.elim
@[reducible] def zry (fa:Ev->Mo (List W)):Ev->Mo W:=fun ρ n Q=>fa ρ n fun ws m=>zqx 200 ws fun l=>Q (.d (.tup l)) m
theorem yJ {x1}{fs:Ev->Mo (List W)}(h:JA X Pn M es fs):JE X Pn M false (.Tuple es x1 pos) (zry fs):=by
 obtain ⟨ta,qa,ra⟩:=h.ex
 refine ⟨_,ze0 qa,⟨fun A σ H ρ n Q R E P hf k=>?_⟩⟩
 refine ra.run A σ H ρ n _ _ E P hf fun ws m vs H1 hq b g=>?_
 obtain ⟨l,e,r,hz⟩:=zdh hq
 refine ⟨zd0 (by rw [b.len];exact Nat.le_trans hz (by decide)),fun p H2 np gp S=>?_⟩
 exact k _ m _ H2 r (zdx (b.dts e) (zw.same S) ((E.stay g.st).new np) gp) (g.trans (Go.same g.pn S)) fun z=>by cases z
@[reducible] def zrr (fa:Ev->Mo (List W)):Ev->Mo W:=fun ρ n Q=>fa ρ n fun ws m=>zqx 200 ws fun l=>Q (.d (.lst l)) m
theorem uG {fs:Ev->Mo (List W)}(h:JA X Pn M es fs):JE X Pn M true (.List es pos) (zrr fs):=by
 obtain ⟨ta,qa,ra⟩:=h.ex
 refine ⟨_,zh9 qa,⟨fun A σ H ρ n Q R E P hf k=>?_⟩⟩
 refine ra.run A σ H ρ n _ _ E P hf fun ws m vs H1 hq b g=>?_
 obtain ⟨l,e,r,hz⟩:=zdh hq
 refine ⟨zd0 (by rw [b.len];exact Nat.le_trans hz (by decide)),fun p H2 np gp S=>?_⟩
 exact k _ m _ H2 r (uU (b.dts e) (zw.same S) ((E.stay g.st).new np) gp) (g.trans (Go.same g.pn S)) fun _=>(uE (b.dts e) S np gp).back g.st
theorem zW {id:String}{r:List V->Hp->VK->Prop}{F:List W->Mo W}{x:Str}{fs:Ev->Mo (List W)}(hc:CallQ X (.builtin id) r)(hr:FL Pn fr r F)(hg:Gl X x)(hm:X.mg x=none)(hv:bootBuiltins x=some (.builtin id))(ha:JAB X Pn M (e::es) fs)(hn:x ≠ "__name__" := by decide)(hdb:(x==("__debug__" : Str))=false:=by decide)
  (he:starEach (e::es) X.env=(false,eval e X.env)::starEach es X.env:=by rfl) (hpl:(backTo pos (starEach es X.env)).any (·.1)=false:=by rfl):JE X Pn M fr (.Call (.Name x p) (e::es) [] pos) (zri F fs):=by
 obtain ⟨ta,qa,ra⟩:=ha.ex
 exact ⟨_,xj hc hg hm hv qa hn hdb he hpl,zpz hr ra⟩
theorem yf {T:String}{r:List V->Hp->VK->Prop}{F:List W->Mo W}{x:Str}{fs:Ev->Mo (List W)}(hc:CallQ X (.type T) r)(hr:FL Pn fr r F)(hg:Gl X x)(hm:X.mg x=none)(hv:bootBuiltins x=some (.type T))(ha:JAB X Pn M (e::es) fs)(hn:x ≠ "__name__" := by decide)(hdb:(x==("__debug__" : Str))=false:=by decide)
  (he:starEach (e::es) X.env=(false,eval e X.env)::starEach es X.env:=by rfl) (hpl:(backTo pos (starEach es X.env)).any (·.1)=false:=by rfl):JE X Pn M fr (.Call (.Name x p) (e::es) [] pos) (zri F fs):=by
 obtain ⟨ta,qa,ra⟩:=ha.ex
 exact ⟨_,zb2 hc hg hm hv qa hn hdb he hpl,zpz hr ra⟩
end
section
variable {Pn:Option zr}{K:PySem.W.Frag}{A:Addr->Prop}{H:Hp}
theorem yR {i:Int}{v:V}(h:Bor A H (.d (.int i)) v):v = .int i:=h
theorem zkp {i:Bool}{v:V}(h:Bor A H (.d (.bl i)) v):v = .bl i:=h
theorem uf {l:List Dt}{v:V}(h:Bor A H (.d (.tup l)) v):∃ a xs,v = .ref a/\H a=some (.tup xs)/\IsL (z7 A H) l xs:=by
 obtain ⟨a,xs,e,h1,h2⟩:=h
 exact ⟨a,xs,e,zq _ _ h1,h2⟩
theorem xq {l:List Dt}{v:V}(h:Bor A H (.d (.lst l)) v):∃ a xs,v = .ref a/\H a=some (.lst xs)/\IsL (z7 A H) l xs:=h
theorem zgw {l:List Dt}{v:V}(h:Bor A H (.d (.lst l)) v\/Bor A H (.d (.tup l)) v):∃ a xs,v = .ref a/\(SqL K H a xs\/SqT K H a xs)/\IsL (z7 A H) l xs:=by
 rcases h with h | h
 ·obtain ⟨a,xs,e,h1,h2⟩:=xq h
  exact ⟨a,xs,e,.inl (.of h1),h2⟩
 ·obtain ⟨a,xs,e,h1,h2⟩:=uf h
  exact ⟨a,xs,e,.inr (.of h1),h2⟩
def fI (C:Int->Int->Prop)(g:Int->Int->Dt):W->W->Mo W:=fun x y n Q=>∃ i j,x = .d (.int i)/\y = .d (.int j)/\C i j/\Q (.d (g i j)) n
def fI0 (g:Int->Int->Dt):W->W->Mo W:=fun x y n Q=>∃ i j,x = .d (.int i)/\y = .d (.int j)/\Q (.d (g i j)) n
theorem zq3 {C:Int->Int->Prop}{g:Int->Int->V}{g':Int->Int->Dt}(hg:∀ i j G,Is G (g' i j) (g i j)):F2 Pn false (rI C g) (fI C g'):=⟨fun A H x y wx wy n Q R al bx a P ⟨i,j,e1,e2,c,r⟩ k=>by
 subst e1 e2
 exact ⟨i,j,yR bx,yR a,c,k _ n _ H r (Val.of (hg _ _ _)) (Go.refl P) fun z=>by cases z⟩⟩
theorem zgV {g:Int->Int->V}{g':Int->Int->Dt}(hg:∀ i j G,Is G (g' i j) (g i j)):F2 Pn false (rI0 g) (fI0 g'):=⟨fun A H x y wx wy n Q R al bx a P ⟨i,j,e1,e2,r⟩ k=>by
 subst e1 e2
 exact ⟨i,j,yR bx,yR a,k _ n _ H r (Val.of (hg _ _ _)) (Go.refl P) fun z=>by cases z⟩⟩
abbrev fAdd:=fI0 fun i j=>.int (i+j)
abbrev fSub:=fI0 fun i j=>.int (i - j)
abbrev fMul:=fI zkl fun i j=>.int (i * j)
abbrev fDiv:=fI znI fun i j=>.int (i / j)
abbrev fMod:=fI (fun _ j=>0<j) fun i j=>.int (i % j)
abbrev fLt:=fI0 fun i j=>.bl (decide (i<j))
abbrev fLe:=fI0 fun i j=>.bl (decide (i<=j))
abbrev fGt:=fI0 fun i j=>.bl (decide (j<i))
theorem zr7:F2 Pn false (rI0 fun i j=>.int (i+j)) fAdd:=zgV fun _ _ _=>rfl
theorem zsf:F2 Pn false (rI0 fun i j=>.int (i - j)) fSub:=zgV fun _ _ _=>rfl
theorem zsd:F2 Pn false (rI zkl fun i j=>.int (i * j)) fMul:=zq3 fun _ _ _=>rfl
theorem zqb:F2 Pn false (rI znI fun i j=>.int (i / j)) fDiv:=zq3 fun _ _ _=>rfl
theorem zsc:F2 Pn false (rI (fun _ j=>0<j) fun i j=>.int (i % j)) fMod:=zq3 fun _ _ _=>rfl
theorem v_lt:F2 Pn false (rI0 fun i j=>.bl (decide (i<j))) fLt:=zgV fun _ _ _=>rfl
theorem v_le:F2 Pn false (rI0 fun i j=>.bl (decide (i<=j))) fLe:=zgV fun _ _ _=>rfl
theorem v_gt:F2 Pn false (rI0 fun i j=>.bl (decide (j<i))) fGt:=zgV fun _ _ _=>rfl
@[reducible] def sEq:Dt->Dt->Option Bool
 | .int i,.int j=>some (decide (i=j))
 | .bl i,.bl j=>some (decide (i=j))
 | .str i,.str j=>some (decide (i=j))
 | .non,.non=>some true
 | .non,.int _=>some false
 | .int _,.non=>some false
 | .non,.bl _=>some false
 | .bl _,.non=>some false
 | .non,.str _=>some false
 | .str _,.non=>some false
 | .int _,.str _=>some false
 | .str _,.int _=>some false
 | _,_=>none
def plain:Dt->Option V
 | .int i=>some (.int i)
 | .bl i=>some (.bl i)
 | .str i=>some (.str i)
 | .non=>some .non
 | _=>none
theorem zk3 {a b:Dt}{r:Bool}(h:sEq a b=some r):∃ x y,plain a=some x/\plain b=some y/\zqD x y=true/\decide (x=y)=r:=by
 cases a <;> cases b <;> simp [sEq] at h <;> subst h <;> simp [plain,zqD]
theorem zay {a:Dt}{x v:V}(h:Bor A H (.d a) v)(e:plain a=some x):v=x:=by
 cases a <;> simp [plain] at e <;> subst e <;> exact h
def fEq:W->W->Mo W:=fun x y n Q=>∃ a b r,x = .d a/\y = .d b/\sEq a b=some r/\Q (.d (.bl r)) n
def fNe:W->W->Mo W:=fun x y n Q=>∃ a b r,x = .d a/\y = .d b/\sEq a b=some r/\Q (.d (.bl (!r))) n
theorem v_eq:F2 Pn false rEq fEq:=⟨fun A H x y wx wy n Q R al bx c P ⟨a,b,r,e1,e2,e,h⟩ k=>by
 subst e1 e2
 obtain ⟨x',y',p1,p2,s,d⟩:=zk3 e
 obtain rfl:=zay bx p1
 obtain rfl:=zay c p2
 exact ⟨s,k _ n _ H h (Val.of (by rw [d];rfl)) (Go.refl P) fun z=>by cases z⟩⟩
theorem v_ne:F2 Pn false rNe fNe:=⟨fun A H x y wx wy n Q R al bx c P ⟨a,b,r,e1,e2,e,h⟩ k=>by
 subst e1 e2
 obtain ⟨x',y',p1,p2,s,d⟩:=zk3 e
 obtain rfl:=zay bx p1
 obtain rfl:=zay c p2
 exact ⟨s,k _ n _ H h (Val.of (by rw [d];rfl)) (Go.refl P) fun z=>by cases z⟩⟩
def zq4:W->W->Mo W:=fun x y n Q=>∃ a b,x = .d a/\y = .d b/\a.eqOk/\b.eqOk/\∀ r:Bool,(r=true↔a=b)->Q (.d (.bl r)) n
def zq8:W->W->Mo W:=fun x y n Q=>∃ a b,x = .d a/\y = .d b/\a.eqOk/\b.eqOk/\∀ r:Bool,(r=true↔a=b)->Q (.d (.bl (!r))) n
theorem zr8:F2 Pn false zqz zq4:=⟨fun A H x y wx wy n Q R al bx c P ⟨a,b,e1,e2,o1,o2,h⟩ k=>by
 subst e1 e2
 exact ⟨a,b,bx.is,c.is,o1,o2,fun r hr=>k _ n _ H (h r hr) (Val.of rfl) (Go.refl P) fun z=>by cases z⟩⟩
theorem zse:F2 Pn false zqC zq8:=⟨fun A H x y wx wy n Q R al bx c P ⟨a,b,e1,e2,o1,o2,h⟩ k=>by
 subst e1 e2
 exact ⟨a,b,bx.is,c.is,o1,o2,fun r hr=>k _ n _ H (h r hr) (Val.of rfl) (Go.refl P) fun z=>by cases z⟩⟩
def zeF:W->W->Mo W:=fun x y n Q=>∃ (b:Int) (ns:List Int),x = .d (.int b)/\(y = .d (.lst (ns.map .int))\/y = .d (.tup (ns.map .int)))/\Q (.d (.bl (!ns.contains b))) n
theorem zkj:F2 Pn false (rIn K true) zeF:=⟨fun A H x y wx wy n Q R al bx c P ⟨b,ns,e1,e2,h⟩ k=>by
 subst e1
 have hb:Bor A H (.d (.lst (ns.map .int))) y\/Bor A H (.d (.tup (ns.map .int))) y:=by
  rcases e2 with rfl | rfl
  ·exact .inl c
  ·exact .inr c
 obtain ⟨a,xs,e,hs,hl⟩:=zgw (K:=K) hb
 obtain rfl:=hl.of_ints
 obtain rfl:=yR bx
 exact ⟨a,_,e,hs,rfl,zg4 ns,k _ n _ H h (Val.of (by rw [zji];rfl)) (Go.refl P) fun z=>by cases z⟩⟩
theorem zkA {G:Hp}{l:List Dt}{xs:List V}{i:Int}{d:Dt}(h:IsL G l xs)(e:atI l i=some d):∃ v,atI xs i=some v/\Is G d v:=by
 unfold atI at e ⊢
 rw [h.length]
 obtain ⟨j,h1,h2⟩:=Option.bind_eq_some_iff.mp e
 obtain ⟨v,h3,h4⟩:=h.getD h2
 exact ⟨v,by rw [h1];exact h3,h4⟩
def zq6:W->W->Mo W:=fun x y n Q=>∃ l i d,x = .d (.tup l)/\y = .d (.int i)/\atI l i=some d/\Q (.d d) n
def zq5:W->W->Mo W:=fun x y n Q=>∃ l i d,x = .d (.lst l)/\y = .d (.int i)/\atI l i=some d/\Q (.d d) n
theorem zsa:F2 Pn false (zqB K) zq6:=⟨fun A H x y wx wy n Q R al bx b P ⟨l,i,d,e1,e2,e,h⟩ k=>by
 subst e1 e2
 obtain ⟨a,xs,ea,ha,hl⟩:=uf bx
 obtain ⟨v,h1,h2⟩:=zkA hl e
 exact ⟨a,xs,i,v,ea,yR b,.of ha,h1,k _ n _ H h (Val.of h2) (Go.refl P) fun z=>by cases z⟩⟩
theorem zr9:F2 Pn false (zqA K) zq5:=⟨fun A H x y wx wy n Q R al bx b P ⟨l,i,d,e1,e2,e,h⟩ k=>by
 subst e1 e2
 obtain ⟨a,xs,ea,ha,hl⟩:=xq bx
 obtain ⟨v,h1,h2⟩:=zkA hl e
 exact ⟨a,xs,i,v,ea,yR b,.of ha,h1,k _ n _ H h (Val.of h2) (Go.refl P) fun z=>by cases z⟩⟩
def zeE:W->W->Mo W:=fun x y n Q=>∃ l m,x = .d (.tup l)/\y = .d (.tup m)/\l.length+m.length<=lim/\Q (.d (.tup (l++m))) n
theorem zqa:F2 Pn false (zic K) zeE:=⟨fun A H x y wx wy n Q R al bx c P ⟨l,m,e1,e2,z,h⟩ k=>by
 subst e1 e2
 obtain ⟨a,xs,ea,ha,hl⟩:=uf bx
 obtain ⟨b,ys,eb,hb,hm⟩:=uf c
 refine ⟨a,b,xs,ys,ea,eb,ha,hb,zd0 (by rw [hl.length,hm.length];exact z),fun p H' g S=>?_⟩
 exact k _ n _ H' h (zdx (hl.append hm) (zw.same S) (al.noT' (zw.same S) g) g) (Go.same P S) fun z=>by cases z⟩
def zlp:W->W->Mo W:=fun x y n Q=>∃ l m,x = .d (.lst l)/\y = .d (.lst m)/\l.length+m.length<=lim/\Q (.d (.lst (l++m))) n
theorem zp9:F2 Pn true zm1 zlp:=⟨fun A H x y wx wy n Q R al bx c P ⟨l,m,e1,e2,z,h⟩ k=>by
 subst e1 e2
 obtain ⟨a,xs,ea,ha,hl⟩:=xq bx
 obtain ⟨b,ys,eb,hb,hm⟩:=xq c
 refine ⟨a,b,xs,ys,ea,eb,ha,hb,zd0 (by rw [hl.length,hm.length];exact z),fun p H' np g S=>?_⟩
 exact k _ n _ H' h (uU (hl.append hm) (zw.same S) (al.new np) g) (Go.same P S) fun z=>uE (hl.append hm) S np g⟩
@[reducible] def lenD:W->Option Nat
 | .d (.lst l)=>some l.length
 | .d (.tup l)=>some l.length
 | _=>none
def zq7:List W->Mo W:=fun ws n Q=>∃ x k,ws=[x]/\lenD x=some k/\Q (.d (.int (k:Int))) n
theorem zbl {w:W}{vs:List V}(h:znH A H [w] vs):∃ v,vs=[v]/\Bor A H w v:=by
 obtain ⟨v,r,e,h1,h2⟩:=h
 cases h2
 exact ⟨v,e,h1⟩
theorem zsb:FL Pn false (fun xs H Q=>∃ x n,xs=[x]/\zqj K x H n/\Q (.int n) H) zq7:=⟨fun A H xs ws n Q R al b P ⟨x,j,e1,e2,h⟩ k=>by
 subst e1
 obtain ⟨v,rfl,bb⟩:=zbl b
 refine ⟨v,j,rfl,?_,k _ n _ H h (Val.of rfl) (Go.refl P) fun z=>by cases z⟩
 cases x with
 | d x=>
  cases x with
  | lst l=>
   cases e2
   obtain ⟨a,ys,rfl,ha,hl⟩:=xq bb
   exact .inl ⟨ys,.of ha,hl.length.symm⟩
  | tup l=>
   cases e2
   obtain ⟨a,ys,rfl,ha,hl⟩:=uf bb
   exact .inr ⟨ys,.of ha,hl.length.symm⟩
  | _=>cases e2
 | _=>cases e2⟩
def zob:List W->Mo W:=fun ws n Q=>∃ l,(ws=[.d (.lst l)]\/ws=[.d (.tup l)])/\Q (.d (.lst l)) n
theorem zqd:FL Pn true (zif K) zob:=⟨fun A H xs ws n Q R al b P ⟨l,e1,h⟩ k=>by
 obtain ⟨v,rfl,bb⟩:∃ v,xs=[v]/\(Bor A H (.d (.lst l)) v\/Bor A H (.d (.tup l)) v):=by
  rcases e1 with rfl | rfl
  ·obtain ⟨v,e,h⟩:=zbl b;exact ⟨v,e,.inl h⟩
  ·obtain ⟨v,e,h⟩:=zbl b;exact ⟨v,e,.inr h⟩
 obtain ⟨a,ys,rfl,hs,hl⟩:=zgw (K:=K) bb
 exact ⟨a,ys,rfl,hs,fun p H' np g S=>k _ n _ H' h (uU hl (zw.same S) (al.new np) g) (Go.same P S) fun z=>uE hl S np g⟩⟩
def zkx:List W->Mo W:=fun ws n Q=>∃ l,(ws=[.d (.lst l)]\/ws=[.d (.tup l)])/\Q (.d (.tup l)) n
theorem znF:FL Pn false (ze5 K) zkx:=⟨fun A H xs ws n Q R al b P ⟨l,e1,h⟩ k=>by
 rcases e1 with rfl | rfl
 ·obtain ⟨v,rfl,bb⟩:=zbl b
  obtain ⟨a,ys,rfl,ha,hl⟩:=xq bb
  exact ⟨a,ys,rfl,.inl ⟨.of ha,fun p H' np g S=>k _ n _ H' h (zdx hl (zw.same S) (al.new np) g) (Go.same P S) fun z=>by cases z⟩⟩
 ·obtain ⟨v,rfl,bb⟩:=zbl b
  obtain ⟨a,ys,e,ha,hl⟩:=id bb
  subst e
  exact ⟨a,ys,rfl,.inr ⟨.of (zq _ _ ha),k _ n _ H h (Val.of ⟨a,ys,rfl,ha,hl⟩) (Go.refl P) fun z=>by cases z⟩⟩⟩
def uu {α:Type}(xs:List α)(lo hi:Option Int):List α:=(xs.drop (HT.sIx xs.length 0 lo)).take (HT.sIx xs.length xs.length hi - HT.sIx xs.length 0 lo)
theorem zeO {G:Hp}{l:List Dt}{xs:List V}{lo hi:Option Int}(h:IsL G l xs):IsL G (uu l lo hi) (zcT xs lo hi):=by
 unfold uu zcT
 rw [h.length]
 exact (h.drop _).take _
def uB {κ:Type}[DecidableEq κ](kvs:List (κ×Dt))(k:κ):Option Dt:=(kvs.find? fun q=>decide (q.1=k)).map (·.2)
theorem u5.look {κ:Type}[DecidableEq κ]{G:Hp}{k:κ}:∀ {kvs:List (κ×Dt)} {ks:List (κ×V)},u5 G kvs ks->(uB kvs k=none->zbs ks k=none)/\∀ d,uB kvs k=some d->∃ v,zbs ks k=some v/\Is G d v
 | [],_,h=>by cases h;exact ⟨fun _=>rfl,fun d e=>by cases e⟩
 | q::r,ks,⟨v,s,e,h1,h2⟩=>by
  subst e
  have ih:=u5.look (k:=k) h2
  by_cases hk:q.1=k
  ·refine ⟨fun z=>?_,fun d z=>?_⟩
   ·simp [uB,List.find?_cons,hk] at z
   ·simp [uB,List.find?_cons,hk] at z
    subst z
    exact ⟨v,ut hk,h1⟩
  ·have e1:uB (q::r) k=uB r k:=by simp [uB,List.find?_cons,hk]
   rw [e1,xL hk]
   exact ih
end
section
variable {X:Cx}{Pn:Option zr}{M S:List Nat}{fr:Bool}{e a b c:Expr}{es:List Expr}{f fa fb fc:Ev->Mo W}{pos p:Pos}
theorem ui {r:R2}{F:W->W->Mo W}(hx:IxQ X r)(hr:F2 Pn fr r F)(ha:JB X Pn M a fa)(hb:JB X Pn M b fb)(hs:zeo b):JE X Pn M fr (.Subscript a b pos) (zhC F fa fb):=by
 obtain ⟨ta,qa,ra⟩:=ha.ex
 obtain ⟨tb,qb,rb⟩:=hb.ex
 exact ⟨_,zpp hx qa qb hs,zj8 hr ra rb⟩
@[reducible] def zl6:Ev->Mo (Option Int):=fun _ n Q=>Q none n
def zl8 (fa:Ev->Mo W):Ev->Mo (Option Int):=fun ρ n Q=>fa ρ n fun x m=>∃ i,x = .d (.int i)/\Q (some i) m
theorem xb:JO X Pn M none zl6:=⟨_,zmW,fun A σ H ρ n Q R E P hf k=>k none n H hf (Go.refl P)⟩
theorem xc (h:JB X Pn M e f):JO X Pn M (some e) (zl8 f):=by
 obtain ⟨te,q,r⟩:=h.ex
 refine ⟨_,zmX q,fun A σ H ρ n Q R E P hf k=>?_⟩
 refine r.run A σ H ρ n _ _ E P hf fun w m v H' ⟨i,e,r⟩ bb g=>?_
 subst e
 exact ⟨i,yR bb,k (some i) m H' r g⟩
def zrw (fa:Ev->Mo W)(fl fh:Ev->Mo (Option Int)):Ev->Mo W:=fun ρ n Q=>fa ρ n fun x n1=>fl ρ n1 fun lo n2=>fh ρ n2 fun hi n3=>∃ l,x = .d (.tup l)/\Q (.d (.tup (uu l lo hi))) n3
def zrv (fa:Ev->Mo W)(fl fh:Ev->Mo (Option Int)):Ev->Mo W:=fun ρ n Q=>fa ρ n fun x n1=>fl ρ n1 fun lo n2=>fh ρ n2 fun hi n3=>∃ l,x = .d (.lst l)/\Q (.d (.lst (uu l lo hi))) n3
theorem zf2 {lo hi:Option Expr}{fl fh:Ev->Mo (Option Int)}{p2:Pos}(he:JB X Pn M e f)(hl:JO X Pn M lo fl)(hh:JO X Pn M hi fh):JE X Pn M false (.Subscript e (.Slice lo hi none p2) pos) (zrw f fl fh):=by
 obtain ⟨te,qe,re⟩:=he.ex
 obtain ⟨tl,ql,rl⟩:=hl.ex
 obtain ⟨th,qh,rh⟩:=hh.ex
 refine ⟨_,zfE zni qe ql qh,⟨fun A σ H ρ n Q R E P hf k=>?_⟩⟩
 refine re.run A σ H ρ n _ _ E P hf fun w m v H1 r1 bb g1=>?_
 refine rl A σ H1 ρ m _ _ (E.stay g1.st) g1.pn r1 fun o m2 H2 r2 g2=>?_
 refine rh A σ H2 ρ m2 _ _ ((E.stay g1.st).stay g2.st) g2.pn r2 fun o3 m3 H3 ⟨l,e,r3⟩ g3=>?_
 subst e
 have g:=(g1.trans g2).trans g3
 obtain ⟨ad,xs,rfl,ha,hl⟩:=uf (bb.stay (g2.trans g3).st)
 exact ⟨ad,xs,rfl,ha,fun p H' gp S=>k _ m3 _ H' r3 (zdx (zeO hl) (zw.same S) (Al.noT' (E.stay g.st).al (zw.same S) gp) gp) (g.trans (Go.same g3.pn S)) fun z=>by cases z⟩
theorem zf1 {lo hi:Option Expr}{fl fh:Ev->Mo (Option Int)}{p2:Pos}(he:JB X Pn M e f)(hl:JO X Pn M lo fl)(hh:JO X Pn M hi fh):JE X Pn M true (.Subscript e (.Slice lo hi none p2) pos) (zrv f fl fh):=by
 obtain ⟨te,qe,re⟩:=he.ex
 obtain ⟨tl,ql,rl⟩:=hl.ex
 obtain ⟨th,qh,rh⟩:=hh.ex
 refine ⟨_,zfE znh qe ql qh,⟨fun A σ H ρ n Q R E P hf k=>?_⟩⟩
 refine re.run A σ H ρ n _ _ E P hf fun w m v H1 r1 bb g1=>?_
 refine rl A σ H1 ρ m _ _ (E.stay g1.st) g1.pn r1 fun o m2 H2 r2 g2=>?_
 refine rh A σ H2 ρ m2 _ _ ((E.stay g1.st).stay g2.st) g2.pn r2 fun o3 m3 H3 ⟨l,e,r3⟩ g3=>?_
 subst e
 have g:=(g1.trans g2).trans g3
 obtain ⟨ad,xs,rfl,ha,hl⟩:=xq (bb.stay (g2.trans g3).st)
 refine ⟨ad,xs,rfl,.of ha,fun p np=>?_⟩
 have S:=xB.upd (o:=.lst (zcT xs o o3)) np
 exact k _ m3 _ _ r3 (uU (zeO hl) (zw.same S) ((E.stay g.st).new np) zo) (g.trans (Go.same g3.pn S)) fun z=>(uE (zeO hl) S np zo).back g.st
theorem zeP {G:Hp}:∀ {ds:List Dt} {xs:List V},IsL G ds xs->IsL G ds.reverse xs.reverse
 | [],_,h=>by cases h;rfl
 | d::ds,xs,h=>by
  obtain ⟨x,r,rfl,h1,h2⟩:=h
  rw [List.reverse_cons,List.reverse_cons]
  exact (zeP h2).append (IsL.one h1)
def zma (fa:Ev->Mo W):Ev->Mo W:=fun ρ n Q=>fa ρ n fun x m=>∃ l,x = .d (.lst l)/\Q (.d (.lst l.reverse)) m
theorem zkC {j:Nat}{p2 p3 p4:Pos}(he:JB X Pn M e f):JE X Pn M true (.Subscript e (.Slice none none (some (.UnaryOp .USub (.Constant (.int 1) j p4) p3)) p2) pos) (zma f):=by
 obtain ⟨te,qe,re⟩:=he.ex
 refine ⟨_,zmO qe,⟨fun A σ H ρ n Q R E P hf k=>?_⟩⟩
 refine re.run A σ H ρ n _ _ E P hf fun w m v H1 ⟨l,e,r⟩ bb g=>?_
 subst e
 obtain ⟨ad,xs,rfl,ha,hl⟩:=xq bb
 exact ⟨ad,xs,rfl,ha,fun p H' np gp S=>k _ m _ H' r (uU (zeP hl) (zw.same S) ((E.stay g.st).new np) gp) (g.trans (Go.same g.pn S)) fun z=>(uE (zeP hl) S np gp).back g.st⟩
@[reducible] def zor:W->Option Key
 | .d (.int i)=>some (Sum.inl i)
 | .d (.str x)=>some (Sum.inr x)
 | _=>none
theorem zkI {A:Addr->Prop}{H:Hp}{w:W}{v:V}{k:Key}(h:Bor A H w v)(e:zor w=some k):v=kV k:=by
 cases w with
 | d x=>
  cases x with
  | int i=>cases e;exact h
  | str i=>cases e;exact h
  | _=>cases e
 | _=>cases e
def zlZ (fd fk:Ev->Mo W):Ev->Mo W:=fun ρ n Q=>fd ρ n fun x n1=>fk ρ n1 fun y n2=>∃ kvs k d,x = .dk kvs/\zor y=some k/\uB kvs k=some d/\Q (.d d) n2
def zoy (neg:Bool)(fk fd:Ev->Mo W):Ev->Mo W:=fun ρ n Q=>fk ρ n fun y n1=>fd ρ n1 fun x n2=>∃ kvs k,x = .dk kvs/\zor y=some k/\Q (.d (.bl (if neg then !(uB kvs k).isSome else (uB kvs k).isSome))) n2
theorem zkq {A:Addr->Prop}{H:Hp}{kvs:List (Key×Dt)}{v:V}(h:Bor A H (.dk kvs) v):∃ a ks,v = .ref a/\H a=some (.dK ks)/\u5 (z7 A H) kvs ks/\zbs ks (Sum.inr "at" : Key)=none:=h
theorem zon (hu:X.A.units+1<cLine)(ha:JB X Pn M a fa)(hb:JB X Pn M b fb)(hs:zqk b):JE X Pn M false (.Subscript a b pos) (zlZ fa fb):=by
 obtain ⟨ta,qa,ra⟩:=ha.ex
 obtain ⟨tb,qb,rb⟩:=hb.ex
 refine ⟨_,um hu qa qb hs,⟨fun A σ H ρ n Q R E P hf k=>?_⟩⟩
 refine ra.run A σ H ρ n _ _ E P hf fun w1 m1 v1 H1 r1 b1 g1=>?_
 refine rb.run A σ H1 ρ m1 _ _ (E.stay g1.st) g1.pn r1 fun w2 m2 v2 H2 ⟨e,ky,d,e1,e2,e3,r⟩ b2 g2=>?_
 subst e1
 obtain ⟨ad,ks,rfl,c,hk,_⟩:=zkq (b1.stay g2.st)
 obtain ⟨v,h1,h2⟩:=(hk.look (k:=ky)).2 d e3
 refine ⟨ad,v,rfl,?_,k _ m2 _ H2 r (Val.of h2) (g1.trans g2) fun z=>by cases z⟩
 rw [zkI b2 e2,<- h1]
 exact zen.k c
theorem zpA {ta tb:TE}(ra:RB Pn M ta fa)(rb:RB Pn M tb fb):RE Pn M false (zr1 ta tb) (zoy false fa fb):=⟨fun A σ H ρ n Q R E P hf k=>by
 refine ra.run A σ H ρ n _ _ E P hf fun w1 m1 v1 H1 r1 b1 g1=>?_
 refine rb.run A σ H1 ρ m1 _ _ (E.stay g1.st) g1.pn r1 fun w2 m2 v2 H2 ⟨a,ky,e1,e2,r⟩ b2 g2=>?_
 subst e1
 obtain ⟨ad,ks,rfl,b,hk,_⟩:=zkq b2
 refine ⟨ad,zbs ks ky,rfl,by rw [zkI b1 e2];exact zen.k b,k _ m2 _ H2 r (Val.of ?_) (g1.trans g2) fun z=>by cases z⟩
 have:(zbs ks ky).isSome=(uB a ky).isSome:=by
  cases e:uB a ky with
  | none=>rw [(hk.look (k:=ky)).1 e];rfl
  | some d=>obtain ⟨v,h1,_⟩:=(hk.look (k:=ky)).2 d e;rw [h1];rfl
 rw [this]
 rfl⟩
theorem zop (hu:X.A.units+1<cLine)(ha:JB X Pn M a fa)(hb:JB X Pn M b fb)(h1:behindInMarks .In b=false:=by first | exact zdc _ (by decide) (by decide) | rfl):JT X Pn M (.Compare a [.In] [b] pos) (zjD (zoy false fa fb)):=by
 obtain ⟨ta,qa,ra⟩:=ha.ex
 obtain ⟨tb,qb,rb⟩:=hb.ex
 exact ⟨_,zkW (zpl hu qa qb) h1,zpO (zpA ra rb).rb⟩
@[reducible] def prD (q:Int×Dt):Dt:=.tup [.int q.1,q.2]
def kvD (q:Int×Dt):Key×Dt:=(Sum.inl q.1,q.2)
def zgW:List W->Mo W:=fun ws n Q=>∃ ps:List (Int×Dt),ws=[.d (.tup (ps.map prD))]/\(ps.map (·.1)).Nodup/\ps.length<=1000/\Q (.dk (ps.map kvD)) n
theorem zkT {G H:Hp}(s:xB G H):∀ {ps:List (Int×Dt)} {xs:List V},IsL G (ps.map prD) xs->∃ qs:List (Addr×Int×V),xs=qs.map (fun q=>V.ref q.1)/\(∀ q∈qs,H q.1=some (.tup [.int q.2.1,q.2.2]))/\qs.map (·.2.1)=ps.map (·.1)/\u5 G (ps.map kvD) (qs.map fun q=>((Sum.inl q.2.1:Key),q.2.2))
 | [],xs,h=>by cases h;exact ⟨[],rfl,fun _ h=>by simp at h,rfl,rfl⟩
 | p::ps,xs,h=>by
  obtain ⟨x,r,rfl,⟨ad,ys,rfl,a,y0,r0,rfl,h0,y1,r1,rfl,h1,h2⟩,hr⟩:=h
  cases h0
  cases h2
  obtain ⟨qs,rfl,a1,a2,a3⟩:=zkT s hr
  refine ⟨(ad,p.1,y1)::qs,rfl,fun q hq=>?_,by rw [List.map_cons,List.map_cons,a2],y1,_,rfl,h1,a3⟩
  rcases List.mem_cons.mp hq with rfl | hq
  ·exact s _ _ a
  ·exact a1 q hq
theorem zfO (ps:List (Addr×Int×V)):zbs (ps.map fun q=>((Sum.inl q.2.1:Key),q.2.2)) (Sum.inr "at" : Key)=none:=by
 induction ps with
 | nil=>rfl
 | cons q ps ih=>
  rw [List.map_cons,xL (by intro z;cases z)]
  exact ih
theorem znB:FL Pn true zid zgW:=⟨fun A H xs ws n Q R al b P ⟨ps,e1,a,hz,h⟩ k=>by
 subst e1
 obtain ⟨v,rfl,bb⟩:=zbl b
 obtain ⟨ad,ys,rfl,c,hl⟩:=uf bb
 obtain ⟨qs,rfl,a1,a2,a3⟩:=zkT zq hl
 have hlen:qs.length=ps.length:=by have:=congrArg List.length a2;simpa using this
 refine ⟨ad,qs,rfl,⟨c,a1⟩,by rw [a2];exact a,by lia,fun p H' np g S=>?_⟩
 exact k _ n _ H' h ⟨p,_,rfl,zF (al.new np) g,a3.stay (zV (zw.same S)),zfO qs⟩ (Go.same P S) fun z=>⟨p,rfl,.of np,p,_,rfl,g,a3.stay (y2 (zw.same S) (.of np)),zfO qs⟩⟩
def spV (k:Nat)(fr:Bool)(F:Option zr->List W->Mo W):Sp:=fun vs H Q _=>∃ Pn A ws n R,Al A H/\zcL A H ws vs/\ws.length=k/\xh Pn A n H/\F Pn ws n R/\∀ w m v H',R w m->Val A H' w v->Go Pn A H m H'->(fr=true->FrV A H H' w v)->Q v H'
def mFn (k:Nat)(F:List W->Mo W)(fa:Ev->Mo (List W)):Ev->Mo W:=fun ρ n Q=>fa ρ n fun ws m=>ws.length=k/\F ws m Q
theorem zpB {k:Nat}{F:Option zr->List W->Mo W}{ta:TA}{fs:Ev->Mo (List W)}(ha:RA Pn M ta fs):RE Pn M fr (zef (spV k fr F) [] E0 ta) (mFn k (F Pn) fs):=⟨fun A σ H ρ n Q R E P hf kk=>by
 refine ha.run A σ H ρ n _ _ E P hf fun ws m vs H1 ⟨hk,r⟩ b g=>?_
 rw [List.append_nil]
 exact ⟨Pn,A,ws,m,R,(E.stay g.st).al,b,hk,g.pn,r,fun w m' v H' h1 h2 h3 h4=>kk w m' v H' h1 h2 (g.trans h3) fun z=>(h4 z).back g.st⟩⟩
theorem yz {x:Str}{st:Stmt}{ps:List Str}{fA:Addr}{fd:FuncData}{k:Nat}{F:Option zr->List W->Mo W}{j kk:Nat}{fs:Ev->Mo (List W)}(D:Dfn X.K X.mg x st ps fA fd)(G:FnOk X.prog X.w X.K X.mg X.base CX0 j fA fd ps (spV k fr F))(hr:Room kk X.A)
  (ha:JA X Pn M (e::es) fs) (hjk:j<=kk:=by decide) (hg:Gl X x:=by rfl) (hdb:(x==("__debug__" : Str))=false:=by decide) (he:starEach (e::es) X.env=(false,eval e X.env)::starEach es X.env:=by rfl) (hpl:(backTo pos (starEach es X.env)).any (·.1)=false:=by rfl) :
  JE X Pn M fr (.Call (.Name x p) (e::es) [] pos) (mFn k (F Pn) fs):=by
 obtain ⟨ta,qa,ra⟩:=ha.ex
 exact ⟨_,zmN D G hr qa hjk hg hdb he hpl,zpB ra⟩
@[reducible] def W.flat (fr:Bool):W->Bool
 | .d (.lst l)=>fr&&Dt.noLs l
 | .d x=>x.noL
 | .pen _=>true
 | .dk _=>false
 | .dt _=>false
theorem zjd {A A':Addr->Prop}{H H':Hp}{w:W}{v:V}(al:Al A H)(s:zw H H')(h:Val A' H' w v)(hf:fr=true->FrV A' H H' w v)(fl:w.flat fr=true):Val A H' w v:=by
 have a:=al.stay s
 cases w with
 | d x=>
  cases x with
  | lst l=>
   rw [show W.flat fr (.d (.lst l))=(fr&&Dt.noLs l) from rfl,Bool.and_eq_true] at fl
   obtain ⟨ad,xs,rfl,b,hl⟩:=h
   obtain ⟨a2,e2,f2,_⟩:=hf fl.1
   cases e2
   have hn:¬ A ad:=fun z=>by
    obtain ⟨o,o1,o2,_⟩:=al ad z
    exact f2 o o1 o2
   exact ⟨ad,xs,rfl,zF hn (zq _ _ b),xu a.noT fl.2 (hl.stay (zw.same zq))⟩
  | dct=>cases fl
  | non=>exact h
  | bl c=>exact h
  | int c=>exact h
  | str c=>exact h
  | tup l=>exact Val.of (zkB a.noT fl ((Val.is h).stay (zw.same zq)))
 | pen p=>exact h
 | dk e=>cases fl
 | dt e=>cases fl
theorem zjc {A A':Addr->Prop}{H H':Hp}{w:W}{v:V}(al:Al A H)(s:zw H H')(h:Val A' H' w v)(hf:FrV A' H H' w v)(fl:w.flat true=true):FrV A H H' w v:=by
 obtain ⟨a2,e2,f2,h2⟩:=hf
 refine ⟨a2,e2,f2,?_⟩
 have f:=al.stay s
 cases w with
 | d x=>
  cases x with
  | lst l=>
   obtain ⟨ad,xs,e,a,hl⟩:=h2
   rw [e2] at e
   cases e
   refine ⟨a2,xs,e2,a,xu (fun b ys z g=>?_) (by simpa [W.flat] using fl) (hl.stay (zw.same zq))⟩
   rcases z with z | z
   ·exact f.noT b ys z g
   ·subst z;rw [a] at g;cases g
  | tup l=>
   obtain ⟨ad,xs,e,a,_⟩:=h2
   rw [e2] at e
   cases e
   exact absurd rfl (fun z=>(yw.mp a).1 (.inr z))
  | dct=>cases fl
  | non=>exact h2
  | bl c=>exact h2
  | int c=>exact h2
  | str c=>exact h2
 | pen p=>exact h2
 | dk i=>cases fl
 | dt i=>cases fl
def zrh (A:Addr->Prop)(vs:List V):Addr->Prop:=fun b=>A b/\V.ref b∉vs
theorem zfm {A:Addr->Prop}{H:Hp}{all:List V}:∀ {ws:List W} {vs:List V},(∀ v∈vs,v∈all)->znH A H ws vs->zcL (zrh A all) H ws vs
 | [],vs,_,h=>h
 | w::ws,vs,hs,⟨v,r,e,h1,h2⟩=>by
  subst e
  refine ⟨v,r,rfl,?_,zfm (fun z hz=>hs z (List.mem_cons_of_mem _ hz)) h2⟩
  have hv:=hs v List.mem_cons_self
  have less:xB (z7 A H) (z7 (zrh A all) H):=yZ fun b z=>z.1
  cases w with
  | d x=>
   cases x with
   | lst l=>obtain ⟨ad,xs,rfl,a,hl⟩:=h1;exact ⟨ad,xs,rfl,zF (fun z=>z.2 hv) a,hl.stay (zw.same less)⟩
   | dct=>obtain ⟨ad,xs,rfl,a,hl⟩:=h1;exact ⟨ad,xs,rfl,zF (fun z=>z.2 hv) a,hl⟩
   | non=>exact h1
   | bl c=>exact h1
   | int c=>exact h1
   | str c=>exact h1
   | tup l=>exact Is.stay (zw.same less) h1
  | pen p=>exact h1
  | dk f=>obtain ⟨ad,xs,rfl,a,hl,hn⟩:=h1;exact ⟨ad,xs,rfl,zF (fun z=>z.2 hv) a,hl.stay (zw.same less),hn⟩
  | dt f=>obtain ⟨ad,xs,rfl,a,hl⟩:=h1;exact ⟨ad,xs,rfl,zF (fun z=>z.2 hv) a,hl.stay (zw.same less)⟩
theorem xh.more {A A':Addr->Prop}{n m:Nat}{H H':Hp}(h:xh Pn A n H)(h':xh Pn A' m H'):xh Pn A m H':=by
 unfold xh at h h' ⊢
 split at h
 ·trivial
 ·exact ⟨h'.1,h.2⟩
theorem xh.less {A A':Addr->Prop}{n:Nat}{H:Hp}(h:xh Pn A n H)(s:∀ a,A' a->A a):xh Pn A' n H:=by
 unfold xh at h ⊢
 split at h
 ·trivial
 ·exact ⟨h.1,fun r e z=>h.2.1 r e (s _ z),fun z=>h.2.2 (s _ z)⟩
def zqs (k:Nat)(fr:Bool)(F:List W->Mo W)(fa:Ev->Mo (List W)):Ev->Mo W:=fun ρ n Q=>fa ρ n fun ws m=>ws.length=k/\F ws m fun w m'=>w.flat fr=true/\Q w m'
theorem zpC {k:Nat}{F:Option zr->List W->Mo W}{ta:TA}{fs:Ev->Mo (List W)}(ha:RAB Pn M ta fs):RE Pn M fr (zef (spV k fr F) [] E0 ta) (zqs k fr (F Pn) fs):=⟨fun A σ H ρ n Q R E P hf kk=>by
 refine ha.run A σ H ρ n _ _ E P hf fun ws m vs H1 ⟨hk,r⟩ b g=>?_
 rw [List.append_nil]
 have al:=(E.stay g.st).al
 refine ⟨Pn,zrh A vs,ws,m,_,fun a z=>al a z.1,zfm (fun _ z=>z) b,hk,g.pn.less fun a z=>z.1,r,fun w m' v H' ⟨fl,h1⟩ h2 h3 h4=>?_⟩
 refine kk w m' v H' h1 (zjd al h3.st h2 h4 fl) (g.trans ⟨h3.st,g.pn.more h3.pn⟩) fun z=>?_
 subst z
 exact (zjc al h3.st h2 (h4 rfl) fl).back g.st⟩
theorem zrc {x:Str}{st:Stmt}{ps:List Str}{fA:Addr}{fd:FuncData}{k:Nat}{F:Option zr->List W->Mo W}{j kk:Nat}{fs:Ev->Mo (List W)}(D:Dfn X.K X.mg x st ps fA fd)(G:FnOk X.prog X.w X.K X.mg X.base CX0 j fA fd ps (spV k fr F))(hr:Room kk X.A)
  (ha:JAB X Pn M (e::es) fs) (hjk:j<=kk:=by decide) (hg:Gl X x:=by rfl) (hdb:(x==("__debug__" : Str))=false:=by decide) (he:starEach (e::es) X.env=(false,eval e X.env)::starEach es X.env:=by rfl) (hpl:(backTo pos (starEach es X.env)).any (·.1)=false:=by rfl) :
  JE X Pn M fr (.Call (.Name x p) (e::es) [] pos) (zqs k fr (F Pn) fs):=by
 obtain ⟨ta,qa,ra⟩:=ha.ex
 exact ⟨_,zmN D G hr qa hjk hg hdb he hpl,zpC ra⟩
end
structure JG (X:Cx)(S M:List Nat)(e:Expr)(mg:W->Ev->(Ev->Prop)->Prop):Prop where
 ex:∃ g,QG X e g/\RG S M g mg
structure JGs (X:Cx)(S M:List Nat)(es:List Expr)(mg:List Dt->Ev->(Ev->Prop)->Prop):Prop where
 ex:∃ g,QGs X es g/\RGs S M g mg
structure JI (X:Cx)(Pn:Option zr)(M:List Nat)(ow:Bool)(tg e:Expr)(f:Ev->Mo (List W)):Prop where
 ex:∃ wi,QI X tg e wi/\RI Pn M ow wi f
structure JTs (X:Cx)(Pn:Option zr)(M:List Nat)(es:List Expr)(f:Ev->Mo Bool):Prop where
 ex:∃ t,QTs X es t/\RT Pn M t f
section
variable {X:Cx}{Pn:Option zr}{M S:List Nat}{fr:Bool}{e a b c:Expr}{es:List Expr}{f fa fb fc:Ev->Mo W}{pos p:Pos}
def gN (i:Nat):W->Ev->(Ev->Prop)->Prop:=fun w ρ Q=>Q (ρ.set i (some w))
def gNl:List Dt->Ev->(Ev->Prop)->Prop:=fun ds ρ Q=>ds=[]/\Q ρ
def gCn (g:W->Ev->(Ev->Prop)->Prop)(u:List Dt->Ev->(Ev->Prop)->Prop):List Dt->Ev->(Ev->Prop)->Prop:=fun ds ρ Q=>∃ d r,ds=d::r/\g (.d d) ρ fun ρ'=>u r ρ' Q
def gTp (n:Nat)(u:List Dt->Ev->(Ev->Prop)->Prop):W->Ev->(Ev->Prop)->Prop:=fun w ρ Q=>∃ ds,w = .d (.tup ds)/\ds.length=n/\u ds ρ Q
theorem EnvR.set {A:Addr->Prop}{σ:St}{H:Hp}{ρ:Ev}(E:EnvR A M σ H ρ){i:Nat}{w:W}{v:V}(hi:i∉M)(h:Val A H w v):EnvR A M (σ.set i (some v)) H (ρ.set i (some w)) where
 len:=by rw [List.length_set,List.length_set];exact E.len
 val:=fun j u e=>by
  by_cases hj:j=i
  ·subst hj
   have hl:j<ρ.length:=by
    have:=(List.getElem?_eq_some_iff.mp e).1
    rwa [List.length_set] at this
   rw [List.getElem?_set_self hl] at e
   cases e
   exact ⟨v,List.getElem?_set_self (by rw [E.len];exact hl),fun _=>h,fun z=>absurd z hi⟩
  ·rw [List.getElem?_set_ne (Ne.symm hj)] at e ⊢
   exact E.val j u e
 dis:=fun j k u u' ad hj hk a e1 e2 s1=>by
  have b:i≠j:=fun z=>hi (z ▸ hj)
  have c:i≠k:=fun z=>hi (z ▸ hk)
  rw [List.getElem?_set_ne b] at e1 s1
  rw [List.getElem?_set_ne c] at e2 ⊢
  exact E.dis j k u u' ad hj hk a e1 e2 s1
 al:=E.al
theorem ze7 {i:Nat}(hi:i∉M)(hs:i∉S):RG S M (zao i) (gN i):=⟨fun A σ H ρ v w Q R E h r k=>k _ _ r (E.set hi h) fun j hj=>⟨List.getElem?_set_ne fun (z:i=j)=>hs (by rw [z];exact hj),List.getElem?_set_ne fun (z:i=j)=>hs (by rw [z];exact hj)⟩⟩
theorem zk {i:Nat}{x:Str}(hN:X.N.Nodup)(hx:X.N[i]?=some x)(hl:Loc X.env.scope x)(hi:i∉M:=by decide)(hs:i∉S:=by decide)(hf:X.fn x=true\/X.env.scope.names.lookup x=some .local:=by first | exact .inl rfl | exact .inr rfl | assumption):JG X S M (.Name x pos) (gN i):=⟨_,zdk hN hx hl hf,ze7 hi hs⟩
theorem xO:JGs X S M [] gNl:=⟨_,zmR,⟨fun A σ H ρ vs ds Q R E h ⟨e,r⟩ k=>by
 subst e
 exact ⟨h,k σ ρ r E fun _ _=>⟨rfl,rfl⟩⟩⟩⟩
theorem zy {g:W->Ev->(Ev->Prop)->Prop}{u:List Dt->Ev->(Ev->Prop)->Prop}(h1:JG X S M e g)(h2:JGs X S M es u)(hs:(assignEach (e::es) X.env).map (·.2)=assign e X.env::(assignEach es X.env).map (·.2):=by rfl):JGs X S M (e::es) (gCn g u):=by
 obtain ⟨t1,q1,r1⟩:=h1.ex
 obtain ⟨t2,q2,r2⟩:=h2.ex
 refine ⟨_,zj3 q1 q2 hs,⟨fun A σ H ρ vs ds Q R E h ⟨d,r,e,hg⟩ k=>?_⟩⟩
 subst e
 obtain ⟨v,s,rfl,hv,hr⟩:=h
 refine ⟨v,s,rfl,?_⟩
 refine r1.run A σ H ρ v _ _ _ E (Val.of hv) hg fun σ' ρ' hu E' f1=>?_
 exact r2.run A σ' H ρ' s _ _ _ E' hr hu fun σ2 ρ2 hR E2 f2=>k σ2 ρ2 hR E2 fun i hi=>⟨(f2 i hi).1.trans (f1 i hi).1,(f2 i hi).2.trans (f1 i hi).2⟩
theorem zae {k n:Nat}{u:List Dt->Ev->(Ev->Prop)->Prop}(K:PySem.W.Frag)(hK:X.K=K)(hc:X.calm=true)(h:JGs X S M es u)(hn:(assignEach es X.env).length=n:=by rfl)(hst:(assignEach es X.env).findIdx? (·.1)=none:=by rfl):JG X S M (.Tuple es k pos) (gTp n u):=by
 obtain ⟨t1,q1,r1⟩:=h.ex
 refine ⟨_,zmQ K hK hc q1 hn hst,⟨fun A σ H ρ v w Q R E h ⟨ds,e,hl,hu⟩ kk=>?_⟩⟩
 subst e
 obtain ⟨ad,xs,rfl,a,hx⟩:=h
 exact ⟨ad,xs,rfl,.of (zq _ _ a),by rw [hx.length];exact hl,r1.run A σ H ρ xs ds _ _ E hx hu kk⟩
def zqt (fa:Ev->Mo W):Ev->Mo (List W):=fun ρ n Q=>fa ρ n fun x m=>∃ l,x = .d (.lst l)/\Q (l.map W.d) m
def zqu (fa:Ev->Mo W):Ev->Mo (List W):=fun ρ n Q=>fa ρ n fun x m=>∃ l,x = .d (.tup l)/\Q (l.map W.d) m
theorem zhi {G G':Hp}{l:List Dt}{xs:List V}{i:Nat}{w:W}(h:IsL G l xs)(e:(l.map W.d)[i]?=some w)(s:zw G G'):∃ d x,w = .d d/\xs[i]?=some x/\Is G' d x:=by
 rw [List.getElem?_map] at e
 obtain ⟨d,h1,rfl⟩:=Option.map_eq_some_iff.mp e
 obtain ⟨x,h2,h3⟩:=h.getD h1
 exact ⟨d,x,rfl,h2,h3.stay s⟩
theorem zjm {K:PySem.W.Frag}{A:Addr->Prop}{H:Hp}{ad:Addr}{xs:List V}{l:List Dt}(h:z7 A H ad=some (.lst xs))(hl:IsL (z7 A H) l xs):ItV false A H (Itl K ad) (l.map W.d) where
 one:=fun i w A2 H2 e s _ _=>by
  obtain ⟨d,x,rfl,hx,hd⟩:=zhi hl e s
  have g:=zq _ _ (s.lst h)
  refine ⟨⟨xs,x,.of g,hx⟩,fun y H3 ⟨e3,hy⟩=>?_⟩
  subst e3
  have:=hy xs (.of g)
  rw [hx] at this
  cases this
  exact ⟨fun _ _ z=>z,Val.of hd⟩
 stop:=fun A2 H2 s _=>⟨xs,.of (zq _ _ (s.lst h)),by rw [List.length_map,hl.length];exact Nat.le_refl _⟩
theorem zlK {K:PySem.W.Frag}{A:Addr->Prop}{H:Hp}{ad:Addr}{xs:List V}{l:List Dt}(h:z7 A H ad=some (.tup xs))(hl:IsL (z7 A H) l xs):ItV false A H (Itt K ad) (l.map W.d) where
 one:=fun i w A2 H2 e s _ _=>by
  obtain ⟨d,x,rfl,hx,hd⟩:=zhi hl e s
  have g:=zq _ _ (s.tup h)
  refine ⟨⟨xs,x,.of g,hx⟩,fun y H3 ⟨e3,hy⟩=>?_⟩
  subst e3
  have:=hy xs (.of g)
  rw [hx] at this
  cases this
  exact ⟨fun _ _ z=>z,Val.of hd⟩
 stop:=fun A2 H2 s _=>⟨xs,.of (zq _ _ (s.tup h)),by rw [List.length_map,hl.length];exact Nat.le_refl _⟩
theorem uH {tg:Expr}(K:PySem.W.Frag)(hK:X.K=K)(h:JE X Pn M fr e f):JI X Pn M false tg e (zqt f):=by
 obtain ⟨te,q,r⟩:=h.ex
 refine ⟨_,zfF K hK q,⟨fun A σ H ρ n Q R E P hf k=>?_⟩⟩
 refine r.run A σ H ρ n _ _ E P hf fun w m v H1 ⟨l,e,r⟩ hv g _=>?_
 subst e
 obtain ⟨ad,xs,rfl,a,hl⟩:=hv
 exact ⟨ad,rfl,⟨xs,.of (zq _ _ a)⟩,k _ m _ H1 r (zjm a hl) g⟩
theorem uI {tg:Expr}(K:PySem.W.Frag)(hK:X.K=K)(h:JE X Pn M fr e f):JI X Pn M false tg e (zqu f):=by
 obtain ⟨te,q,r⟩:=h.ex
 refine ⟨_,zmT K hK q,⟨fun A σ H ρ n Q R E P hf k=>?_⟩⟩
 refine r.run A σ H ρ n _ _ E P hf fun w m v H1 ⟨l,e,r⟩ hv g _=>?_
 subst e
 obtain ⟨ad,xs,rfl,a,hl⟩:=hv
 exact ⟨ad,rfl,⟨xs,.of (zq _ _ a)⟩,k _ m _ H1 r (zlK a hl) g⟩
def zgc (lo:Int)(n:Nat):List W:=(List.range n).map fun i:Nat=>W.d (.int (lo+i))
theorem zlJ {A:Addr->Prop}{H:Hp}{lo:Int}{n:Nat}:ItV false A H (Itr lo n) (zgc lo n) where
 one:=fun i w A2 H2 e s _ _=>by
  unfold zgc at e
  rw [List.getElem?_map] at e
  obtain ⟨j,h1,rfl⟩:=Option.map_eq_some_iff.mp e
  obtain ⟨hi,h2⟩:=List.getElem?_eq_some_iff.mp h1
  rw [List.getElem_range] at h2
  subst h2
  rw [List.length_range] at hi
  refine ⟨hi,fun y H3 ⟨e3,hy⟩=>?_⟩
  subst e3 hy
  exact ⟨fun _ _ z=>z,Val.of rfl⟩
 stop:=fun A2 H2 s _=>by
  show n<=(zgc lo n).length
  unfold zgc
  rw [List.length_map,List.length_range]
  exact Nat.le_refl _
def zrp (fa:Ev->Mo (List W)):Ev->Mo (List W):=fun ρ n Q=>fa ρ n fun ws m=>∃ j:Int,ws=[.d (.int j)]/\j<=1000000/\-1000000<=j/\Q (zgc 0 j.toNat) m
theorem zX {tg:Expr}{fs:Ev->Mo (List W)}(hg:Gl X "range")(hm:X.mg "range" = none)(ha:JAB X Pn M [a] fs)(hs:starEach [a] X.env=[(false,eval a X.env)]:=by rfl):JI X Pn M false tg (.Call (.Name "range" p) [a] [] pos) (zrp fs):=by
 obtain ⟨te,q,r⟩:=ha.ex
 refine ⟨_,zia hg hm q hs,⟨fun A σ H ρ n Q R E P hf k=>?_⟩⟩
 refine r.run A σ H ρ n _ _ E P hf fun ws m vs H1 ⟨j,e,j1,j2,r⟩ hv g=>?_
 subst e
 obtain ⟨v,rfl,bb⟩:=zbl hv
 obtain rfl:=yR bb
 exact ⟨j,rfl,by lia,by lia,k _ m _ H1 r zlJ g⟩
def enW:Nat->List Dt->List W
 | _,[]=>[]
 | k,x::r=>.d (.tup [.int k,x])::enW (k+1) r
theorem zeD:∀ (l:List Dt) (k i:Nat),(enW k l)[i]?=(l[i]?).map fun x=>W.d (.tup [.int ((k+i:Nat):Int),x])
 | [],_,_=>by simp [enW]
 | x::r,k,0=>by simp [enW]
 | x::r,k,i+1=>by
  have:=zeD r (k+1) i
  simp only [enW,List.getElem?_cons_succ,this]
  rw [show k+1+i=k+(i+1) by lia]
theorem zgS:∀ (l:List Dt) (k:Nat),(enW k l).length=l.length
 | [],_=>rfl
 | x::r,k=>by rw [enW,List.length_cons,List.length_cons,zgS r]
def zro (fa:Ev->Mo (List W)):Ev->Mo (List W):=fun ρ n Q=>fa ρ n fun ws m=>∃ l,ws=[.d (.tup l)]/\Q (enW 0 l) m
theorem zjl {K:PySem.W.Frag}{A:Addr->Prop}{H:Hp}{ad:Addr}{xs:List V}{l:List Dt}(h:z7 A H ad=some (.tup xs))(hl:IsL (z7 A H) l xs):ItV false A H (Ite K ad) (enW 0 l) where
 one:=fun i w A2 H2 e s _ hA=>by
  rw [zeD] at e
  obtain ⟨d,h1,rfl⟩:=Option.map_eq_some_iff.mp e
  obtain ⟨x,hx,hd⟩:=hl.getD h1
  have g:=zq _ _ (s.tup h)
  refine ⟨⟨xs,x,.of g,hx⟩,fun y H3 ⟨T,z,e1,hT,e3,hy⟩=>?_⟩
  subst e1 e3
  have:=hy xs (.of g)
  rw [hx] at this
  cases this
  have S:=xB.upd (o:=.tup [.int i,x]) hT
  refine ⟨S,Val.of ⟨T,_,rfl,zF (hA T hT) zo,_,_,rfl,?_,_,_,rfl,(hd.stay s).stay (zw.same (uF S)),rfl⟩⟩
  show V.int (i:Int)=V.int ((0+i:Nat):Int)
  rw [Nat.zero_add]
 stop:=fun A2 H2 s _=>⟨xs,.of (zq _ _ (s.tup h)),by rw [zgS,hl.length];exact Nat.le_refl _⟩
theorem zlN {elts:List Expr}{x1}{tpos:Pos}{fs:Ev->Mo (List W)}(hg:Gl X "enumerate")(hm:X.mg "enumerate" = none)(ha:JA X Pn M [a] fs)(hs:starEach [a] X.env=[(false,eval a X.env)]:=by rfl):JI X Pn M false (.Tuple elts x1 tpos) (.Call (.Name "enumerate" p) [a] [] pos) (zro fs):=by
 obtain ⟨te,q,r⟩:=ha.ex
 refine ⟨_,zmS hg hm q hs,⟨fun A σ H ρ n Q R E P hf k=>?_⟩⟩
 refine r.run A σ H ρ n _ _ E P hf fun ws m vs H1 ⟨l,e,r⟩ hv g=>?_
 subst e
 obtain ⟨v,s,rfl,⟨ad,xs,rfl,b,hl⟩,hs⟩:=hv
 cases hs
 exact ⟨ad,rfl,⟨xs,.of (zq _ _ b)⟩,k _ m _ H1 r (zjl b hl) g⟩
def ziW:List Dt->List Dt->List W
 | x::r,y::s=>.d (.tup [x,y])::ziW r s
 | _,_=>[]
theorem ziI:∀ (l k:List Dt) (i:Nat),l.length=k.length->(ziW l k)[i]?=(l[i]?).bind fun x=>(k[i]?).map fun y=>W.d (.tup [x,y])
 | [],[],_,_=>by simp [ziW]
 | [],_::_,_,h=>by simp at h
 | _::_,[],_,h=>by simp at h
 | x::r,y::s,0,_=>by simp [ziW]
 | x::r,y::s,i+1,h=>by
  have:=ziI r s i (by simpa using h)
  simp only [ziW,List.getElem?_cons_succ,this]
theorem ziJ:∀ (l k:List Dt),l.length=k.length->(ziW l k).length=l.length
 | [],[],_=>rfl
 | [],_::_,h=>by simp at h
 | _::_,[],h=>by simp at h
 | x::r,y::s,h=>by rw [ziW,List.length_cons,List.length_cons,ziJ r s (by simpa using h)]
def zem (ρ:Ev)(cix:List (Option Nat)):Ev:=cix.map fun o=>match o with
 | none=>none
 | some i=>(ρ[i]?).join
def xZ (M:List Nat)(cix:List (Option Nat)):List Nat:=(List.range cix.length).filter fun k=>match cix[k]? with
 | some (some i)=>M.contains i
 | _=>false
theorem zby {cix:List (Option Nat)}{k:Nat}:k∈xZ M cix↔∃ i,cix[k]?=some (some i)/\i∈M:=by
 unfold xZ
 rw [List.mem_filter,List.mem_range]
 constructor
 ·rintro ⟨h1,h2⟩
  rw [List.getElem?_eq_getElem h1] at h2 ⊢
  cases e:cix[k] with
  | none=>rw [e] at h2;cases h2
  | some i=>rw [e] at h2;exact ⟨i,rfl,by simpa using h2⟩
 ·rintro ⟨i,h1,h2⟩
  exact ⟨(List.getElem?_eq_some_iff.mp h1).1,by rw [h1];simpa using h2⟩
theorem za0 {α:Type}{l:List (Option α)}{cix:List (Option Nat)}{k:Nat}{x:α}:(cix.map fun o=>match o with | none=>none | some i=>(l[i]?).join)[k]?=some (some x)↔∃ i,cix[k]?=some (some i)/\l[i]?=some (some x):=by
 rw [List.getElem?_map]
 cases e:cix[k]? with
 | none=>simp
 | some o=>
  cases o with
  | none=>simp
  | some i=>
   simp only [Option.map_some,Option.some.injEq]
   constructor
   ·intro h
    refine ⟨i,rfl,?_⟩
    cases q:l[i]? with
    | none=>rw [q] at h;cases h
    | some z=>rw [q] at h;cases z with
     | none=>cases h
     | some y=>cases h;rfl
   ·rintro ⟨j,rfl,h⟩
    rw [h]
    rfl
theorem EnvR.cap {A:Addr->Prop}{σ:St}{H:Hp}{ρ:Ev}(E:EnvR A M σ H ρ){cix:List (Option Nat)}(hn:(cix.filterMap id).Nodup):EnvR A (xZ M cix) (zbv σ cix) H (zem ρ cix) where
 len:=by unfold zbv zem;rw [List.length_map,List.length_map]
 val:=fun k w e=>by
  obtain ⟨i,h1,h2⟩:=za0.mp e
  obtain ⟨v,s1,s2,s3⟩:=E.val i w h2
  refine ⟨v,za0.mpr ⟨i,h1,s1⟩,fun z=>s2 fun y=>z (zby.mpr ⟨i,h1,y⟩),fun z=>?_⟩
  obtain ⟨j,h3,h4⟩:=zby.mp z
  rw [h1] at h3
  cases h3
  exact s3 h4
 dis:=fun k k' w u ad hk p q e1 e2 s1 s2=>by
  obtain ⟨i,h1,h2⟩:=za0.mp e1
  obtain ⟨i',c,r⟩:=za0.mp e2
  obtain ⟨j,h3,h4⟩:=za0.mp s1
  obtain ⟨j',g,s⟩:=za0.mp s2
  rw [h1] at h3
  cases h3
  rw [c] at g
  cases g
  obtain ⟨m,m1,m2⟩:=zby.mp hk
  rw [h1] at m1
  cases m1
  obtain ⟨m',n,t⟩:=zby.mp p
  rw [c] at n
  cases n
  refine E.dis _ _ w u ad m2 t (fun z=>?_) h2 r h4 s
  subst z
  have key:∀ (l:List (Option Nat)) (a b:Nat) (x:Nat),(l.filterMap id).Nodup->l[a]?=some (some x)->l[b]?=some (some x)->a=b:=by
   intro l
   induction l with
   | nil=>intro a b x _ h;simp at h
   | cons o l ih=>
    intro a b x hn ha hb
    have mem:∀ (l:List (Option Nat)) (a:Nat),l[a]?=some (some x)->x∈l.filterMap id:=fun l a h=>List.mem_filterMap.mpr ⟨some x,List.mem_of_getElem? h,rfl⟩
    cases o with
    | none=>
     have d:(l.filterMap id).Nodup:=by simpa using hn
     cases a with
     | zero=>simp at ha
     | succ a=>
      cases b with
      | zero=>simp at hb
      | succ b=>rw [ih a b x d (by simpa using ha) (by simpa using hb)]
    | some y=>
     have f:y∉l.filterMap id/\(l.filterMap id).Nodup:=by
      have d:(y::l.filterMap id).Nodup:=hn
      exact List.nodup_cons.mp d
     cases a with
     | zero=>
      have B:y=x:=by simpa using ha
      subst B
      cases b with
      | zero=>rfl
      | succ b=>exact absurd (mem l b (by simpa using hb)) f.1
     | succ a=>
      cases b with
      | zero=>
       have C:y=x:=by simpa using hb
       subst C
       exact absurd (mem l a (by simpa using ha)) f.1
      | succ b=>rw [ih a b x f.2 (by simpa using ha) (by simpa using hb)]
  exact q (key cix k k' _ hn h1 c)
 al:=E.al
theorem EnvR.more {A:Addr->Prop}{σ:St}{H H':Hp}{ρ:Ev}(E:EnvR A M σ H ρ){p:Addr}{o:HO}(s:zw H H')(n:Fr H p)(g:H' p=some o)(np:NP o)(nt:∀ xs,o≠.tup xs):EnvR (fun b=>A b\/b=p) M σ H' ρ where
 len:=E.len
 val:=fun i w e=>by
  obtain ⟨v,h1,h2,h3⟩:=E.val i w e
  refine ⟨v,h1,fun z=>WAt.up (y2 s n) (y2 s n) (h2 z),fun z=>?_⟩
  obtain ⟨a,e,h4,h5,h6⟩:=h3 z
  exact ⟨a,e,.inl h4,WAt.up s (y2 s n) h5,h6⟩
 dis:=E.dis
 al:=fun a h=>by
  rcases h with h | h
  ·obtain ⟨o,h1,h2,h3⟩:=E.al a h
   exact ⟨o,s _ _ h1 h2,h2,h3⟩
  ·subst h;exact ⟨o,g,np,nt⟩
theorem EnvR.upd {A:Addr->Prop}{σ:St}{H:Hp}{ρ:Ev}(E:EnvR A M σ H ρ){p:Addr}{o:HO}(hp:A p)(hn:∀ i w,i∈M->ρ[i]?=some (some w)->σ[i]?≠some (some (.ref p)))(np:NP o)(nt:∀ xs,o≠.tup xs):EnvR A M σ (L2.upd H p o) ρ where
 len:=E.len
 val:=fun i w e=>by
  obtain ⟨v,h1,h2,h3⟩:=E.val i w e
  refine ⟨v,h1,fun z=>?_,fun z=>?_⟩
  ·show WAt _ _ _ _
   rw [yp hp]
   exact h2 z
  ·obtain ⟨a,e',h4,h5,h6⟩:=h3 z
   have b:a≠p:=fun q=>hn i w z e (by rw [h1,e',q])
   refine ⟨a,e',h4,?_,h6⟩
   show WAt _ _ _ _
   rw [yp hp]
   cases w with
   | d x=>
    cases x with
    | lst l=>obtain ⟨a2,xs,e2,g1,g2⟩:=h5;rw [e'] at e2;cases e2;exact ⟨a,xs,e',by rw [zf b];exact g1,g2⟩
    | dct=>obtain ⟨a2,xs,e2,g1,g2⟩:=h5;rw [e'] at e2;cases e2;exact ⟨a,xs,e',by rw [zf b];exact g1,g2⟩
    | _=>cases h6
   | pen p=>cases h6
   | dk k=>obtain ⟨a2,xs,e2,g1,g2⟩:=h5;rw [e'] at e2;cases e2;exact ⟨a,xs,e',by rw [zf b];exact g1,g2⟩
   | dt k=>obtain ⟨a2,xs,e2,g1,g2⟩:=h5;rw [e'] at e2;cases e2;exact ⟨a,xs,e',by rw [zf b];exact g1,g2⟩
 dis:=E.dis
 al:=fun a h=>by
  by_cases ha:a=p
  ·subst ha;exact ⟨o,zo,np,nt⟩
  ·rw [zf ha];exact E.al a h
theorem xh.upd {A:Addr->Prop}{n:Nat}{H:Hp}{p:Addr}{o:HO}(h:xh Pn A n H)(hp:A p):xh Pn A n (L2.upd H p o):=by
 unfold xh at h ⊢
 split at h
 ·trivial
 ·refine ⟨?_,h.2⟩
  rename_i q c ns
  obtain ⟨h1,h2,h3⟩:=h
  have e1:∀ r,ns=0::r->c≠p:=fun r e z=>h2 r e (z ▸ hp)
  have e2:q≠p:=fun z=>h3 (z ▸ hp)
  obtain ⟨a,l,g1,g2,g3,g4⟩:=h1.ob
  exact ⟨⟨a,l,by rw [zf e2];exact g1,g2,g3,g4⟩,h1.ls.upd e1,h1.len⟩
end
structure JS (X:Cx)(Pn:Option zr)(S M:List Nat)(fr:Bool)(st:Stmt)(fs:Ms):Prop where
 ex:∃ ts,QS X st ts/\RS Pn S M fr ts fs
structure JSs (X:Cx)(Pn:Option zr)(S M:List Nat)(fr:Bool)(st:List Stmt)(fs:Ms):Prop where
 ex:∃ ts,QSs X st ts/\RS Pn S M fr ts fs
section
variable {X:Cx}{Pn:Option zr}{M S:List Nat}{fr fr':Bool}{e a b c:Expr}{es:List Expr}{f fa fb fc:Ev->Mo W}{pos p:Pos}
theorem xh.grow {A:Addr->Prop}{n:Nat}{H H':Hp}{q:Addr}{o:HO}(h:xh Pn A n H)(h':xh Pn A n H')(hq:Fr H q)(g:H' q=some o)(np:NP o):xh Pn (fun b=>A b\/b=q) n H':=by
 unfold xh at h h' ⊢
 split at h
 ·trivial
 ·rename_i p c ns
  refine ⟨h'.1,fun r er z=>z.elim (h'.2.1 r er) fun z=>?_,fun z=>z.elim h'.2.2 fun z=>?_⟩
  ·subst z
   rcases h.1.ls with ⟨r',e',z | ⟨o,z⟩⟩ | ⟨r',e'⟩
   ·exact hq _ z NP.lst
   ·exact hq _ z (fun _ e=>by cases e)
   ·rw [er] at e';cases e'
  ·subst z
   obtain ⟨a,l,e,_⟩:=h'.1.ob
   rw [e] at g
   cases g
   have:=np _ rfl
   rw [zjS] at this
   cases this
theorem xh.grow' {A:Addr->Prop}{n m:Nat}{H H':Hp}{q:Addr}{o:HO}(h:xh Pn A n H)(h':xh Pn A m H')(hq:Fr H q)(g:H' q=some o)(np:NP o):xh Pn (fun b=>A b\/b=q) m H':=by
 unfold xh at h h' ⊢
 split at h
 ·trivial
 ·rename_i p c ns
  refine ⟨h'.1,fun r er z=>z.elim (h'.2.1 r er) fun z=>?_,fun z=>z.elim h'.2.2 fun z=>?_⟩
  ·subst z
   rcases h.1.ls with ⟨r',e',z | ⟨o,z⟩⟩ | ⟨r',e'⟩
   ·exact hq _ z NP.lst
   ·exact hq _ z (fun _ e=>by cases e)
   ·rw [er] at e';cases e'
  ·subst z
   obtain ⟨a,l,e,_⟩:=h'.1.ob
   rw [e] at g
   cases g
   have:=np _ rfl
   rw [zjS] at this
   cases this
theorem zny {scope:Scope}{N:List Str}{fr:Bool}(h:∀ C s H ex,JE (zt X scope N C s H ex) Pn M fr e f):∃ te,(∀ C s H ex,QE (zt X scope N C s H ex) e te)/\RE Pn M fr te f:=
 ⟨fun σ H Q=>∀ C s H0 ex,(h C s H0 ex).ex.choose σ H Q,fun C s H0 ex=>⟨fun pins s' σ H Q I z=>(h C s H0 ex).ex.choose_spec.1.run pins s' σ H Q I (z C s H0 ex)⟩,
  ⟨fun A σ H ρ n Q R E P hf k C s H0 ex=>(h C s H0 ex).ex.choose_spec.2.run A σ H ρ n Q R E P hf k⟩⟩
theorem znA {scope:Scope}{N:List Str}{ft:Ev->Mo Bool}(h:∀ C s H ex,JTs (zt X scope N C s H ex) Pn M es ft):∃ te,(∀ C s H ex,QTs (zt X scope N C s H ex) es te)/\RT Pn M te ft:=
 ⟨fun σ H Q=>∀ C s H0 ex,(h C s H0 ex).ex.choose σ H Q,fun C s H0 ex=>⟨fun pins s' σ H Q I z=>(h C s H0 ex).ex.choose_spec.1.run pins s' σ H Q I (z C s H0 ex)⟩,
  ⟨fun A σ H ρ n Q R E P hf k C s H0 ex=>(h C s H0 ex).ex.choose_spec.2.run A σ H ρ n Q R E P hf k⟩⟩
theorem znz {scope:Scope}{N:List Str}{mg:W->Ev->(Ev->Prop)->Prop}(h:∀ C s H ex,JG (zt X scope N C s H ex) S M e mg):∃ g,(∀ C s H ex,QG (zt X scope N C s H ex) e g)/\RG S M g mg:=
 ⟨fun v σ H Q=>∀ C s H0 ex,(h C s H0 ex).ex.choose v σ H Q,fun C s H0 ex=>⟨fun pins s' σ H v u Q I rv z=>(h C s H0 ex).ex.choose_spec.1.run pins s' σ H v u Q I rv (z C s H0 ex)⟩,
  ⟨fun A σ H ρ v w Q R E hv hf k C s H0 ex=>(h C s H0 ex).ex.choose_spec.2.run A σ H ρ v w Q R E hv hf k⟩⟩
def zcS (mg:W->Ev->(Ev->Prop)->Prop)(ft:Ev->Mo Bool)(fe:Ev->Mo W)(ρ0:Ev)(Q:W->Nat->Prop):List W->Nat->Prop:=fun l n1=>l.length<=lim/\∃ I:Nat->Ev->Nat->List Dt->Prop,I 0 ρ0 n1 []/\
 (∀ i w ρ' n' acc,l[i]?=some w->I i ρ' n' acc->mg w ρ' fun ρ1=>ft ρ1 n' fun b n2=>if b=true then fe ρ1 n2 fun x n3=>∃ d,x = .d d/\I (i+1) ρ1 n3 (acc++[d]) else I (i+1) ρ1 n2 acc)/\
 ∀ ρ' n' acc,I l.length ρ' n' acc->Q (.d (.lst acc)) n'
@[reducible] def zlY (fi:Ev->Mo (List W)) (mg:W->Ev->(Ev->Prop)->Prop) (ft:Ev->Mo Bool) (fe:Ev->Mo W) (cix:List (Option Nat)):Ev->Mo W:=fun ρ n Q=>fi ρ n (zcS mg ft fe (zem ρ cix) Q)
theorem zii {wi:TI}{g:TG}{ti:TT}{te:TE}{cix:List (Option Nat)}{fi:Ev->Mo (List W)}{mg:W->Ev->(Ev->Prop)->Prop}{ft:Ev->Mo Bool}{fe:Ev->Mo W}{ow:Bool}(hn:(cix.filterMap id).Nodup)
  (hi:RI Pn M ow wi fi) (hg:RG (xZ M cix) (xZ M cix) g mg) (ht:RT Pn (xZ M cix) ti ft) (he:RE Pn (xZ M cix) fr' te fe):RE Pn M true (zix wi g ti te cix) (zlY fi mg ft fe cix):=⟨fun A σ H ρ n Q R E P hf k=>by
 refine hi.run A σ H ρ n _ _ E P hf fun l m J H1 ⟨hz,I,i0,it,ie⟩ iv g1=>fun acc f=>?_
 have E1:=E.stay g1.st
 have E2:=(E1.cap hn).more (zw.upd (o:=.lst []) f) (Fr.of f) zo NP.lst (by intro xs z;cases z)
 have P2:xh Pn (fun b=>A b\/b=acc) m (L2.upd H1 acc (.lst [])):=g1.pn.grow (g1.pn.same (xB.upd f)) (Fr.of f) zo NP.lst
 have B:∀ k w,k∈xZ M cix->(zem ρ cix)[k]?=some (some w)->(zbv σ cix)[k]?≠some (some (.ref acc)):=fun k w hk hw z=>by
  obtain ⟨v,s1,_,s3⟩:=(E1.cap hn).val k w hw
  obtain ⟨a,e,hA,_⟩:=s3 hk
  rw [z] at s1
  cases s1
  cases e
  exact E1.new f hA
 have key:∀ σ' ρ' H',EnvR (fun b=>A b\/b=acc) (xZ M cix) σ' H' ρ'->(∀ k∈xZ M cix,σ'[k]?=(zbv σ cix)[k]?/\ρ'[k]?=(zem ρ cix)[k]?)->∀ k w,k∈xZ M cix->ρ'[k]?=some (some w)->σ'[k]?≠some (some (.ref acc)):=fun σ' ρ' H' E' s k w hk hw z=>by
  obtain ⟨f1,f2⟩:=s k hk
  rw [f1] at z
  rw [f2] at hw
  exact B k w hk hw z
 refine ⟨fun i mm σ' H'=>mm=l.length - i/\i<=l.length/\∃ ρ' n' c xs,EnvR (fun b=>A b\/b=acc) (xZ M cix) σ' H' ρ'/\xh Pn (fun b=>A b\/b=acc) n' H'/\I i ρ' n' c/\H' acc=some (.lst xs)/\IsL (z7 (fun b=>A b\/b=acc) H') c xs/\c.length<=i/\zw (z7 A H1) (z7 (fun b=>A b\/b=acc) H')/\zw H1 H'/\(∀ k∈xZ M cix,σ'[k]?=(zbv σ cix)[k]?/\ρ'[k]?=(zem ρ cix)[k]?),
  ⟨l.length,by simp,Nat.zero_le _,_,m,[],[],E2,P2,i0,zo,rfl,Nat.le_refl _,y2 (zw.upd f) (Fr.of f),zw.upd f,fun k hk=>⟨rfl,rfl⟩⟩,?_⟩
 rintro i mm σ' H' ⟨rfl,F,ρ',n',c,xs,E',P',hI,t,j,G,st,s1,s⟩
 by_cases hlt:i<l.length
 ·right
  have y:l[i]?=some l[i]:=List.getElem?_eq_getElem hlt
  obtain ⟨go,yl⟩:=iv.one i l[i] _ H' y st (fun _=>s1) fun p hp=>E'.new hp
  refine ⟨go,fun σ2 H2=>∃ ρ' n' c xs,EnvR (fun b=>A b\/b=acc) (xZ M cix) σ2 H2 ρ'/\xh Pn (fun b=>A b\/b=acc) n' H2/\I (i+1) ρ' n' c/\H2 acc=some (.lst xs)/\IsL (z7 (fun b=>A b\/b=acc) H2) c xs/\c.length<=i+1/\zw (z7 A H1) (z7 (fun b=>A b\/b=acc) H2)/\zw H1 H2/\(∀ k∈xZ M cix,σ2[k]?=(zbv σ cix)[k]?/\ρ'[k]?=(zem ρ cix)[k]?),
   fun σ2 H2 h=>⟨l.length - (i+1),by lia,rfl,hlt,h⟩,fun x H2 hy=>?_⟩
  obtain ⟨S2,V2⟩:=yl x H2 hy
  refine hg.run _ σ' H2 ρ' x l[i] _ _ (E'.stay (zw.same S2)) V2 (it i l[i] ρ' n' c y hI) fun σ3 ρ3 r3 E3 f3=>?_
  have q:∀ k∈xZ M cix,σ3[k]?=(zbv σ cix)[k]?/\ρ3[k]?=(zem ρ cix)[k]?:=fun k hk=>⟨(f3 k hk).1.trans (s k hk).1,(f3 k hk).2.trans (s k hk).2⟩
  refine ht.run _ σ3 H2 ρ3 n' _ _ E3 (P'.same S2) r3 fun b m3 H4 r4 g4=>?_
  have r:=(zw.same S2).trans g4.st
  cases b with
  | false=>
   rw [if_neg (by decide)] at r4 ⊢
   exact ⟨ρ3,m3,c,xs,E3.stay g4.st,g4.pn,r4,r.lst t,j.stay (zV r),by lia,st.trans (zV r),s1.trans r,q⟩
  | true=>
   rw [if_pos rfl] at r4 ⊢
   refine he.run _ σ3 H4 ρ3 m3 _ _ (E3.stay g4.st) g4.pn r4 fun w5 m5 v5 H5 ⟨d,e5,r5⟩ V5 g5 _=>?_
   subst e5
   have u:=r.trans g5.st
   have E5:=(E3.stay g4.st).stay g5.st
   have C:=u.lst t
   refine ⟨xs,C,zfz (by rw [j.length];lia),ρ3,m5,c++[d],xs++[v5],E5.upd (.inr rfl) (key σ3 ρ3 H5 E5 q) NP.lst (by intro xs z;cases z),g5.pn.upd (.inr rfl),r5,zo,?_,by rw [List.length_append];simp;lia,?_,?_,q⟩
   ·rw [yp (.inr rfl)]
    exact (j.stay (zV u)).append (IsL.one V5.is)
   ·rw [yp (.inr rfl)]
    exact st.trans (zV u)
   ·exact fun b o e nn=>by
     rw [zf (zb e f)]
     exact s1.trans u b o e nn
 ·left
  have D:i=l.length:=by lia
  subst D
  refine ⟨iv.stop _ H' st (fun _=>s1),k _ n' _ H' (ie ρ' n' c hI) (Val.of ⟨acc,xs,rfl,zF (E1.new f) t,j.stay (zw.same (yZ fun b z=>.inl z))⟩) (g1.trans ⟨s1,P'.less fun a z=>.inl z⟩) fun _=>⟨acc,rfl,(Fr.of f).back g1.st,acc,xs,rfl,t,j⟩⟩⟩
@[reducible] def zqw:Ev->Mo Bool:=fun _ n Q=>Q true n
theorem xg:JTs X Pn M [] zqw:=⟨_,ze3,⟨fun A σ H ρ n Q R E P hf k=>k true n H hf (Go.refl P)⟩⟩
theorem xP {ft:Ev->Mo Bool}(h:JT X Pn M c ft):JTs X Pn M [c] ft:=let ⟨t,h1,h2⟩:=h.ex;⟨t,zm0 h1,h2⟩
theorem y4 {elt tg iter:Expr}{ifs:List Expr}{scope:Scope}{N:List Str}{cix:List (Option Nat)}{fi:Ev->Mo (List W)}{mg:W->Ev->(Ev->Prop)->Prop}{ft:Ev->Mo Bool}{fe:Ev->Mo W}{ow:Bool}(hc:X.calm=true)(cc:CompOk X scope N cix)
  (hi:JI X Pn M ow tg iter fi) (hg:∀ C s H ex,JG (zt X scope N C s H ex) (xZ M cix) (xZ M cix) tg mg) (ht:∀ C s H ex,JTs (zt X scope N C s H ex) Pn (xZ M cix) ifs ft) (he:∀ C s H ex,JE (zt X scope N C s H ex) Pn (xZ M cix) fr' elt fe)
  (hn:(cix.filterMap id).Nodup:=by decide) (hs:∀ x,foldedSetIterable iter X.env x=pure x:=by intro _;rfl):JE X Pn M true (.ListComp elt [⟨tg,iter,ifs,0⟩] scope pos) (zlY fi mg ft fe cix):=by
 obtain ⟨ti,qi,ri⟩:=hi.ex
 obtain ⟨g,qg,rg⟩:=znz hg
 obtain ⟨tt,qt,rt⟩:=znA ht
 obtain ⟨te,qe,re⟩:=zny he
 exact ⟨_,zj0 hc cc qi qg qt qe hs,zii hn ri rg rt re⟩
theorem zbx {elt tg iter:Expr}{ifs:List Expr}{scope:Scope}{N:List Str}{cix:List (Option Nat)}{fi:Ev->Mo (List W)}{mg:W->Ev->(Ev->Prop)->Prop}{ft:Ev->Mo Bool}{fe:Ev->Mo W}{ow:Bool}{ix:Nat}{nx:Str}{px spos:Pos}(hNd:X.N.Nodup)(hix:X.N[ix]?=some nx)(hlx:X.env.scope.names.lookup nx=some .local)(hc:X.calm=true)(cc:CompOk X scope N cix)
  (hi:JI X Pn M ow tg iter fi) (hg:∀ C s H ex,JG (zt X scope N C s H ex) (xZ M cix) (xZ M cix) tg mg) (ht:∀ C s H ex,JTs (zt X scope N C s H ex) Pn (xZ M cix) ifs ft) (he:∀ C s H ex,JE (zt X scope N C s H ex) Pn (xZ M cix) fr' elt fe)
  (hn:(cix.filterMap id).Nodup:=by decide) (hsw:swapsWithSole [.Name nx px] (.ListComp elt [⟨tg,iter,ifs,0⟩] scope pos) spos.line X.env=pure true:=by rfl)
  (hs:∀ x,foldedSetIterable iter X.env x=pure x:=by intro _;rfl)
  (h1a:(assignEach [.Name nx px] X.env).map (·.2)=[assign (.Name nx px) X.env]:=by rfl):∃ te,QS X (.Assign [.Name nx px] (.ListComp elt [⟨tg,iter,ifs,0⟩] scope pos) spos) (zfa te (zao ix))/\RE Pn M true te (zlY fi mg ft fe cix):=by
 obtain ⟨ti,qi,ri⟩:=hi.ex
 obtain ⟨g,qg,rg⟩:=znz hg
 obtain ⟨tt,qt,rt⟩:=znA ht
 obtain ⟨te,qe,re⟩:=zny he
 exact ⟨_,zmZ hNd hix hlx hc cc qi qg qt qe hsw hs h1a,zii hn ri rg rt re⟩
theorem At3.step {B:Bs}{A:Addr->Prop}{σ:St}{H H':Hp}{ρ:Ev}{n m:Nat}(h:At3 Pn B S M A σ H ρ n)(g:Go Pn A H m H'):At3 Pn B S M A σ H' ρ m where
 env:=h.env.stay g.st
 frm:=⟨h.frm.sub,h.frm.new,fun b o e n c=>g.st b o (h.frm.st b o e n c) n,h.frm.al,h.frm.cn,fun a z=>let ⟨o,e,n⟩:=h.frm.cs a z;⟨o,g.st a o e n,n⟩⟩
 pn:=g.pn
 prot:=h.prot.trans (zV g.st)
 fix:=h.fix
 mine:=h.mine
@[reducible] def mRet (f:Ev->Mo W):Ms:=fun ρ n k=>f ρ n k.rt
theorem zpL {te:TE}(h:RE Pn M fr te f):RS Pn S M fr (zqE te) (mRet f):=⟨fun B A σ H ρ n k D a kk hf=>by
 refine h.run A σ H ρ n _ _ a.env a.pn hf fun w m v H' r hv g hr=>?_
 have a':=a.step g
 exact kk.rt w m v H' (WAt.up (zw.same (yZ a.frm.sub)) (zw.same (yZ a.frm.sub)) hv) a'.frm.st (g.pn.less a.frm.sub) (fun z=>by
  obtain ⟨b,e,f1,f2⟩:=hr z
  exact FrV.less ⟨b,e,a.frm.back f1 (a.env.newF f1),f2⟩ a.frm.sub) r⟩
theorem zD (h:JE X Pn M fr e f):JS X Pn S M fr (.Return (some e) pos) (mRet f):=let ⟨te,q,r⟩:=h.ex;⟨_,zb3 q,zpL r⟩
def zl9 (i:Nat):Ms:=fun ρ n k=>∃ w,ρ[i]?=some (some w)/\k.rt w n
theorem zna {i:Nat}(hi:i∈M):RS Pn S M fr (zqE (zk5 i)) (zl9 i):=⟨fun B A σ H ρ n k D a kk ⟨w,e,r⟩=>by
 obtain ⟨v,s1,_,s3⟩:=a.env.val i w e
 obtain ⟨ad,rfl,hA,hb,hm⟩:=s3 hi
 have hF:=a.mine i w ad hi e s1
 have hn:¬ B.A0 ad:=fun z=>by
  rcases hF with hF | hF
  ·obtain ⟨o,o1,o2,_⟩:=a.frm.al ad z
   exact hF o o1 o2
  ·exact a.frm.cn ad hF z
 have less:xB (z7 A H) (z7 B.A0 H):=yZ a.frm.sub
 have c:xB (z7 A H) (z7 (fun b=>B.A0 b\/b=ad) H):=yZ fun b z=>z.elim (a.frm.sub b) fun z=>z ▸ hA
 refine ⟨.ref ad,s1,kk.rt w n (.ref ad) H ?_ a.frm.st (a.pn.less a.frm.sub) (fun z=>⟨ad,rfl,hF.resolve_right (kk.fc z ad),WAt.up (zw.refl _) (zw.same c) hb⟩) r⟩
 cases w with
 | d x=>
  cases x with
  | lst l=>obtain ⟨a2,xs,e2,g1,g2⟩:=hb;cases e2;exact ⟨ad,xs,rfl,zF hn g1,g2.stay (zw.same less)⟩
  | dct=>obtain ⟨a2,xs,e2,g1,g2⟩:=hb;cases e2;exact ⟨ad,xs,rfl,zF hn g1,g2⟩
  | _=>cases hm
 | pen p=>cases hm
 | dk f=>obtain ⟨a2,xs,e2,g1,g2,g3⟩:=hb;cases e2;exact ⟨ad,xs,rfl,zF hn g1,g2.stay (zw.same less),g3⟩
 | dt f=>obtain ⟨a2,xs,e2,g1,g2⟩:=hb;cases e2;exact ⟨ad,xs,rfl,zF hn g1,g2.stay (zw.same less)⟩⟩
theorem zlR (i:Nat){x:Str}(hi:i∈M:=by decide)(hN:X.N[i]?=some x:=by rfl)(hv:Vis X.env.scope x:=by first | exact Or.inl rfl | exact Or.inr (Or.inl rfl) | exact Or.inr (Or.inr rfl))(hd:(x==("__debug__" : Str))=false:=by decide)
  (hcd:(x==("__classdict__" : Str))=false:=by decide) {pos':Pos}:JS X Pn S M fr (.Return (some (.Name x pos)) pos') (zl9 i):=⟨_,zb3 (qv i hN hv hd hcd),zna hi⟩
@[reducible] def znK (f:Ev->Mo W) (mg:W->Ev->(Ev->Prop)->Prop):Ms:=fun ρ n k=>f ρ n fun w m=>mg w ρ fun ρ'=>k.nx ρ' m
theorem EnvR.mineG {B:Bs}{A:Addr->Prop}{σ σ':St}{H:Hp}{ρ ρ':Ev}{n:Nat}(a:At3 Pn B S M A σ H ρ n)(E:EnvR A M σ' H ρ')(f:∀ i∈S++M,σ'[i]?=σ[i]?/\ρ'[i]?=ρ[i]?):At3 Pn B S M A σ' H ρ' n where
 env:=E
 frm:=a.frm
 pn:=a.pn
 prot:=a.prot
 fix:=fun i hi=>(f i (List.mem_append.mpr (.inl hi))).1.trans (a.fix i hi)
 mine:=fun i w ad hi e s=>by
  obtain ⟨f1,f2⟩:=f i (List.mem_append.mpr (.inr hi))
  rw [f1] at s
  rw [f2] at e
  exact a.mine i w ad hi e s
theorem zkZ {te:TE}{g:TG}{mg:W->Ev->(Ev->Prop)->Prop}(h:RE Pn M fr' te f)(hg:RG (S++M) M g mg):RS Pn S M fr (zfa te g) (znK f mg):=⟨fun B A σ H ρ n k D a kk hf=>by
 refine h.run A σ H ρ n _ _ a.env a.pn hf fun w m v H' r hv g' _=>?_
 have a':=a.step g'
 exact hg.run A σ H' ρ v w _ _ a'.env hv r fun σ2 ρ2 r2 E2 f2=>kk.nx A σ2 H' ρ2 m (EnvR.mineG a' E2 f2) r2⟩
theorem zA {i:Nat}{x:Str}{pos':Pos}(hN:X.N.Nodup)(hi:X.N[i]?=some x)(hx:Loc X.env.scope x)(he:JE X Pn M fr' e f)(hiM:i∉M:=by decide)(hiS:i∉S++M:=by decide)(hs:swapsWith e (some (.Name x pos')) pos.line X.env=pure false:=by rfl)(hf:X.fn x=true\/X.env.scope.names.lookup x=some .local:=by first | exact .inl rfl | exact .inr rfl | assumption) :
  JS X Pn S M fr (.Assign [.Name x pos'] e pos) (znK f (gN i)):=let ⟨te,q,r⟩:=he.ex;⟨_,uP hN hi hx q hs hf,zkZ r (ze7 hiM hiS)⟩
theorem zhm {i:Nat}{st:Stmt}(h:∃ te,QS X st (zfa te (zao i))/\RE Pn M true te f)(hiM:i∉M:=by decide)(hiS:i∉S++M:=by decide):JS X Pn S M fr st (znK f (gN i)):=let ⟨te,q,r⟩:=h;⟨_,q,zkZ r (ze7 hiM hiS)⟩
def zoz (i:Nat)(f:Ev->Mo W):Ms:=fun ρ n k=>f ρ n fun w m=>w.mut=true/\k.nx (ρ.set i (some w)) m
theorem zmc {T G:Hp}{w:W}{v:V}(h:WAt T G w v)(hm:w.mut=true):∃ a o,v = .ref a/\T a=some o/\NP o/\∀ xs,o≠.tup xs:=by
 cases w with
 | d x=>
  cases x with
  | lst l=>obtain ⟨a,xs,e,g1,_⟩:=h;exact ⟨a,_,e,g1,NP.lst,fun _ z=>by cases z⟩
  | dct=>obtain ⟨a,xs,e,g1,g2⟩:=h;exact ⟨a,_,e,g1,fun k z=>by cases z;exact g2,fun _ z=>by cases z⟩
  | _=>cases hm
 | pen p=>cases hm
 | dk kvs=>obtain ⟨a,xs,e,g1,_,g3⟩:=h;exact ⟨a,_,e,g1,fun k z=>by cases z;exact g3,fun _ z=>by cases z⟩
 | dt kvs=>obtain ⟨a,xs,e,g1,_⟩:=h;exact ⟨a,_,e,g1,(fun k z=>by cases z),fun _ z=>by cases z⟩
theorem zk0 {te:TE}{i:Nat}(h:RE Pn M true te f)(hi:i∈M)(hs:i∉S):RS Pn S M fr (zfa te (zao i)) (zoz i f):=⟨fun B A σ H ρ n k D a kk hf=>by
 refine h.run A σ H ρ n _ _ a.env a.pn hf fun w m v H' ⟨hm,r⟩ hv g' t=>?_
 obtain ⟨ad,rfl,hF,hb⟩:=t rfl
 obtain ⟨a2,o,e2,ho,np,nt⟩:=zmc hb hm
 cases e2
 have E1:=a.env.more g'.st hF ho np nt
 have d:¬ A ad:=a.env.newF hF
 refine kk.nx (fun b=>A b\/b=ad) _ H' _ m ⟨⟨?_,?_,?_,E1.al⟩,⟨fun b z=>.inl (a.frm.sub b z),fun b z=>?_,fun b o e n c=>g'.st b o (a.frm.st b o e n c) n,a.frm.al,a.frm.cn,fun b z=>let ⟨o,e,n⟩:=a.frm.cs b z;⟨o,g'.st b o e n,n⟩⟩,a.pn.grow' g'.pn hF ho np,a.prot.trans (y2 g'.st hF),fun j hj=>?_,fun j u b hj e s=>?_⟩ r
 ·rw [List.length_set,List.length_set];exact a.env.len
 ·intro j u e
  by_cases hj:j=i
  ·subst hj
   have hl:j<ρ.length:=by
    have:=(List.getElem?_eq_some_iff.mp e).1
    rwa [List.length_set] at this
   rw [List.getElem?_set_self hl] at e
   cases e
   exact ⟨.ref ad,List.getElem?_set_self (by rw [a.env.len];exact hl),fun z=>absurd hi z,fun _=>⟨ad,rfl,.inr rfl,hb,hm⟩⟩
  ·rw [List.getElem?_set_ne (Ne.symm hj)] at e ⊢
   exact E1.val j u e
 ·intro j l u u' b hj hl p e1 e2 s1 s2
  have own:∀ q u,q∈M->q≠i->ρ[q]?=some (some u)->σ[q]?≠some (some (.ref ad)):=fun q u hq x eq sq=>by
   obtain ⟨v,s,_,s3⟩:=a.env.val q u eq
   obtain ⟨c,ec,hc,_⟩:=s3 hq
   rw [sq] at s
   cases s
   cases ec
   exact d hc
  have len:∀ q (u:W),(ρ.set i (some w))[q]?=some (some u)->q<σ.length:=fun q u e=>by
   have:=(List.getElem?_eq_some_iff.mp e).1
   rw [List.length_set] at this
   rw [a.env.len];exact this
  by_cases hji:j=i
  ·subst hji
   rw [List.getElem?_set_self (len _ _ e1)] at s1
   cases s1
   rw [List.getElem?_set_ne p] at e2 s2
   exact own l u' hl (Ne.symm p) e2 s2
  ·rw [List.getElem?_set_ne (Ne.symm hji)] at e1 s1
   by_cases hli:l=i
   ·subst hli
    rw [List.getElem?_set_self (len _ _ e2)] at s2
    cases s2
    exact own j u hj hji e1 s1
   ·rw [List.getElem?_set_ne (Ne.symm hli)] at e2 s2
    exact a.env.dis j l u u' b hj hl p e1 e2 s1 s2
 ·rcases z with z | z
  ·exact a.frm.new b z
  ·subst z;exact .inr (.inl (a.frm.back hF d))
 ·rw [List.getElem?_set_ne fun (z:i=j)=>hs (by rw [z];exact hj)]
  exact a.fix j hj
 ·by_cases hji:j=i
  ·subst hji
   have hl:j<σ.length:=by
    have:=(List.getElem?_eq_some_iff.mp s).1
    rwa [List.length_set] at this
   rw [List.getElem?_set_self hl] at s
   cases s
   exact .inl (a.frm.back hF d)
  ·rw [List.getElem?_set_ne (Ne.symm hji)] at e s
   exact a.mine j u b hj e s⟩
theorem zbe {i:Nat}{x:Str}{pos':Pos}(hN:X.N.Nodup)(hi:X.N[i]?=some x)(hx:Loc X.env.scope x)(he:JE X Pn M true e f)(hiM:i∈M:=by decide)(hiS:i∉S:=by decide)(hs:swapsWith e (some (.Name x pos')) pos.line X.env=pure false:=by rfl)(hf:X.fn x=true\/X.env.scope.names.lookup x=some .local:=by first | exact .inl rfl | exact .inr rfl | assumption) :
  JS X Pn S M fr (.Assign [.Name x pos'] e pos) (zoz i f):=let ⟨te,q,r⟩:=he.ex;⟨_,uP hN hi hx q hs hf,zk0 r hiM hiS⟩
theorem zhl {i:Nat}{st:Stmt}(h:∃ te,QS X st (zfa te (zao i))/\RE Pn M true te f)(hiM:i∈M:=by decide)(hiS:i∉S:=by decide):JS X Pn S M fr st (zoz i f):=let ⟨te,q,r⟩:=h;⟨_,q,zk0 r hiM hiS⟩
end
open PySem.Spec
section
variable {X:Cx}{Pn:Option zr}{M S:List Nat}{fr fr':Bool}{e a b c:Expr}{es:List Expr}{f fa fb fc:Ev->Mo W}{pos p:Pos}{st:Stmt}{sts:List Stmt}{fs gs:Ms}
@[reducible] def mNx:Ms:=fun ρ n k=>k.nx ρ n
structure blk (g:Ms)(ρ:Ev)(n:Nat)(k:Kt):Prop where
 go:g ρ n k
theorem znT {g:Ms}{ρ:Ev}{n:Nat}{k:Kt}(h:g ρ n k):blk g ρ n k:=⟨h⟩
@[reducible] def mSeq (f g:Ms):Ms:=fun ρ n k=>f ρ n { k with nx:=fun ρ' n'=>blk g ρ' n' k }
def zrm (t:Ev->Mo Bool)(f g:Ms):Ms:=fun ρ n k=>t ρ n fun c m=>if c=true then blk f ρ m k else blk g ρ m k
theorem zG:JSs X Pn S M fr [] mNx:=⟨_,zdn,⟨fun B A σ H ρ n k D a kk hf=>kk.nx A σ H ρ n a hf⟩⟩
theorem zpM {t u:TS}(h1:RS Pn S M fr t fs)(h2:RS Pn S M fr u gs):RS Pn S M fr (zr4 t u) (mSeq fs gs):=⟨fun B A σ H ρ n k D a kk hf=>
 h1.run B A σ H ρ n { k with nx:=fun ρ' n'=>blk gs ρ' n' k } _ a ⟨fun A' σ' H' ρ' n' a' r=>h2.run B A' σ' H' ρ' n' k D a' kk r.go,kk.bk,kk.ct,kk.fc,kk.rt⟩ hf⟩
theorem zd (h1:JS X Pn S M fr st fs)(h2:JSs X Pn S M fr sts gs):JSs X Pn S M fr (st::sts) (mSeq fs gs):=let ⟨t,q,r⟩:=h1.ex;let ⟨u,q2,r2⟩:=h2.ex;⟨_,z9 q q2,zpM r r2⟩
theorem zh (h1:JS X Pn S M fr st fs):JSs X Pn S M fr [st] fs:=let ⟨t,q,r⟩:=h1.ex;⟨_,uQ q,r⟩
theorem xf {body other:List Stmt}{t:Ev->Mo Bool}(hc:JT X Pn M c t)(ha:JSs X Pn S M fr body fs)(hb:JSs X Pn S M fr other gs):JS X Pn S M fr (.If c body other pos) (zrm t fs gs):=by
 obtain ⟨tc,qc,rc⟩:=hc.ex
 obtain ⟨ta,qa,ra⟩:=ha.ex
 obtain ⟨tb,qb,rb⟩:=hb.ex
 refine ⟨_,zj4 qc qa qb,⟨fun B A σ H ρ n k D a kk hf=>?_⟩⟩
 refine rc.run A σ H ρ n _ _ a.env a.pn hf fun c m H1 r g=>?_
 cases c with
 | true=>rw [if_pos rfl] at r ⊢;exact ra.run B A σ H1 ρ m k D (a.step g) kk r.go
 | false=>rw [if_neg (by decide)] at r ⊢;exact rb.run B A σ H1 ρ m k D (a.step g) kk r.go
@[reducible] def mDrop (f:Ev->Mo W):Ms:=fun ρ n k=>f ρ n fun _ m=>k.nx ρ m
theorem At3.wr {B:Bs}{A:Addr->Prop}{σ:St}{H:Hp}{ρ:Ev}{n:Nat}(h:At3 Pn B S M A σ H ρ n){i:Nat}{w:W}{ad:Addr}{xs:List V}{l:List Dt}(hi:i∈M)(e:ρ[i]?=some (some w))(s:σ[i]?=some (some (.ref ad)))(hl:IsL (z7 A H) l xs):At3 Pn B S M A σ (L2.upd H ad (.lst xs)) (ρ.set i (some (.d (.lst l)))) n:=by
 obtain ⟨v,s1,_,s3⟩:=h.env.val i w e
 rw [s] at s1
 cases s1
 obtain ⟨a2,e2,hA,_,_⟩:=s3 hi
 cases e2
 have hlen:i<ρ.length:=(List.getElem?_eq_some_iff.mp e).1
 have hE:EnvR A M σ (L2.upd H ad (.lst xs)) (ρ.set i (some (.d (.lst l)))):=by
  refine ⟨by rw [List.length_set];exact h.env.len,fun j u ej=>?_,fun j q u u' b hj hq a e1 e2=>?_,fun b hb=>?_⟩
  ·by_cases hj:j=i
   ·subst hj
    rw [List.getElem?_set_self hlen] at ej
    cases ej
    exact ⟨.ref ad,s,fun z=>absurd hi z,fun _=>⟨ad,rfl,hA,⟨ad,xs,rfl,zo,by rw [yp hA];exact hl⟩,rfl⟩⟩
   ·rw [List.getElem?_set_ne (Ne.symm hj)] at ej
    obtain ⟨v,t1,t2,t3⟩:=h.env.val j u ej
    refine ⟨v,t1,fun z=>?_,fun z=>?_⟩
    ·show WAt _ _ _ _
     rw [yp hA]
     exact t2 z
    ·obtain ⟨b,rfl,hb,c,hm⟩:=t3 z
     have a:b≠ad:=fun q=>h.env.dis i j w u ad hi z (Ne.symm hj) e ej s (by rw [t1,q])
     refine ⟨b,rfl,hb,?_,hm⟩
     show WAt _ _ _ _
     rw [yp hA]
     cases u with
     | d x=>
      cases x with
      | lst l=>obtain ⟨a2,xs,e2,g1,g2⟩:=c;cases e2;exact ⟨b,xs,rfl,by rw [zf a];exact g1,g2⟩
      | dct=>obtain ⟨a2,xs,e2,g1,g2⟩:=c;cases e2;exact ⟨b,xs,rfl,by rw [zf a];exact g1,g2⟩
      | _=>cases hm
     | pen p=>cases hm
     | dk k=>obtain ⟨a2,xs,e2,g1,g2⟩:=c;cases e2;exact ⟨b,xs,rfl,by rw [zf a];exact g1,g2⟩
     | dt k=>obtain ⟨a2,xs,e2,g1,g2⟩:=c;cases e2;exact ⟨b,xs,rfl,by rw [zf a];exact g1,g2⟩
  ·have get:∀ q (u:W),(ρ.set i (some (.d (.lst l))))[q]?=some (some u)->∃ u',ρ[q]?=some (some u'):=fun q u z=>by
    by_cases hq:q=i
    ·subst hq;exact ⟨w,e⟩
    ·rw [List.getElem?_set_ne (Ne.symm hq)] at z;exact ⟨u,z⟩
   obtain ⟨v1,f1⟩:=get j u e1
   obtain ⟨v2,f2⟩:=get q u' e2
   exact h.env.dis j q v1 v2 b hj hq a f1 f2
  ·by_cases hb':b=ad
   ·subst hb';exact ⟨_,zo,NP.lst,fun _ z=>by cases z⟩
   ·rw [zf hb'];exact h.env.al b hb
 refine ⟨hE,⟨h.frm.sub,h.frm.new,fun b o eb nn nc=>?_,h.frm.al,h.frm.cn,fun b z=>(by
  by_cases hb':b=ad
  ·subst hb';exact ⟨_,zo,NP.lst⟩
  ·rw [zf hb'];exact h.frm.cs b z)⟩,h.pn.upd hA,by rw [yp hA];exact h.prot,h.fix,fun j u b hj ej sj=>?_⟩
 ·have a:b≠ad:=fun q=>by
   subst q
   rcases h.mine i w b hi e s with z | z
   ·exact z o eb nn
   ·exact nc z
  rw [zf a]
  exact h.frm.st b o eb nn nc
 ·by_cases hj':j=i
  ·subst hj';exact h.mine j w b hj e sj
  ·rw [List.getElem?_set_ne (Ne.symm hj')] at ej;exact h.mine j u b hj ej sj
def zqr (i:Nat)(f:Ev->Mo W):Ms:=fun ρ n k=>(∃ l,ρ[i]?=some (some (.d (.lst l))))/\f ρ n fun w m=>∃ l d,ρ[i]?=some (some (.d (.lst l)))/\w = .d d/\l.length<lim/\k.nx (ρ.set i (some (.d (.lst (l++[d]))))) m
theorem zpJ {K:PySem.W.Frag}{te:TE}{i:Nat}(h:RE Pn M fr' te f)(hi:i∈M):RS Pn S M fr (znm (tBM K "list" ze4 (zk5 i) (zeg te znn))) (zqr i f):=⟨fun B A σ H ρ n k D a kk ⟨⟨l0,e0⟩,hf⟩=>by
 obtain ⟨v,s1,_,s3⟩:=a.env.val i _ e0
 obtain ⟨ad,rfl,hA,hb,_⟩:=s3 hi
 obtain ⟨a2,c,e2,g0,_⟩:=hb
 cases e2
 refine ⟨.ref ad,s1,.inl ⟨rfl,_,SqL.of g0⟩,?_⟩
 refine h.run A σ H ρ n _ _ a.env a.pn hf fun w m v H' ⟨l,d,e,ed,hz,r⟩ hv g _=>?_
 subst ed
 have a':=a.step g
 obtain ⟨v2,t1,_,t3⟩:=a'.env.val i _ e
 rw [s1] at t1
 cases t1
 obtain ⟨a3,e3,j,b,_⟩:=t3 hi
 cases e3
 obtain ⟨a4,xs,e4,g4,hl⟩:=b
 cases e4
 exact ⟨ad,xs,v,rfl,rfl,g4,zfz (by rw [hl.length];exact Nat.le_of_lt hz),kk.nx A σ _ _ m (a'.wr hi e s1 (hl.append (IsL.one hv.is))) r⟩⟩
theorem zkE (i:Nat){x:Str}{ap cp sp np:Pos}(he:JE X Pn M fr' e f)(hi:i∈M:=by decide)(hN:X.N[i]?=some x:=by rfl)(hv:Vis X.env.scope x:=by first | exact Or.inl rfl | exact Or.inr (Or.inl rfl) | exact Or.inr (Or.inr rfl))(hd:(x==("__debug__" : Str))=false:=by decide)
  (hcd:(x==("__classdict__" : Str))=false:=by decide) (hs1:starEach (e::[]) X.env=(false,eval e X.env)::starEach [] X.env:=by rfl) (hs:swapsWith (.Call (.Attribute (.Name x np) "append" ap) [e] [] cp) none sp.line X.env=pure false:=by rfl) (hbase:attributeBase (.Name x np) "append" X.env (eval (.Name x np) X.env)=eval (.Name x np) X.env:=by rfl) (hline:(ap.endLine==cp.line)=true:=by rfl)
  (hfew:((backTo cp (starEach [e] X.env)).all (fun x=>!x.1)&&(backToKw cp (keywordEach [] X.env)).all (fun x=>x.1.isSome)&&decide (([e]:List Expr).length+([]:List Keyword).length+(if ([]:List Keyword).isEmpty then 0 else 1)<30))=true:=by rfl) (hplain:(backTo cp (starEach [] X.env)).any (·.1)=false:=by rfl) :
  JS X Pn S M fr (.Expr (.Call (.Attribute (.Name x np) "append" ap) [e] [] cp) sp) (zqr i f):=by
 obtain ⟨te,q,r⟩:=he.ex
 exact ⟨_,ze2 (zpn (qv i hN hv hd hcd) (z8 q y8 hs1) hbase hfew hline hs1 hplain) hs,zpJ r hi⟩
def zoe (mg:W->Ev->(Ev->Prop)->Prop)(fb:Ms)(ρ:Ev)(k:Kt):List W->Nat->Prop:=fun l n1=>∃ I:Nat->Ev->Nat->Prop,I 0 ρ n1/\
 (∀ i w ρ' n',l[i]?=some w->I i ρ' n'->mg w ρ' fun ρ1=>fb ρ1 n' { k with nx:=I (i+1),ct:=I (i+1),bk:=k.nx })/\∀ ρ' n',I l.length ρ' n'->k.nx ρ' n'
@[reducible] def mFor (fi:Ev->Mo (List W)) (mg:W->Ev->(Ev->Prop)->Prop) (fb:Ms):Ms:=fun ρ n k=>fi ρ n (zoe mg fb ρ k)
theorem zpK {wi:TI}{g:TG}{tb:TS}{fi:Ev->Mo (List W)}{mg:W->Ev->(Ev->Prop)->Prop}{fb:Ms}(hi:RI Pn M false wi fi)(hg:RG (S++M) M g mg)(hb:RS Pn S M fr tb fb):RS Pn S M fr (zr2 wi g tb) (mFor fi mg fb):=⟨fun B A σ H ρ n k D a kk hf=>by
 refine hi.run A σ H ρ n _ _ a.env a.pn hf fun l m J H1 ⟨I,i0,it,ie⟩ iv g1=>?_
 have a1:=a.step g1
 have out:∀ {A':Addr->Prop} {σ':St} {H':Hp} {ρ':Ev} {n':Nat},At3 Pn { B with G0:=z7 A H1 } S M A' σ' H' ρ' n'->At3 Pn B S M A' σ' H' ρ' n':=fun {A' σ' H' ρ' n'} q=>⟨q.env,q.frm,q.pn,a1.prot.trans q.prot,q.fix,q.mine⟩
 refine ⟨fun i mm σ' H'=>mm=l.length - i/\i<=l.length/\∃ A' ρ' n',At3 Pn { B with G0:=z7 A H1 } S M A' σ' H' ρ' n'/\I i ρ' n',⟨l.length,by simp,Nat.zero_le _,A,ρ,m,⟨a1.env,a1.frm,a1.pn,zw.refl _,a1.fix,a1.mine⟩,i0⟩,?_⟩
 rintro i mm σ' H' ⟨rfl,d,A',ρ',n',a',hI⟩
 by_cases hlt:i<l.length
 ·right
  have b:l[i]?=some l[i]:=List.getElem?_eq_getElem hlt
  obtain ⟨go,yl⟩:=iv.one i l[i] A' H' b a'.prot (fun z=>by cases z) fun p hp=>a'.env.new hp
  refine ⟨go,fun σ2 H2=>∃ A' ρ' n',At3 Pn { B with G0:=z7 A H1 } S M A' σ2 H2 ρ' n'/\I (i+1) ρ' n',fun σ2 H2 h=>⟨l.length - (i+1),by lia,rfl,hlt,h⟩,fun x H2 hy=>?_⟩
  obtain ⟨S2,V2⟩:=yl x H2 hy
  have a2:=a'.step (Go.same a'.pn S2)
  refine hg.run A' σ' H2 ρ' x l[i] _ _ a2.env V2 (it i l[i] ρ' n' b hI) fun σ3 ρ3 r3 E3 f3=>?_
  refine hb.run { B with G0:=z7 A H1 } A' σ3 H2 ρ3 n' _ _ (EnvR.mineG a2 E3 f3) ⟨?_,?_,?_,kk.fc,?_⟩ r3
  ·exact fun A4 σ4 H4 ρ4 n4 a4 r4=>⟨A4,ρ4,n4,a4,r4⟩
  ·exact fun A4 σ4 H4 ρ4 n4 a4 r4=>kk.nx A4 σ4 H4 ρ4 n4 (out a4) r4
  ·exact fun A4 σ4 H4 ρ4 n4 a4 r4=>⟨A4,ρ4,n4,a4,r4⟩
  ·exact kk.rt
 ·left
  have c:i=l.length:=by lia
  subst c
  exact ⟨iv.stop A' H' a'.prot (fun z=>by cases z),kk.nx A' σ' H' ρ' n' (out a') (ie ρ' n' hI)⟩⟩
theorem x3 {tg iter:Expr}{body:List Stmt}{fi:Ev->Mo (List W)}{mg:W->Ev->(Ev->Prop)->Prop}{fb:Ms}(hp:PassesOwn (model X.prog X.w) X.A X.env X.xe)(hc:X.calm=true)(hi:JI X Pn M false tg iter fi)(hg:JG X (S++M) M tg mg)(hb:JSs X Pn S M fr body fb)(hs:∀ x,foldedSetIterable iter X.env x=pure x:=by intro _;rfl) :
  JS X Pn S M fr (.For tg iter body [] pos) (mFor fi mg fb):=by
 obtain ⟨ti,qi,ri⟩:=hi.ex
 obtain ⟨a,qg,rg⟩:=hg.ex
 obtain ⟨tb,qb,rb⟩:=hb.ex
 exact ⟨_,zkV hp hc qi qg qb hs,zpK ri rg rb⟩
def zaT (N:List Str)(ws:List W):Ev:=ws.map some++List.replicate (N.length - ws.length) none
theorem zcL.get {A:Addr->Prop}{H:Hp}:∀ {ws:List W} {vs:List V} {i:Nat} {w:W},zcL A H ws vs->ws[i]?=some w->∃ v,vs[i]?=some v/\Val A H w v
 | [],_,_,_,_,e=>by simp at e
 | x::ws,vs,0,w,⟨v,r,e1,h1,_⟩,e=>by
  subst e1
  have:x=w:=by simpa using e
  subst this
  exact ⟨v,rfl,h1⟩
 | x::ws,vs,i+1,w,⟨v,r,e1,_,h2⟩,e=>by
  subst e1
  obtain ⟨u,h3,h4⟩:=zcL.get (i:=i) h2 (by simpa using e)
  exact ⟨u,by simpa using h3,h4⟩
theorem zgT {A:Addr->Prop}{H:Hp}{N:List Str}{ws:List W}{vs:List V}(al:Al A H)(h:zcL A H ws vs)(hM:∀ i∈M,ws.length<=i):EnvR A M (L2.uc N vs) H (zaT N ws) where
 len:=by
  unfold L2.uc zaT
  rw [List.length_append,List.length_append,List.length_map,List.length_map,List.length_replicate,List.length_replicate,h.len]
 val:=fun i w e=>by
  unfold zaT at e
  have hi:i<ws.length:=by
   apply Classical.byContradiction
   intro z
   rw [List.getElem?_append_right (by rw [List.length_map];lia)] at e
   obtain ⟨_,q⟩:=List.getElem?_eq_some_iff.mp e
   rw [List.getElem_replicate] at q
   cases q
  rw [List.getElem?_append_left (by rw [List.length_map];exact hi),List.getElem?_map] at e
  obtain ⟨w',e1,e2⟩:=Option.map_eq_some_iff.mp e
  cases e2
  obtain ⟨v,h1,h2⟩:=h.get e1
  refine ⟨v,?_,fun _=>h2,fun z=>absurd (hM i z) (by lia)⟩
  unfold L2.uc
  have a:i<vs.length:=by rw [h.len];exact hi
  rw [List.getElem?_append_left (by rw [List.length_map];exact a),List.getElem?_map,h1]
  rfl
 dis:=fun i j w u ad hi hj b e1=>by
  unfold zaT at e1
  have:=hM i hi
  rw [List.getElem?_append_right (by rw [List.length_map];lia)] at e1
  obtain ⟨_,q⟩:=List.getElem?_eq_some_iff.mp e1
  rw [List.getElem_replicate] at q
  cases q
 al:=al
theorem zoF {P:Program}{w:World}{K:PySem.W.Frag}{mg:Str->Option Value}{base:Heap}{qual:Str}{st:Stmt}{f:Addr}{fd:FuncData}{N ps:List Str}{k m:Nat}{F:Option zr->List W->Mo W}(M:List Nat)(okq:(∀ vs H Q E,spV m fr F vs H Q E->vs.length=ps.length)->(∀ (b:Value) (A:Around) (outer:List Env) (s:Shared) (H:Hp) (vs:List V) (Q:VK) (E:XK),Room k (A.deeper (PyProof.Rows.envOfC qual (zc st) s.heap.objs.size f b))->spV m fr F vs H Q E->
   ∃ t,QSs (zdz CX0 P w K mg base N qual (zc st) f b A outer s H E).nox (zp st) t/\t { nx:=fun _ H'=>Q .non H',rt:=Q } (L2.uc N vs) H)->FnOk P w K mg base CX0 (k+1) f fd ps (spV m fr F)) (hm:m=ps.length) (hM:∀ i∈M,m<=i)
  (hbody:∀ (b:Value) (A:Around) (outer:List Env) (s:Shared) (H:Hp) (E:XK) (Pn:Option zr),Room k (A.deeper (PyProof.Rows.envOfC qual (zc st) s.heap.objs.size f b))->
   ∃ fs,JSs (zdz CX0 P w K mg base N qual (zc st) f b A outer s H E).nox Pn [] M fr (zp st) fs/\∀ ws n R,ws.length=m->F Pn ws n R->fs (zaT N ws) n { nx:=fun _ n'=>fr=false/\R (.d .non) n',rt:=R }):FnOk P w K mg base CX0 (k+1) f fd ps (spV m fr F):=by
 refine okq (fun vs H Q E h=>?_) (fun b A outer s H vs Q E hr h=>?_)
 ·obtain ⟨Pn,A,ws,n,R,_,hv,hl,_⟩:=h
  rw [hv.len,hl,hm]
 ·obtain ⟨Pn,A3,ws,n,R,al,hv,hl,hp,hF,q⟩:=h
  obtain ⟨fs,⟨t,qs,rs⟩,g⟩:=hbody b A outer s H E Pn hr
  refine ⟨t,qs,rs.run { A0:=A3,H0:=H,G0:=z7 A3 H,σ0:=L2.uc N vs } A3 (L2.uc N vs) H (zaT N ws) n _ _ ⟨zgT al hv (fun i hi=>by rw [hl];exact hM i hi),⟨fun _ z=>z,fun _ z=>.inl z,.of (zw.refl _),al,fun _ z=>z.elim,fun _ z=>z.elim⟩,hp,zw.refl _,fun i hi=>rfl,fun i w a hi e=>?_⟩ ⟨?_,?_,?_,fun _ _ z=>z,?_⟩ (g ws n R hl hF)⟩
  ·exact absurd e (by
    unfold zaT
    have:=hM i hi
    rw [List.getElem?_append_right (by rw [List.length_map];lia)]
    intro z
    obtain ⟨_,q⟩:=List.getElem?_eq_some_iff.mp z
    rw [List.getElem_replicate] at q
    cases q)
  ·intro A' σ' H' ρ' n' a' ⟨c,r⟩
   exact q _ n' .non H' r (Val.of (show Is _ .non .non from rfl)) ⟨a'.frm.st.stay,a'.pn.less a'.frm.sub⟩ fun z=>by rw [c] at z;cases z
  ·intro _ _ _ _ _ _ z;exact z.elim
  ·intro _ _ _ _ _ _ z;exact z.elim
  ·intro w n' v H' j st pn c r
   exact q w n' v H' r j ⟨st.stay,pn⟩ c
end
open PySem.Spec
section
variable {X:Cx}{Pn:Option zr}{M S:List Nat}{fr fr':Bool}{e a b c:Expr}{es:List Expr}{f fa fb fc:Ev->Mo W}{pos p p2:Pos}
def zkK (B:Dt->Bool)(f:Ev->Mo W):Ev->Mo W:=fun ρ n Q=>f ρ n fun w m=>∃ d,w = .d d/\Q (.d (.bl (B d))) m
theorem zij {K:PySem.W.Frag}{T:String}{B:Dt->Bool}{te:TE}(hk:∀ d:Dt,PySem.W.kitOne K (.type d.ty) (.type T)=some (B d))(h:RB Pn M te f):RE Pn M false (tCB (fun xs H Q=>∃ x T t b,xs=[x,.ty T]/\TyOf K H x t/\PySem.W.kitOne K t (.type T)=some b/\Q (.bl b) H) (zeg te (zeg (tC (.ty T)) znn))) (zkK B f):=⟨fun A σ H ρ n Q R E P hf k=>by
 refine h.run A σ H ρ n _ _ E P hf fun w m v H' ⟨d,e,r⟩ bb g=>?_
 subst e
 exact ⟨v,T,_,_,rfl,bb.is.ty,hk d,k _ m _ H' r (Val.of rfl) g fun z=>by cases z⟩⟩
@[reducible] def isStr:Dt->Bool
 | .str _=>true
 | _=>false
@[reducible] def isDct:Dt->Bool
 | .dct=>true
 | _=>false
theorem zjp {T:String}{x:Str}{B:Dt->Bool}(hk:∀ d:Dt,PySem.W.kitOne X.K (.type d.ty) (.type T)=some (B d))(hv:bootBuiltins x=some (.type T))(hg2:Gl X x)(hn:x ≠ "__name__")(hd:(x==("__debug__" : Str))=false)(hg:Gl X "isinstance")(hm:X.mg "isinstance" = none)(hm2:X.mg x=none)(h:JB X Pn M e f)
  (hs1:starEach (e::[.Name x p2]) X.env=(false,eval e X.env)::starEach [.Name x p2] X.env) (hs2:starEach (.Name x p2::[]) X.env=(false,eval (.Name x p2) X.env)::starEach [] X.env) (hpl:(backTo pos (starEach [.Name x p2] X.env)).any (·.1)=false):JE X Pn M false (.Call (.Name "isinstance" p) [e,.Name x p2] [] pos) (zkK B f):=by
 obtain ⟨te,q,r⟩:=h.ex
 exact ⟨_,xj zgE hg hm PyProof.Rows.boot_isinstance (z8 q (z8 (zmJ (v:=.ty T) hg2 hm2 hv rfl hn hd) y8 hs2) hs1) (by decide) (by decide) hs1 hpl,zij hk r⟩
theorem zcc (hg:Gl X "isinstance")(hm:X.mg "isinstance" = none)(hm2:X.mg "tuple" = none)(h:JB X Pn M e f)(hg2:Gl X "tuple" := by rfl)(hs1:starEach (e::[.Name "tuple" p2]) X.env=(false,eval e X.env)::starEach [.Name "tuple" p2] X.env:=by rfl)(hs2:starEach (.Name "tuple" p2::[]) X.env=(false,eval (.Name "tuple" p2) X.env)::starEach [] X.env:=by rfl)(hpl:(backTo pos (starEach [.Name "tuple" p2] X.env)).any (·.1)=false:=by rfl) :
  JE X Pn M false (.Call (.Name "isinstance" p) [e,.Name "tuple" p2] [] pos) (zkK Dt.isTup f):=zjp (zlV _) PyProof.Rows.boot_tuple hg2 (by decide) (by decide) hg hm hm2 h hs1 hs2 hpl
theorem zc4 (hg:Gl X "isinstance")(hm:X.mg "isinstance" = none)(hm2:X.mg "list" = none)(h:JB X Pn M e f)(hg2:Gl X "list" := by rfl)(hs1:starEach (e::[.Name "list" p2]) X.env=(false,eval e X.env)::starEach [.Name "list" p2] X.env:=by rfl)(hs2:starEach (.Name "list" p2::[]) X.env=(false,eval (.Name "list" p2) X.env)::starEach [] X.env:=by rfl)(hpl:(backTo pos (starEach [.Name "list" p2] X.env)).any (·.1)=false:=by rfl) :
  JE X Pn M false (.Call (.Name "isinstance" p) [e,.Name "list" p2] [] pos) (zkK Dt.isLst f):=zjp (zlU _) PyProof.Rows.boot_list hg2 (by decide) (by decide) hg hm hm2 h hs1 hs2 hpl
theorem zdW (hg:Gl X "isinstance")(hm:X.mg "isinstance" = none)(hm2:X.mg "int" = none)(h:JB X Pn M e f)(hg2:Gl X "int" := by rfl)(hs1:starEach (e::[.Name "int" p2]) X.env=(false,eval e X.env)::starEach [.Name "int" p2] X.env:=by rfl)(hs2:starEach (.Name "int" p2::[]) X.env=(false,eval (.Name "int" p2) X.env)::starEach [] X.env:=by rfl)(hpl:(backTo pos (starEach [.Name "int" p2] X.env)).any (·.1)=false:=by rfl) :
  JE X Pn M false (.Call (.Name "isinstance" p) [e,.Name "int" p2] [] pos) (zkK Dt.isInt f):=zjp (zlT _) PyProof.Rows.boot_int hg2 (by decide) (by decide) hg hm hm2 h hs1 hs2 hpl
theorem zc3 (hg:Gl X "isinstance")(hm:X.mg "isinstance" = none)(hm2:X.mg "bool" = none)(h:JB X Pn M e f)(hg2:Gl X "bool" := by rfl)(hs1:starEach (e::[.Name "bool" p2]) X.env=(false,eval e X.env)::starEach [.Name "bool" p2] X.env:=by rfl)(hs2:starEach (.Name "bool" p2::[]) X.env=(false,eval (.Name "bool" p2) X.env)::starEach [] X.env:=by rfl)(hpl:(backTo pos (starEach [.Name "bool" p2] X.env)).any (·.1)=false:=by rfl) :
  JE X Pn M false (.Call (.Name "isinstance" p) [e,.Name "bool" p2] [] pos) (zkK Dt.isBl f):=zjp (zow _) PyProof.Rows.boot_bool hg2 (by decide) (by decide) hg hm hm2 h hs1 hs2 hpl
def zim (n:Nat):List Dt:=(List.range n).map fun i:Nat=>Dt.int i
theorem zhd {G:Hp}(n:Nat):IsL G (zim n) ((List.range n).map fun i:Nat=>V.int i):=by
 have e1:zim n=(((List.range n).map fun i:Nat=>(i:Int))).map Dt.int:=by unfold zim;rw [List.map_map];rfl
 have e2:((List.range n).map fun i:Nat=>V.int i)=(((List.range n).map fun i:Nat=>(i:Int))).map V.int:=by rw [List.map_map];rfl
 rw [e1,e2]
 exact IsL.ints
def zda (fa:Ev->Mo (List W)):Ev->Mo W:=fun ρ n Q=>fa ρ n fun ws m=>∃ j:Nat,ws=[.d (.int (j:Int))]/\j<=1000/\Q (.d (.lst (zim j))) m
theorem zbM {q:Pos}{pr:Pos}{fs:Ev->Mo (List W)}(hm:X.mg "list" = none)(hm2:X.mg "range" = none)(ha:JAB X Pn M [a] fs)(hc:X.calm=true:=by rfl)(hg:Gl X "list" := by rfl)(hg2:Gl X "range" := by rfl)(hs:starEach (a::[]) X.env=(false,eval a X.env)::starEach [] X.env:=by rfl)(hs2:starEach (.Call (.Name "range" pr) [a] [] q::[]) X.env=(false,eval (.Call (.Name "range" pr) [a] [] q) X.env)::starEach [] X.env:=by rfl)
  (hp1:(backTo q (starEach [] X.env)).any (·.1)=false:=by rfl) (hp2:(backTo pos (starEach [] X.env)).any (·.1)=false:=by rfl):JE X Pn M true (.Call (.Name "list" p) [.Call (.Name "range" pr) [a] [] q] [] pos) (zda fs):=by
 obtain ⟨ta,qa,ra⟩:=ha.ex
 refine ⟨_,zb2 (zew hc) hg hm PyProof.Rows.boot_list (z8 (zb2 zi0 hg2 hm2 PyProof.Rows.boot_range qa (by decide) (by decide) hs hp1) y8 hs2) (by decide) (by decide) hs2 hp2,⟨fun A σ H ρ n Q R E P hf k=>?_⟩⟩
 refine ra.run A σ H ρ n _ _ E P hf fun ws m vs H1 ⟨j,e,hj,r⟩ bb g=>?_
 subst e
 obtain ⟨v,rfl,b1⟩:=zbl bb
 obtain rfl:=yR b1
 refine ⟨_,rfl,fun p1 H2 np g2 S2=>⟨p1,j,rfl,g2,hj,fun p3 H3 c g3 S3=>?_⟩⟩
 have b:=g.trans (Go.same g.pn S2)
 exact k _ m _ H3 r (uU (H:=H2) (zhd j) (zw.same S3) ((E.stay b.st).new c) g3) (b.trans (Go.same b.pn S3)) fun _=>(uE (H:=H2) (zhd j) S3 c g3).back b.st
@[reducible] def truD:W->Option Bool
 | .d (.lst l)=>some (!l.isEmpty)
 | .d (.tup l)=>some (!l.isEmpty)
 | .d (.bl b)=>some b
 | .d (.int i)=>some (i != 0)
 | .d .non=>some false
 | _=>none
def zrx (f:Ev->Mo W):Ev->Mo Bool:=fun ρ n Q=>f ρ n fun w m=>∃ b,truD w=some b/\Q b m
theorem zdN {G:Hp}{l:List Dt}{xs:List V}(h:IsL G l xs):xs.isEmpty=l.isEmpty:=by
 have:=h.length
 cases l <;> cases xs <;> simp_all
theorem zjs (h:JB X Pn M e f)(he:∀ whole,isTrue e X.env whole=(do let v <- whole;standAt e.pos;holding [v] (truthy v)):=by intro _;rfl):JT X Pn M e (zrx f):=by
 obtain ⟨te,q,r⟩:=h.ex
 refine ⟨_,zj6 q he,⟨fun A σ H ρ n Q R E P hf k=>?_⟩⟩
 refine r.run A σ H ρ n _ _ E P hf fun w m v H1 ⟨b,e,r⟩ bb g=>⟨b,?_,k b m H1 r g⟩
 cases w with
 | d x=>
  cases x with
  | lst l=>cases e;obtain ⟨ad,xs,rfl,h1,h2⟩:=xq bb;exact .inl ⟨xs,.of h1,by rw [zdN h2]⟩
  | tup l=>cases e;obtain ⟨ad,xs,rfl,h1,h2⟩:=uf bb;exact .inr (.inl ⟨xs,.of h1,by rw [zdN h2]⟩)
  | bl b=>cases e;obtain rfl:=zkp bb;rfl
  | int b=>cases e;obtain rfl:=yR bb;rfl
  | non=>cases e;have:v = .non:=bb;subst this;rfl
  | str _=>cases e
  | dct=>cases e
 | _=>cases e
theorem At3.own {B:Bs}{A:Addr->Prop}{σ:St}{H:Hp}{ρ:Ev}{n:Nat}(h:At3 Pn B S M A σ H ρ n){i:Nat}{l:List Dt}(hi:i∈M)(e:ρ[i]?=some (some (.d (.lst l)))):∃ ad xs,σ[i]?=some (some (.ref ad))/\A ad/\H ad=some (.lst xs)/\IsL (z7 A H) l xs:=by
 obtain ⟨v,s1,_,s3⟩:=h.env.val i _ e
 obtain ⟨ad,rfl,hA,hb,_⟩:=s3 hi
 obtain ⟨a2,xs,e2,g0,hl⟩:=hb
 cases e2
 exact ⟨ad,xs,s1,hA,g0,hl⟩
theorem zhe {G:Hp}{d:Dt}{v:V}(hd:Is G d v):∀ {ds:List Dt} {xs:List V} (k:Nat),IsL G ds xs->IsL G (ds.set k d) (xs.set k v)
 | [],_,_,h=>by cases h;rfl
 | x::ds,xs,0,⟨y,r,e,h1,h2⟩=>by subst e;exact ⟨v,r,rfl,hd,h2⟩
 | x::ds,xs,k+1,⟨y,r,e,h1,h2⟩=>by subst e;exact ⟨y,_,rfl,h1,zhe hd k h2⟩
def zru (i:Nat)(fk f:Ev->Mo W):Ms:=fun ρ n k=>(∃ l,ρ[i]?=some (some (.d (.lst l))))/\f ρ n fun w m=>fk ρ m fun y m2=>∃ l d j,ρ[i]?=some (some (.d (.lst l)))/\w = .d d/\y = .d (.int j)/\0<=j/\j<l.length/\k.nx (ρ.set i (some (.d (.lst (l.set j.toNat d))))) m2
theorem zkH (i:Nat){x:Str}{np sp:Pos}(hk:JB X Pn M c fc)(he:JE X Pn M fr' e f)(hi:i∈M:=by decide)(hN:X.N[i]?=some x:=by rfl)(hv:Vis X.env.scope x:=by first | exact Or.inl rfl | exact Or.inr (Or.inl rfl) | exact Or.inr (Or.inr rfl))(hd:(x==("__debug__" : Str))=false:=by decide)
  (hcd:(x==("__classdict__" : Str))=false:=by decide) (hs:swapsWithSole [.Subscript (.Name x np) c p] e sp.line X.env=pure false:=by rfl) (hw:swappedStores [.Subscript (.Name x np) c p] e X.env=pure none:=by rfl)
  (h1:(assignEach [.Subscript (.Name x np) c p] X.env).map (·.2)=[assign (.Subscript (.Name x np) c p) X.env]:=by rfl) (ha:∀ v,assign (.Subscript (.Name x np) c p) X.env v=(do
   let ov <- holding [v] (eval (.Name x np) X.env)
   let iv <- holding [v,ov] (eval c X.env)
   standAt p
   holding [v,ov,iv] (setItem ov iv v)
   release [v,ov,iv] []):=by intro _;rfl) :
  JS X Pn S M fr (.Assign [.Subscript (.Name x np) c p] e sp) (zru i fc f):=by
 obtain ⟨te,q,r⟩:=he.ex
 obtain ⟨tk,qk,rk⟩:=hk.ex
 refine ⟨_,zps q (zmP (qv i hN hv hd hcd) qk ha) hs hw h1,⟨fun B A σ H ρ n k D a kk ⟨⟨l0,e0⟩,hf⟩=>?_⟩⟩
 obtain ⟨ad,xs0,s0,hA,_⟩:=a.own hi e0
 refine r.run A σ H ρ n _ _ a.env a.pn hf fun w m v H1 r1 hv1 g1 _=>⟨.ref ad,s0,?_⟩
 have a1:=a.step g1
 refine rk.run A σ H1 ρ m _ _ a1.env a1.pn r1 fun y m2 v2 H2 ⟨l,d,j,e,ed,ey,j0,j1,r2⟩ b2 g2=>?_
 subst ed ey
 have a2:=a1.step g2
 obtain ⟨ad2,xs,s2,_,g,hl⟩:=a2.own hi e
 rw [s0] at s2
 cases s2
 exact ⟨ad,xs,j,rfl,yR b2,g,j0,by rw [hl.length];exact j1,kk.nx A σ _ _ m2 (a2.wr hi e s0 (zhe (hv1.stay g2.st).is _ hl)) r2⟩
end
open PySem.Spec
section
variable {A:Addr->Prop}{H:Hp}
theorem zqe {w:W}{vs:List V}(h:zcL A H [w] vs):∃ v,vs=[v]/\Val A H w v:=by
 obtain ⟨v,r,e,h1,h2⟩:=h
 cases h2
 exact ⟨v,e,h1⟩
theorem zqf {w u:W}{vs:List V}(h:zcL A H [w,u] vs):∃ v y,vs=[v,y]/\Val A H w v/\Val A H u y:=by
 obtain ⟨v,r,e,h1,h2⟩:=h
 obtain ⟨y,rfl,h3⟩:=zqe h2
 exact ⟨v,y,e,h1,h3⟩
theorem zqg {st:List Int}{v:V}(h:Val A H (.d (stD st)) v):∃ a,v = .ref a/\H a=some (.tup (st.map V.int)):=by
 obtain ⟨a,xs,e,h1,h2⟩:=h
 obtain rfl:=h2.of_ints
 exact ⟨a,e,zq _ _ h1⟩
end
structure RoomOk (rm:List Int):Prop where
 ne:rm≠[]
 few:rm.length<=8
 box:∀ r∈rm,2<=r/\r<=4
theorem RoomOk.pos {rm:List Int}(h:RoomOk rm):1<=rm.length:=by
 cases rm with
 | nil=>exact absurd rfl h.ne
 | cons _ _=>simp
abbrev FV:=Option zr->List W->Mo W
def zqK (k:Nat)(fr:Bool)(F:FV)(sp:Sp):Prop:=∀ vs H Q E,spV k fr F vs H Q E->sp vs H Q E
theorem FnOk.lift {P:Program}{w:World}{K:PySem.W.Frag}{mg:Str->Option Value}{base:Heap}{CX:CXT}{j k:Nat}{f:Addr}{fd:FuncData}{ps:List Str}{sp:Sp}{fr:Bool}{F:FV}(h:FnOk P w K mg base CX j f fd ps sp)(l:zqK k fr F sp):FnOk P w K mg base CX j f fd ps (spV k fr F):=h.imp l
@[reducible] def xM (K:PySem.W.Frag) (Pn:Option zr) (p:Addr):Prop:=∃ c ns,Pn=some (p,c,ns)/\KL K c ns
def zgn (K:PySem.W.Frag):FV:=fun Pn ws n R=>∃ p zK,xM K Pn p/\ws=[.pen p,.d (.int zK)]/\n<=1000000/\1<=zK/\zK<1073741824/\∀ r,0<=r->r<zK->R (.d (.int r)) (n+1)
theorem zhw {K:PySem.W.Frag}:zqK 2 false (zgn K) (zk4 K):=by
 rintro vs H Q E ⟨Pn,A,ws,n,R,al,hv,hl,hp,⟨p,zK,⟨c,ns,rfl,hK⟩,rfl,h1,h2,h3,h4⟩,q⟩
 obtain ⟨v,y,rfl,b1,b2⟩:=zqf hv
 have e1:v = .ref p:=b1
 have e2:y = .int zK:=b2
 subst e1 e2
 exact ⟨p,c,ns,n,zK,rfl,hK,hp.1,h1,h2,h3,fun r H' r0 r1 P' S'=>q _ (n+1) _ H' (h4 r r0 r1) (Val.of rfl) ⟨S',P',hp.2⟩ fun z=>by cases z⟩
@[reducible] def zqi:FV:=fun Pn ws n R=>∃ p c ns most,Pn=some (p,c,ns)/\ws=[.pen p,.d (.int most)]/\n+20<=1000000/\4<=most/\most<=256/\∀ rm,RoomOk rm->yb rm<=most->R (.d (stD rm)) (n+10)
@[reducible] def zkm:FV:=fun Pn ws n R=>∃ p c ns rm,Pn=some (p,c,ns)/\ws=[.pen p,.d (stD rm)]/\n+20<=1000000/\RoomOk rm/\∀ st,st.length=rm.length->(∀ b:Int,0<=b->b<rm.length->0<=zK st b/\zK st b<zK rm b)->R (.d (stD st)) (n+10)
@[reducible] def zcW (g:List (Int×Int)):Dt:=.tup (g.map u9)
@[reducible] def znM:FV:=fun Pn ws n R=>∃ p c ns rm apart,Pn=some (p,c,ns)/\ws=[.pen p,.d (stD rm),.d (.int apart)]/\n+40<=1000000/\RoomOk rm/\∀ g,Giv rm g->(∀ q∈g,q.1≠apart)->g.length<=8->R (.d (zcW g)) (n+30)
@[reducible] def zqJ:FV:=fun _ ws n R=>∃ d,ws=[.d d]/\R (.d (.bl d.isWhole)) n
@[reducible] def zqI:FV:=fun _ ws n R=>∃ a b,ws=[.d (.bl a),.d (.bl b)]/\R (.d (.bl (a==b))) n
@[reducible] def F_prod:FV:=fun _ ws n R=>∃ ns:List Int,ws=[.d (stD ns)]/\(∀ n∈ns,2<=n/\n<=4)/\R (.d (.int (yb ns))) n
@[reducible] def zqH:FV:=fun _ ws n R=>∃ st g,ws=[.d (stD st),.d (zcW g)]/\(∀ q∈g,0<=q.1/\q.1<st.length)/\R (.d (.bl (yL st g))) n
@[reducible] def uA (sts:List (List Int)):Dt:=.lst (sts.map stD)
theorem znj {A:Addr->Prop}{H H':Hp}{a:Addr}{ys:List V}{sts:List (List Int)}(al:Al A H)(s:xB H H')(n:H a=none)(h:H' a=some (.lst ys))(hl:IsL H' (sts.map stD) ys):Val A H' (.d (uA sts)) (.ref a)/\FrV A H H' (.d (uA sts)) (.ref a):=by
 have c:=al.stay (zw.same s)
 have f:=xu c.noT (xi sts) hl
 refine ⟨Val.of ⟨a,ys,rfl,zF (al.new n) h,f⟩,a,rfl,.of n,a,ys,rfl,h,xu (fun b xs z e=>?_) (xi sts) hl⟩
 rcases z with z | z
 ·exact c.noT b xs z e
 ·subst z;rw [h] at e;cases e
@[reducible] def F_all:FV:=fun _ ws n R=>∃ rm,ws=[.d (stD rm)]/\RoomOk rm/\yb rm<=256/\R (.d (uA (ud (rm.map zE)))) n
@[reducible] def lsD (c:List Int):Dt:=.lst (c.map .int)
@[reducible] def zcm:FV:=fun _ ws n R=>∃ cs:List (List Int),ws=[.d (.lst (cs.map lsD))]/\cs.length<=8/\(∀ c∈cs,c.length<=4)/\R (.d (uA (ud cs))) n
theorem zjw {G H:Hp}(s:xB G H):∀ {cs:List (List Int)} {xs:List V},IsL G (cs.map lsD) xs->znN H xs cs:=fun {cs xs} h=>by
 refine ⟨by rw [h.length,List.length_map],fun i c hc=>?_⟩
 obtain ⟨v,h1,h2⟩:=h.getD (i:=i) (d:=lsD c) (by rw [List.getElem?_map,hc];rfl)
 obtain ⟨a,ys,rfl,h3,h4⟩:=h2
 obtain rfl:=h4.of_ints
 exact ⟨a,h1,s _ _ h3⟩
theorem zc7 {K:PySem.W.Frag}:zqK 1 true zcm (zcF K):=by
 rintro vs H Q E ⟨Pn,A,ws,n,R,al,hv,hl,hp,⟨cs,rfl,h1,h2,h4⟩,q⟩
 obtain ⟨v,rfl,b1⟩:=zqe hv
 obtain ⟨a,xs,rfl,ha,hx⟩:=b1
 refine ⟨a,xs,cs,rfl,zq _ _ ha,zjw zq hx,h1,h2,fun a ys H' na b c S=>?_⟩
 obtain ⟨z1,z2⟩:=znj al S na b c
 exact q _ n _ H' h4 z1 (Go.same hp S) fun _=>z2
theorem zrA {P:Program}{w:World}{K:PySem.W.Frag}{mg:Str->Option Value}{base:Heap}{x qual:Str}{st:Stmt}{f:Addr}{fd:FuncData}{N ps:List Str}{k r:Nat}(M:List Nat)(Fu:Fun K x qual st f fd)(S:FnScope N ps (zc st))(hps:ps.length=1)(hN:N.length=r+2)(hM:∀ i∈M,2<=i)
  (hbody:∀ (g:Value) (A:Around) (outer:List Env) (s:Shared) (H:Hp) (E:XK) (Pn:Option zr),Room k (A.deeper (PyProof.Rows.envOfC qual (zc st) s.heap.objs.size f g))->
   ∃ s1 z6 fs,zp st=s1::z6/\QS (zdz CX0 P w K mg base N qual (zc st) f g A outer s H E).nox s1 (zfa (zef (zkf K) [] E0 (zeg (zk5 0) znn)) (zao 1))/\
    JSs (zdz CX0 P w K mg base N qual (zc st) f g A outer s H E).nox Pn [] M false z6 fs/\∀ p c ns,Pn=some (p,c,ns)->KL K c ns->fs (none::some (.pen p)::List.replicate r none) 0 { nx:=fun _ _=>False,rt:=fun w _=>w = .d (.bl true) }):FnOk P w K mg base CX0 (k+1) f fd ps (ziv K):=by
 refine Fun.okQ Fu S (fun vs H Q E h=>?_) (fun g A outer s H vs Q E hr h=>?_)
 ·obtain ⟨a,ns,rfl,_⟩:=h
  exact hps.symm
 ·obtain ⟨a,ns,rfl,hS,hl,q⟩:=h
  have ctx:=fun (Pn:Option zr)=>hbody g A outer s H E Pn hr
  have o:L2.uc N [.ref a]=some (.ref a)::none::List.replicate r none:=by
   unfold L2.uc
   rw [hN]
   rfl
  have hd:∃ s1 z6,zp st=s1::z6:=let ⟨s1,z6,_,e,_⟩:=ctx none;⟨s1,z6,e⟩
  obtain ⟨s1,z6,e0⟩:=hd
  rw [e0]
  have c2:∀ Pn,∃ fs,JSs (zdz CX0 P w K mg base N qual (zc st) f g A outer s H E).nox Pn [] M false z6 fs/\∀ p c ns,Pn=some (p,c,ns)->KL K c ns->fs (none::some (.pen p)::List.replicate r none) 0 { nx:=fun _ _=>False,rt:=fun w _=>w = .d (.bl true) }:=fun Pn=>by
   obtain ⟨t,m,fs,e,_,h1,h2⟩:=ctx Pn
   rw [e0] at e
   cases e
   exact ⟨fs,h1,h2⟩
  have q1:QS (zdz CX0 P w K mg base N qual (zc st) f g A outer s H E).nox s1 (zfa (zef (zkf K) [] E0 (zeg (zk5 0) znn)) (zao 1)):=by
   obtain ⟨t,m,fs,e,h0,_⟩:=ctx none
   rw [e0] at e
   cases e
   exact h0
  refine ⟨_,z9 q1 (u:=fun D σ H=>∃ Pn,(c2 Pn).choose_spec.1.ex.choose D σ H) ⟨fun pins s' σ H D I ⟨Pn,z⟩=>(c2 Pn).choose_spec.1.ex.choose_spec.1.run pins s' σ H D I z⟩,?_⟩
  refine ⟨.ref a,by rw [o];rfl,a,ns,rfl,hS,hl,fun p c ns H1 y P1 S1=>⟨some (p,c,ns),?_⟩⟩
  have hs:=(c2 (some (p,c,ns))).choose_spec.2 p c ns rfl y
  have e1:(L2.uc N [.ref a]).set 1 (some (.ref p))=some (.ref a)::some (.ref p)::List.replicate r none:=by rw [o];rfl
  rw [e1]
  have l:∀ i (u:W),(none::some (.pen p)::List.replicate r none:Ev)[i]?=some (some u)->i=1/\u = .pen p:=fun i u e=>by
   match i,e with
   | 0,e=>simp at e
   | 1,e=>exact ⟨rfl,by simpa using e.symm⟩
   | i+2,e=>
    simp only [List.getElem?_cons_succ] at e
    obtain ⟨_,q⟩:=List.getElem?_eq_some_iff.mp e
    rw [List.getElem_replicate] at q
    cases q
  refine (c2 (some (p,c,ns))).choose_spec.1.ex.choose_spec.2.run { A0:=fun _=>False,H0:=H1,G0:=z7 (fun _=>False) H1,σ0:=[] } (fun _=>False) _ H1 _ 0 _ _ ⟨⟨?_,?_,?_,fun _ z=>z.elim⟩,⟨fun _ z=>z,fun _ z=>z.elim,.of (zw.refl _),fun _ z=>z.elim,fun _ z=>z.elim,fun _ z=>z.elim⟩,⟨P1,fun _ _ z=>z,fun z=>z⟩,zw.refl _,fun i hi=>by simp at hi,?_⟩ ⟨?_,?_,?_,(fun z=>by cases z),?_⟩ hs
  ·simp
  ·intro i u e
   obtain ⟨rfl,rfl⟩:=l i u e
   exact ⟨.ref p,rfl,fun _=>rfl,fun z=>absurd (hM 1 z) (by lia)⟩
  ·intro i j u u' b hi hj B e1
   obtain ⟨rfl,rfl⟩:=l i u e1
   exact absurd (hM 1 hi) (by lia)
  ·intro i u b hi e
   obtain ⟨rfl,rfl⟩:=l i u e
   exact absurd (hM 1 hi) (by lia)
  ·intro _ _ _ _ _ _ z;exact z.elim
  ·intro _ _ _ _ _ _ z;exact z.elim
  ·intro _ _ _ _ _ _ z;exact z.elim
  ·intro w n' v H' hv st pn _ r
   have r':w = .d (.bl true):=r
   subst r'
   have:v = .bl true:=hv
   subst this
   exact q H'
open PySem.Spec
theorem zgB {α:Type}{l:List W}{ρ0:Ev}{n:Nat}{mg:W->Ev->(Ev->Prop)->Prop}{ft:Ev->Mo Bool}{fe:Ev->Mo W}{Q:W->Nat->Prop}(xs:List α)(toW:α->W)(hl:l=xs.map toW)(J:Ev->Prop)(P:α->Bool)(E:α->Dt)(hlim:xs.length<=lim)(j0:J ρ0)
  (h:∀ a∈xs,∀ ρ',J ρ'->∀ C:Ev->Nat->Option Dt->Prop,(∀ ρ1,J ρ1->C ρ1 n (if P a then some (E a) else none))->mg (toW a) ρ' fun ρ1=>ft ρ1 n fun b n2=>if b=true then fe ρ1 n2 fun x n3=>∃ d,x = .d d/\C ρ1 n3 (some d) else C ρ1 n2 none)
  (fin:Q (.d (.lst ((xs.filter P).map E))) n):zcS mg ft fe ρ0 Q l n:=by
 subst hl
 refine ⟨by rw [List.length_map];exact hlim,fun i ρ' n' acc=>J ρ'/\n'=n/\acc=((xs.take i).filter P).map E,⟨j0,rfl,by simp⟩,?_,?_⟩
 ·rintro i w ρ' n' acc hw ⟨hj,rfl,rfl⟩
  rw [List.getElem?_map] at hw
  obtain ⟨a,ha,rfl⟩:=Option.map_eq_some_iff.mp hw
  have:=h a (List.mem_of_getElem? ha) ρ' hj (fun ρ1 n3 o=>match o with
   | some d=>J ρ1/\n3=n'/\((xs.take i).filter P).map E++[d]=((xs.take (i+1)).filter P).map E
   | none=>J ρ1/\n3=n'/\((xs.take i).filter P).map E=((xs.take (i+1)).filter P).map E) (fun ρ1 c=>by
    rw [zn ha,List.filter_append,List.map_append]
    by_cases hp:P a=true
    ·rw [if_pos hp]
     exact ⟨c,rfl,by simp [hp]⟩
    ·rw [if_neg hp]
     exact ⟨c,rfl,by simp [hp]⟩)
  exact this
 ·rintro ρ' n' acc ⟨_,rfl,rfl⟩
  rw [List.length_map,List.take_length]
  exact fin
theorem ziX {α:Type}{l:List W}{ρ0:Ev}{n:Nat}{mg:W->Ev->(Ev->Prop)->Prop}{fe:Ev->Mo W}{Q:W->Nat->Prop}(xs:List α)(toW:α->W)(hl:l=xs.map toW)(J:Ev->Prop)(E:α->Dt)(hlim:xs.length<=lim)(j0:J ρ0)
  (h:∀ a∈xs,∀ ρ',J ρ'->∀ C:Ev->Nat->Dt->Prop,(∀ ρ1,J ρ1->C ρ1 n (E a))->mg (toW a) ρ' fun ρ1=>fe ρ1 n fun x n3=>∃ d,x = .d d/\C ρ1 n3 d)
  (fin:Q (.d (.lst (xs.map E))) n):zcS mg zqw fe ρ0 Q l n:=by
 subst hl
 refine ⟨by rw [List.length_map];exact hlim,fun i ρ' n' acc=>J ρ'/\n'=n/\acc=(xs.take i).map E,⟨j0,rfl,by simp⟩,?_,?_⟩
 ·rintro i w ρ' n' acc hw ⟨hj,rfl,rfl⟩
  rw [List.getElem?_map] at hw
  obtain ⟨a,ha,rfl⟩:=Option.map_eq_some_iff.mp hw
  exact h a (List.mem_of_getElem? ha) ρ' hj (fun ρ1 n3 d=>J ρ1/\n3=n'/\(xs.take i).map E++[d]=(xs.take (i+1)).map E) fun ρ1 b=>⟨b,rfl,by rw [zn ha,List.map_append];rfl⟩
 ·rintro ρ' n' acc ⟨_,rfl,rfl⟩
  rw [List.length_map,List.take_length]
  exact fin
theorem zlx {r:Nat}{ρ:Ev}{n:Nat}{mg:W->Ev->(Ev->Prop)->Prop}{fb:Ms}{k:Kt}(I:Nat->Ev->Nat->Prop)(h0:I 0 ρ n)
  (h:∀ i ρ' n',i<r->I i ρ' n'->mg (.d (.int (i:Int))) ρ' fun ρ1=>fb ρ1 n' { k with nx:=I (i+1),ct:=I (i+1),bk:=k.nx }) (hd:∀ ρ' n',I r ρ' n'->k.nx ρ' n'):zoe mg fb ρ k (zgc 0 r) n:=by
 refine ⟨I,h0,fun i w ρ' n' hw hI=>?_,fun ρ' n' hI=>hd ρ' n' ?_⟩
 ·unfold zgc at hw
  rw [List.getElem?_map] at hw
  obtain ⟨j,h1,rfl⟩:=Option.map_eq_some_iff.mp hw
  obtain ⟨hi,h2⟩:=List.getElem?_eq_some_iff.mp h1
  rw [List.getElem_range] at h2
  subst h2
  rw [List.length_range] at hi
  have:=h i ρ' n' hi hI
  rw [Int.zero_add]
  exact this
 ·unfold zgc at hI
  rwa [List.length_map,List.length_range] at hI
theorem zg5 {α:Type}{l:List W}{ρ:Ev}{n:Nat}{mg:W->Ev->(Ev->Prop)->Prop}{fb:Ms}{k:Kt}(xs:List α)(toW:α->W)(hl:l=xs.map toW)(I:Nat->Ev->Nat->Prop)(h0:I 0 ρ n)
  (h:∀ i a ρ' n',xs[i]?=some a->I i ρ' n'->mg (toW a) ρ' fun ρ1=>fb ρ1 n' { k with nx:=I (i+1),ct:=I (i+1),bk:=k.nx }) (hd:∀ ρ' n',I xs.length ρ' n'->k.nx ρ' n'):zoe mg fb ρ k l n:=by
 subst hl
 refine ⟨I,h0,fun i w ρ' n' hw hI=>?_,fun ρ' n' hI=>hd ρ' n' (by rwa [List.length_map] at hI)⟩
 rw [List.getElem?_map] at hw
 obtain ⟨a,ha,rfl⟩:=Option.map_eq_some_iff.mp hw
 exact h i a ρ' n' ha hI
theorem zdQ {r:Nat}{ρ:Ev}{n:Nat}{mg:W->Ev->(Ev->Prop)->Prop}{fb:Ms}{k:Kt}(I:Nat->Ev->Nat->Prop)(h0:I 0 ρ n)
  (h:∀ i ρ' n',i<r->I i ρ' n'->∀ (C B:Ev->Nat->Prop) (E:W->Nat->Prop),(∀ {ρ m},I (i+1) ρ m->C ρ m)->(∀ {ρ m},k.nx ρ m->B ρ m)->(∀ {w m},k.rt w m->E w m)->mg (.d (.int (i:Int))) ρ' fun ρ1=>fb ρ1 n' { rt:=E,nx:=C,ct:=C,bk:=B }) (hd:∀ ρ' n',I r ρ' n'->k.nx ρ' n'):zoe mg fb ρ k (zgc 0 r) n:=
 zlx I h0 (fun i ρ' n' hi hI=>h i ρ' n' hi hI (I (i+1)) k.nx k.rt (fun z=>z) (fun z=>z) fun z=>z) hd
theorem xD {α:Type}{l:List W}{ρ:Ev}{n:Nat}{mg:W->Ev->(Ev->Prop)->Prop}{fb:Ms}{k:Kt}(xs:List α)(toW:α->W)(hl:l=xs.map toW)(I:Nat->Ev->Nat->Prop)(h0:I 0 ρ n)
  (h:∀ i a ρ' n',xs[i]?=some a->I i ρ' n'->∀ (C B:Ev->Nat->Prop) (E:W->Nat->Prop),(∀ {ρ m},I (i+1) ρ m->C ρ m)->(∀ {ρ m},k.nx ρ m->B ρ m)->(∀ {w m},k.rt w m->E w m)->mg (toW a) ρ' fun ρ1=>fb ρ1 n' { rt:=E,nx:=C,ct:=C,bk:=B }) (hd:∀ ρ' n',I xs.length ρ' n'->k.nx ρ' n'):zoe mg fb ρ k l n:=
 zg5 xs toW hl I h0 (fun i a ρ' n' ha hI=>h i a ρ' n' ha hI (I (i+1)) k.nx k.rt (fun z=>z) (fun z=>z) fun z=>z) hd
theorem ziU {α:Type}{l:List W}{ρ0:Ev}{n:Nat}{mg:W->Ev->(Ev->Prop)->Prop}{ft:Ev->Mo Bool}{fe:Ev->Mo W}{Q:W->Nat->Prop}(xs:List α)(toW:α->W)(hl:l=xs.map toW)(hlim:xs.length<=lim)(I:Nat->Ev->Nat->List Dt->Prop)(h0:I 0 ρ0 n [])
  (h:∀ i a ρ' n' acc,xs[i]?=some a->I i ρ' n' acc->∀ C:Ev->Nat->List Dt->Prop,(∀ {ρ m l},I (i+1) ρ m l->C ρ m l)->mg (toW a) ρ' fun ρ1=>ft ρ1 n' fun b n2=>if b=true then fe ρ1 n2 fun x n3=>∃ d,x = .d d/\C ρ1 n3 (acc++[d]) else C ρ1 n2 acc)
  (fin:∀ ρ' n' acc,I xs.length ρ' n' acc->Q (.d (.lst acc)) n'):zcS mg ft fe ρ0 Q l n:=by
 subst hl
 refine ⟨by rw [List.length_map];exact hlim,I,h0,fun i w ρ' n' acc hw hI=>?_,fun ρ' n' acc hI=>fin ρ' n' acc (by rwa [List.length_map] at hI)⟩
 rw [List.getElem?_map] at hw
 obtain ⟨a,ha,rfl⟩:=Option.map_eq_some_iff.mp hw
 exact h i a ρ' n' acc ha hI (I (i+1)) fun z=>z
theorem zfj {α:Type}{l:List α}{i:Nat}{x:α}(h:l[i]?=some x):atI l (i:Int)=some x:=by
 have:=(List.getElem?_eq_some_iff.mp h).1
 unfold atI ixN
 rw [if_pos (by lia),if_pos (by lia)]
 simpa using h
theorem znR {α:Type}{l:List α}{i:Int}(h0:0<=i)(h1:i<l.length):∃ d,atI l i=some d/\d∈l:=by
 obtain ⟨j,rfl⟩:∃ j:Nat,i=j:=⟨i.toNat,by lia⟩
 have hj:j<l.length:=by lia
 exact ⟨l[j],zfj (List.getElem?_eq_getElem hj),List.getElem_mem hj⟩
theorem zqP {a b:Dt}:atI [a,b] 0=some a:=rfl
theorem zqQ {a b:Dt}:atI [a,b] 1=some b:=rfl
theorem zlc {st:List Int}{b:Int}(h0:0<=b)(h1:b<st.length):atI (st.map Dt.int) b=some (.int (zK st b)):=by
 obtain ⟨j,rfl⟩:∃ j:Nat,b=j:=⟨b.toNat,by lia⟩
 have hj:j<st.length:=by lia
 refine zfj ?_
 rw [List.getElem?_map,List.getElem?_eq_getElem hj,zU]
 simp [hj]
def gw (g:List (Int×Int))(i:Nat):Option Int:=(g.find? fun q=>decide (q.1=(i:Int))).map (·.2)
theorem zlX (g:List (Int×Int))(i:Nat):uB (List.map kvD (List.map (fun q:Int×Int=>(q.1,Dt.int q.2)) g)) (Sum.inl (i:Int))=(gw g i).map Dt.int:=by
 unfold uB gw
 induction g with
 | nil=>rfl
 | cons q g ih=>
  rw [List.map_cons,List.map_cons,List.find?_cons,List.find?_cons]
  by_cases h:q.1=(i:Int)
  ·have h1:decide ((kvD (q.1,Dt.int q.2)).1=(Sum.inl (i:Int):Key))=true:=decide_eq_true (by show (Sum.inl q.1:Key)=_;rw [h])
   rw [h1,decide_eq_true h]
   rfl
  ·have h1:decide ((kvD (q.1,Dt.int q.2)).1=(Sum.inl (i:Int):Key))=false:=decide_eq_false fun z=>h (Sum.inl.inj z)
   rw [h1,decide_eq_false h]
   exact ih
theorem zlo (rm:List Int):enW 0 (rm.map Dt.int)=(List.range rm.length).map fun i:Nat=>W.d (.tup [.int (i:Int),.int (rm.getD i 0)]):=by
 apply List.ext_getElem?
 intro i
 rw [zeD,List.getElem?_map,List.getElem?_map]
 by_cases h:i<rm.length
 ·rw [List.getElem?_eq_getElem h,List.getElem?_range h]
  simp [h]
 ·rw [List.getElem?_eq_none (by lia),List.getElem?_eq_none (by rw [List.length_range];lia)]
  rfl
def cho (rm:List Int)(g:List (Int×Int))(i:Nat):List Int:=match gw g i with
 | some w=>[w]
 | none=>zE (rm.getD i 0)
def chs (rm:List Int)(g:List (Int×Int)):List (List Int):=(List.range rm.length).map (cho rm g)
def zbO (rm:List Int)(g:List (Int×Int)):List (List Int):=ud (chs rm g)
def kpN (g:List (Int×Int))(n:Nat)(st:List Int):Bool:=g.all fun q=>!decide (q.1<n) || decide (zK st q.1=q.2)
theorem zc6 {g:List (Int×Int)}{n:Nat}{st:List Int}:kpN g n st=true↔∀ q∈g,q.1<(n:Int)->zK st q.1=q.2:=by
 unfold kpN
 rw [List.all_eq_true]
 constructor
 ·intro h q hq hn
  have:=h q hq
  rw [decide_eq_true hn] at this
  simpa using this
 ·intro h q hq
  by_cases hn:q.1<(n:Int)
  ·have:=h q hq hn
   rw [decide_eq_true this]
   simp
  ·rw [decide_eq_false hn]
   rfl
theorem zdM {rows:List (List Int)}{ws:List Int}{p p':List Int->Bool}{q:Int->Bool}(h:∀ r∈rows,∀ w∈ws,p (r++[w])=(p' r&&q w)):(yP rows ws).filter p=yP (rows.filter p') (ws.filter q):=by
 unfold yP
 induction rows with
 | nil=>rfl
 | cons r rows ih=>
  have a:=ih fun r' hr=>h r' (List.mem_cons_of_mem _ hr)
  rw [List.flatMap_cons,List.filter_append,a,List.filter_cons]
  have e:(ws.map fun w=>r++[w]).filter p=if p' r=true then (ws.filter q).map (fun w=>r++[w]) else []:=by
   rw [List.filter_map]
   have e1:ws.filter (p ∘ fun w=>r++[w])=ws.filter fun w=>p' r&&q w:=List.filter_congr fun w hw=>h r List.mem_cons_self w hw
   rw [e1]
   cases p' r with
   | true=>simp
   | false=>simp
  rw [e]
  cases p' r with
  | true=>simp
  | false=>simp
theorem zeH {rm:List Int}{g:List (Int×Int)}(hg:Giv rm g){i:Nat}{w:Int}(h:gw g i=some w):((i:Int),w)∈g:=by
 unfold gw at h
 obtain ⟨q,h1,h2⟩:=Option.map_eq_some_iff.mp h
 have h3:=List.find?_some h1
 have h4:=List.mem_of_find?_eq_some h1
 have:q=((i:Int),w):=by
  have:=of_decide_eq_true h3
  cases q
  simp at this h2
  subst this h2
  rfl
 exact this ▸ h4
theorem zlC {g:List (Int×Int)}{i:Nat}(h:gw g i=none):∀ q∈g,q.1≠(i:Int):=fun q hq e=>by
 unfold gw at h
 have:=List.find?_eq_none.mp (Option.map_eq_none_iff.mp h) q hq
 simp [e] at this
theorem zlz {rm:List Int}{g:List (Int×Int)}(hg:Giv rm g){q r:Int×Int}(h1:q∈g)(h2:r∈g)(e:q.1=r.1):q=r:=by
 have key:∀ g:List (Int×Int),(g.Pairwise fun a b=>a.1<b.1)->q∈g->r∈g->q=r:=by
  intro g hp
  induction hp with
  | nil=>intro h;simp at h
  | cons ha _ ih=>
   intro h1 h2
   rcases List.mem_cons.mp h1 with e1 | m1
   ·rcases List.mem_cons.mp h2 with e2 | m2
    ·rw [e1,e2]
    ·have:=ha r m2
     rw [<- e1] at this
     lia
   ·rcases List.mem_cons.mp h2 with e2 | m2
    ·have:=ha q m1
     rw [<- e2] at this
     lia
    ·exact ih m1 m2
 exact key g hg.up h1 h2
theorem zih {m w:Int}(h0:0<=w)(h1:w<m):(zE m).filter (fun x=>decide (x=w))=[w]:=by
 unfold zE
 rw [List.filter_map]
 have key:∀ n:Nat,w.toNat<n->(List.range n).filter ((fun x:Int=>decide (x=w)) ∘ fun i:Nat=>(i:Int))=[w.toNat]:=by
  intro n
  induction n with
  | zero=>intro h;lia
  | succ n ih=>
   intro h
   rw [List.range_succ,List.filter_append]
   by_cases hn:w.toNat<n
   ·rw [ih hn]
    have:¬ ((n:Int)=w):=by lia
    simp [this]
   ·have a:w.toNat=n:=by lia
    have e:(n:Int)=w:=by lia
    have:(List.range n).filter ((fun x:Int=>decide (x=w)) ∘ fun i:Nat=>(i:Int))=[]:=by
     rw [List.filter_eq_nil_iff]
     intro x hx
     have:=List.mem_range.mp hx
     have:¬ ((x:Int)=w):=by lia
     simp [this]
    rw [this]
    simp [e,a]
 rw [key m.toNat (by lia)]
 simp
 lia
theorem zdX {rm:List Int}{g:List (Int×Int)}(hg:Giv rm g):∀ n:Nat,n<=rm.length->(ud ((rm.take n).map zE)).filter (kpN g n)=ud ((List.range n).map (cho rm g))
 | 0,_=>by
  have:kpN g 0 []=true:=zc6.mpr fun q hq hn=>by
   have:=(hg.ok q hq).1
   lia
  simp [ud,this]
 | n+1,hn=>by
  have a:n<rm.length:=hn
  have ih:=zdX hg n (Nat.le_of_lt a)
  rw [zn (List.getElem?_eq_getElem a),List.map_append,List.range_succ,List.map_append]
  show (ud (_++[zE rm[n]])).filter _=ud (_++[cho rm g n])
  rw [yK,yK,<- ih]
  have c:∀ r∈ud ((rm.take n).map zE),r.length=n:=fun r hr=>by
   rw [zax _ _ hr,List.length_map,List.length_take]
   lia
  have e:rm.getD n 0=rm[n]:=by simp [a]
  have em:zK rm (n:Int)=rm[n]:=by unfold zK;simp [a]
  rw [zdM (p':=kpN g n) (q:=fun w=>match gw g n with | some v=>decide (w=v) | none=>true)]
  ·congr 1
   unfold cho
   cases hq:gw g n with
   | none=>rw [e];simp
   | some v=>
    have hb:=hg.ok _ (zeH hg hq)
    have h2:v<zK rm (n:Int):=hb.2.2.2
    exact zih hb.2.2.1 (by lia)
  ·intro r hr w hw
   have hl:=c r hr
   rw [Bool.eq_iff_iff,Bool.and_eq_true,zc6,zc6]
   have lt:∀ q∈g,q.1<(n:Int)->zK (r++[w]) q.1=zK r q.1:=fun q hq hn=>xF (hg.ok q hq).1 (by lia)
   have d:zK (r++[w]) (n:Int)=w:=by rw [<- hl];exact uM
   constructor
   ·intro h
    refine ⟨fun q hq hn=>by rw [<- lt q hq hn];exact h q hq (by lia),?_⟩
    cases hq:gw g n with
    | none=>rfl
    | some v=>
     have h1:=h _ (zeH hg hq) (by show (n:Int)<((n+1:Nat):Int);lia)
     rw [d] at h1
     exact decide_eq_true h1
   ·rintro ⟨h1,h2⟩ q hq hn
    by_cases hqn:q.1<(n:Int)
    ·rw [lt q hq hqn]
     exact h1 q hq hqn
    ·have b:q.1=(n:Int):=by lia
     have f:gw g n=some q.2:=by
      cases hz:gw g n with
      | none=>exact absurd b (zlC hz q hq)
      | some v=>rw [zlz hg hq (zeH hg hz) b]
     rw [f] at h2
     rw [b,d]
     exact of_decide_eq_true h2
theorem zbQ {rm:List Int}{g:List (Int×Int)}(hg:Giv rm g):(ud (rm.map zE)).filter (fun st=>yL st g)=zbO rm g:=by
 have h:=zdX hg rm.length (Nat.le_refl _)
 rw [List.take_length] at h
 unfold zbO chs
 rw [<- h]
 refine List.filter_congr fun st a=>?_
 rw [Bool.eq_iff_iff,zc6]
 unfold yL
 rw [List.all_eq_true]
 constructor
 ·intro z q hq _
  exact of_decide_eq_true (z q hq)
 ·intro z q hq
  exact decide_eq_true (z q hq (hg.ok q hq).2.1)
theorem zbP {rm:List Int}{g:List (Int×Int)}(hg:Giv rm g):∀ st∈zbO rm g,st.length=rm.length:=fun st a=>by
 unfold zbO chs at a
 rw [zax _ _ a,List.length_map,List.length_range]
theorem zaE {rm:List Int}{g:List (Int×Int)}(hR:RoomOk rm):(zbO rm g).length<=65536:=by
 have h:=zcN (cs:=chs rm g) (by unfold chs;rw [List.length_map,List.length_range];exact hR.few) (fun c hc=>by
  obtain ⟨i,hi,rfl⟩:=List.mem_map.mp hc
  have a:=List.mem_range.mp hi
  have hb:=hR.box _ (List.getElem_mem a)
  have e:rm.getD i 0=rm[i]:=by simp [a]
  unfold cho
  cases gw g i with
  | some v=>simp
  | none=>rw [uZ];lia) (chs rm g).length
 rw [List.take_length] at h
 exact h
theorem zho (rm:List Int):zbO rm []=ud (rm.map zE):=by
 have:=zbQ (rm:=rm) (g:=[]) ⟨fun _ h=>by simp at h,.nil⟩
 rw [<- this]
 have:(fun st:List Int=>yL st [])=fun _=>true:=by funext st;rfl
 rw [this,List.filter_eq_self.mpr fun _ _=>rfl]
open PySem.Spec
section
variable {X:Cx}{Pn:Option zr}{M S:List Nat}{fr fr':Bool}{e a b c:Expr}{es:List Expr}{f fa fb fc:Ev->Mo W}{pos p p2:Pos}
theorem zfP:∀ (l k:List Dt) (i:Nat),(ziW l k)[i]?=(l[i]?).bind fun x=>(k[i]?).map fun y=>W.d (.tup [x,y])
 | [],_,_=>by simp [ziW]
 | _::_,[],_=>by simp [ziW]
 | x::r,y::s,0=>by simp [ziW]
 | x::r,y::s,i+1=>by
  have:=zfP r s i
  simp only [ziW,List.getElem?_cons_succ,this]
theorem zfQ:∀ (l k:List Dt),(ziW l k).length=min l.length k.length
 | [],_=>by simp [ziW]
 | _::_,[]=>by simp [ziW]
 | x::r,y::s=>by rw [ziW,List.length_cons,List.length_cons,List.length_cons,zfQ r s];lia
def zl3 (fa:Ev->Mo (List W)):Ev->Mo (List W):=fun ρ n Q=>fa ρ n fun ws m=>∃ l k,ws=[.d (.lst l),.d (.lst k)]/\Q (ziW l k) m
theorem zjn {K:PySem.W.Frag}{A:Addr->Prop}{H:Hp}{ad bd:Addr}{xs ys:List V}{l k:List Dt}(h:z7 A H ad=some (.lst xs))(hl:IsL (z7 A H) l xs)(h':z7 A H bd=some (.lst ys))(hk:IsL (z7 A H) k ys):ItV false A H (Izl K ad bd) (ziW l k) where
 one:=fun i w A2 H2 e s _ hA=>by
  rw [zfP] at e
  obtain ⟨d,h1,e⟩:=Option.bind_eq_some_iff.mp e
  obtain ⟨d',a,rfl⟩:=Option.map_eq_some_iff.mp e
  obtain ⟨x,hx,hd⟩:=hl.getD h1
  obtain ⟨y,hy,b⟩:=hk.getD a
  have g:=zq _ _ (s.lst h)
  have g':=zq _ _ (s.lst h')
  refine ⟨⟨xs,ys,x,y,.of g,.of g',hx,hy⟩,fun v H3 ⟨T,z,z',e1,hT,e3,hz,c⟩=>?_⟩
  subst e1 e3
  have q1:=hz xs (.of g)
  have q2:=c ys (.of g')
  rw [hx] at q1
  rw [hy] at q2
  cases q1
  cases q2
  have S:=xB.upd (o:=.tup [x,y]) hT
  exact ⟨S,Val.of ⟨T,_,rfl,zF (hA T hT) zo,_,_,rfl,(hd.stay s).stay (zw.same (uF S)),_,_,rfl,(b.stay s).stay (zw.same (uF S)),rfl⟩⟩
 stop:=fun A2 H2 s _=>⟨xs,ys,.of (zq _ _ (s.lst h)),.of (zq _ _ (s.lst h')),by rw [zfQ,hl.length,hk.length];lia⟩
theorem zlO {elts:List Expr}{x1}{tpos:Pos}{fs:Ev->Mo (List W)}(hg:Gl X "zip")(hm:X.mg "zip" = none)(ha:JA X Pn M [a,b] fs)(hs:starEach [a,b] X.env=[(false,eval a X.env),(false,eval b X.env)]:=by rfl)(hs2:starEach [b] X.env=[(false,eval b X.env)]:=by rfl):JI X Pn M false (.Tuple elts x1 tpos) (.Call (.Name "zip" p) [a,b] [] pos) (zl3 fs):=by
 obtain ⟨te,q,r⟩:=ha.ex
 refine ⟨_,zmU hg hm q hs hs2,⟨fun A σ H ρ n Q R E P hf k=>?_⟩⟩
 refine r.run A σ H ρ n _ _ E P hf fun ws m vs H1 ⟨l,kk,e,r⟩ hv g=>?_
 subst e
 obtain ⟨v,s,rfl,⟨ad,xs,rfl,c,hl⟩,v2,s2,rfl,⟨bd,ys,rfl,d,hk⟩,hs⟩:=hv
 cases hs
 exact ⟨ad,bd,rfl,⟨xs,.of (zq _ _ c)⟩,⟨ys,.of (zq _ _ d)⟩,k _ m _ H1 r (zjn c hl d hk) g⟩
def zrl (i:Nat)(f:Ev->Mo W):Ms:=fun ρ n k=>(∃ l,ρ[i]?=some (some (.d (.lst l))))/\f ρ n fun w m=>∃ l l2,ρ[i]?=some (some (.d (.lst l)))/\w = .d (.lst l2)/\l.length+l2.length<=lim/\k.nx (ρ.set i (some (.d (.lst (l++l2))))) m
theorem zkF (i:Nat){x:Str}{ap cp sp np:Pos}(he:JE X Pn M fr' e f)(hi:i∈M:=by decide)(hN:X.N[i]?=some x:=by rfl)(hv:Vis X.env.scope x:=by first | exact Or.inl rfl | exact Or.inr (Or.inl rfl) | exact Or.inr (Or.inr rfl))(hd:(x==("__debug__" : Str))=false:=by decide)
  (hcd:(x==("__classdict__" : Str))=false:=by decide) (hs1:starEach (e::[]) X.env=(false,eval e X.env)::starEach [] X.env:=by rfl) (hs:swapsWith (.Call (.Attribute (.Name x np) "extend" ap) [e] [] cp) none sp.line X.env=pure false:=by rfl) (hbase:attributeBase (.Name x np) "extend" X.env (eval (.Name x np) X.env)=eval (.Name x np) X.env:=by rfl) (hline:(ap.endLine==cp.line)=true:=by rfl)
  (hfew:((backTo cp (starEach [e] X.env)).all (fun x=>!x.1)&&(backToKw cp (keywordEach [] X.env)).all (fun x=>x.1.isSome)&&decide (([e]:List Expr).length+([]:List Keyword).length+(if ([]:List Keyword).isEmpty then 0 else 1)<30))=true:=by rfl) (hplain:(backTo cp (starEach [] X.env)).any (·.1)=false:=by rfl) :
  JS X Pn S M fr (.Expr (.Call (.Attribute (.Name x np) "extend" ap) [e] [] cp) sp) (zrl i f):=by
 obtain ⟨te,q,r⟩:=he.ex
 refine ⟨_,ze2 (zkU PySem.F.plainAttrs_list PySem.F.slot_list_extend PySem.F.type_list_extend zhM (qv i hN hv hd hcd) (z8 q y8 hs1) hbase hfew hline hs1 hplain) hs,⟨fun B A σ H ρ n k D a kk ⟨⟨l0,e0⟩,hf⟩=>?_⟩⟩
 obtain ⟨ad,d,s1,hA,g0,_⟩:=a.own hi e0
 refine ⟨.ref ad,s1,.inl ⟨rfl,_,SqL.of g0⟩,?_⟩
 refine r.run A σ H ρ n _ _ a.env a.pn hf fun w m v H' ⟨l,l2,e,ed,hz,r⟩ hv g _=>?_
 subst ed
 have a':=a.step g
 obtain ⟨h,xs,s2,_,g4,hl⟩:=a'.own hi e
 rw [s1] at s2
 cases s2
 obtain ⟨b2,ys,rfl,c,b⟩:=hv
 exact ⟨ad,b2,xs,ys,rfl,rfl,g4,zq _ _ c,zd0 (by rw [hl.length,b.length];exact hz),kk.nx A σ _ _ m (a'.wr hi e s1 (hl.append b)) r⟩
def zkz {α:Type}(l:List α)(k:Nat)(x:α):List α:=l.take k++x::l.drop k
def zrn (i:Nat)(fk f:Ev->Mo W):Ms:=fun ρ n k=>(∃ l,ρ[i]?=some (some (.d (.lst l))))/\fk ρ n fun y m=>f ρ m fun w m2=>∃ l d j,ρ[i]?=some (some (.d (.lst l)))/\w = .d d/\y = .d (.int j)/\0<=j/\j<=l.length/\l.length<lim/\k.nx (ρ.set i (some (.d (.lst (zkz l j.toNat d))))) m2
theorem zkG (i:Nat){x:Str}{ap cp sp np:Pos}{frc:Bool}(hc:JE X Pn M frc c fc)(he:JE X Pn M fr' e f)(hi:i∈M:=by decide)(hN:X.N[i]?=some x:=by rfl)(hv:Vis X.env.scope x:=by first | exact Or.inl rfl | exact Or.inr (Or.inl rfl) | exact Or.inr (Or.inr rfl))(hd:(x==("__debug__" : Str))=false:=by decide)
  (hcd:(x==("__classdict__" : Str))=false:=by decide) (hs0:starEach (c::[e]) X.env=(false,eval c X.env)::starEach [e] X.env:=by rfl) (hs1:starEach (e::[]) X.env=(false,eval e X.env)::starEach [] X.env:=by rfl) (hs:swapsWith (.Call (.Attribute (.Name x np) "insert" ap) [c,e] [] cp) none sp.line X.env=pure false:=by rfl) (hbase:attributeBase (.Name x np) "insert" X.env (eval (.Name x np) X.env)=eval (.Name x np) X.env:=by rfl) (hline:(ap.endLine==cp.line)=true:=by rfl)
  (hfew:((backTo cp (starEach [c,e] X.env)).all (fun x=>!x.1)&&(backToKw cp (keywordEach [] X.env)).all (fun x=>x.1.isSome)&&decide (([c,e]:List Expr).length+([]:List Keyword).length+(if ([]:List Keyword).isEmpty then 0 else 1)<30))=true:=by rfl) (hplain:(backTo cp (starEach [e] X.env)).any (·.1)=false:=by rfl) :
  JS X Pn S M fr (.Expr (.Call (.Attribute (.Name x np) "insert" ap) [c,e] [] cp) sp) (zrn i fc f):=by
 obtain ⟨te,q,r⟩:=he.ex
 obtain ⟨tc,qc,rc⟩:=hc.ex
 refine ⟨_,ze2 (zkU PySem.F.plainAttrs_list PySem.F.slot_list_insert PySem.F.type_list_insert zhN (qv i hN hv hd hcd) (z8 qc (z8 q y8 hs1) hs0) hbase hfew hline hs0 hplain) hs,⟨fun B A σ H ρ n k D a kk ⟨⟨l0,e0⟩,hf⟩=>?_⟩⟩
 obtain ⟨ad,h,s1,hA,g0,_⟩:=a.own hi e0
 refine ⟨.ref ad,s1,.inl ⟨rfl,_,SqL.of g0⟩,?_⟩
 refine rc.run A σ H ρ n _ _ a.env a.pn hf fun w1 m1 v1 H1 r1 b g1 _=>?_
 have a1:=a.step g1
 refine r.run A σ H1 ρ m1 _ _ a1.env a1.pn r1 fun w m v H' ⟨l,d,j,e,ed,ey,j0,j1,hz,r⟩ hv g _=>?_
 subst ed ey
 have e1:v1 = .int j:=b
 subst e1
 have a':=a1.step g
 obtain ⟨o,xs,s2,_,g4,hl⟩:=a'.own hi e
 rw [s1] at s2
 cases s2
 refine ⟨ad,xs,j,v,rfl,rfl,g4,j0,by rw [hl.length];exact j1,zfz (by rw [hl.length];exact Nat.le_of_lt hz),kk.nx A σ _ _ m (a'.wr hi e s1 ?_) r⟩
 exact (hl.take _).append ⟨v,_,rfl,hv.is,hl.drop _⟩
def zls:List W->Mo W:=fun ws n Q=>(∃ i,ws=[.d (.int i)]/\Q (.d (.int i)) n)\/∃ b,ws=[.d (.bl b)]/\Q (.d (.int (if b then 1 else 0))) n
theorem zqc:FL Pn false (fun xs H Q=>(∃ i,xs=[.int i]/\Q (.int i) H)\/∃ k,xs=[.bl k]/\Q (.int (if k then 1 else 0)) H) zls:=⟨fun A H xs ws n Q R al b P h k=>by
 rcases h with ⟨i,e,h⟩ | ⟨i,e,h⟩
 ·subst e
  obtain ⟨v,rfl,bb⟩:=zbl b
  exact .inl ⟨i,by rw [yR bb],k _ n _ H h (Val.of rfl) (Go.refl P) fun z=>by cases z⟩
 ·subst e
  obtain ⟨v,rfl,bb⟩:=zbl b
  exact .inr ⟨i,by rw [zkp bb],k _ n _ H h (Val.of rfl) (Go.refl P) fun z=>by cases z⟩⟩
def zg0:List W->Mo W:=fun ws n Q=>∃ ns:List Int,ws=[.d (.lst (ns.map .int))]/\ns.length<64/\∀ ns':List Int,ns'.Perm ns->ns'.Pairwise (·<=·)->Q (.d (.lst (ns'.map .int))) n
theorem znD:FL Pn true zig zg0:=⟨fun A H xs ws n Q R al b P ⟨ns,e,c,h⟩ k=>by
 subst e
 obtain ⟨v,rfl,bb⟩:=zbl b
 obtain ⟨a,ys,rfl,ha,hl⟩:=xq bb
 obtain rfl:=hl.of_ints
 exact ⟨a,ns,rfl,ha,c,fun d hp hs p H' np g S=>k _ n _ H' (h d hp hs) (uU (H:=H) IsL.ints (zw.same S) (al.new np) g) (Go.same P S) fun z=>uE (H:=H) IsL.ints S np g⟩⟩
def zg2:List W->Mo W:=fun ws n Q=>∃ (sts:List (List Int)) (m:Nat),ws=[.d (.lst (sts.map stD))]/\sts.length<64/\1<=m/\(∀ st∈sts,st.length=m)/\sts.Nodup/\∀ sts':List (List Int),sts'.Perm sts->(sts'.Pairwise fun a b=>HT.lexLt a b=true)->Q (.d (uA sts')) n
theorem znE:FL Pn true zm4 zg2:=⟨fun A H xs ws n Q R al b P ⟨sts,m,e,f,h1,hm,i,h⟩ k=>by
 subst e
 obtain ⟨v,rfl,bb⟩:=zbl b
 obtain ⟨a,ys,rfl,ha,hl⟩:=xq bb
 refine ⟨a,ys,sts,m,rfl,ha,hl.stay (zw.same zq),f,h1,hm,i,fun j c hy hp hs p H' np g S=>?_⟩
 have d:IsL (z7 A H) (c.map stD) j:=xu al.noT (xi c) hy
 exact k _ n _ H' (h c hp hs) (uU d (zw.same S) (al.new np) g) (Go.same P S) fun z=>uE d S np g⟩
theorem zlM:JE X Pn M true (.Dict [] [] pos) (mC (.dt [])):=⟨_,zj1,⟨fun A σ H ρ n Q R E P hf k=>fun p H' np g S=>k _ n _ H' hf ⟨p,[],rfl,zF (E.new np) g,rfl⟩ (Go.same P S) fun _=>⟨p,rfl,.of np,p,[],rfl,g,rfl⟩⟩⟩
def zf9 {κ:Type}[DecidableEq κ](kvs:List (κ×Dt))(k:κ)(d:Dt):List (κ×Dt):=
 if (kvs.any fun kv=>decide (kv.1=k))=true then kvs.map (fun kv=>if kv.1=k then (kv.1,d) else kv) else kvs++[(k,d)]
theorem u5.any {κ:Type}[DecidableEq κ]{G:Hp}{k:κ}:∀ {kvs:List (κ×Dt)} {ks:List (κ×V)},u5 G kvs ks->(ks.any fun kv=>decide (kv.1=k))=kvs.any fun kv=>decide (kv.1=k)
 | [],_,h=>by cases h;rfl
 | q::r,ks,⟨v,s,e,h1,h2⟩=>by subst e;rw [List.any_cons,List.any_cons,u5.any h2]
theorem u5.map1 {κ:Type}[DecidableEq κ]{G:Hp}{k:κ}{d:Dt}{x:V}(hd:Is G d x):∀ {kvs:List (κ×Dt)} {ks:List (κ×V)},u5 G kvs ks->u5 G (kvs.map fun kv=>if kv.1=k then (kv.1,d) else kv) (ks.map fun kv=>if kv.1=k then (kv.1,x) else kv)
 | [],_,h=>by cases h;rfl
 | q::r,ks,⟨v,s,e,h1,h2⟩=>by
  subst e
  rw [List.map_cons,List.map_cons]
  by_cases hq:q.1=k
  ·rw [if_pos hq,if_pos hq]
   exact ⟨x,_,rfl,hd,u5.map1 hd h2⟩
  ·rw [if_neg hq,if_neg hq]
   exact ⟨v,_,rfl,h1,u5.map1 hd h2⟩
theorem u5.snoc {κ:Type}{G:Hp}{k:κ}{d:Dt}{x:V}(hd:Is G d x):∀ {kvs:List (κ×Dt)} {ks:List (κ×V)},u5 G kvs ks->u5 G (kvs++[(k,d)]) (ks++[(k,x)])
 | [],_,h=>by cases h;exact ⟨x,[],rfl,hd,rfl⟩
 | q::r,ks,⟨v,s,e,h1,h2⟩=>by subst e;exact ⟨v,_,rfl,h1,u5.snoc hd h2⟩
theorem u5.put {κ:Type}[DecidableEq κ]{G:Hp}{k:κ}{d:Dt}{x:V}{kvs:List (κ×Dt)}{ks:List (κ×V)}(h:u5 G kvs ks)(hd:Is G d x):u5 G (zf9 kvs k d) (za8 ks k x):=by
 unfold zf9 za8
 rw [h.any]
 split
 ·exact h.map1 hd
 ·exact h.snoc hd
theorem u5.len {κ:Type}{G:Hp}:∀ {kvs:List (κ×Dt)} {ks:List (κ×V)},u5 G kvs ks->ks.length=kvs.length
 | [],_,h=>by cases h;rfl
 | q::r,ks,⟨v,s,e,h1,h2⟩=>by subst e;rw [List.length_cons,List.length_cons,u5.len h2]
theorem At3.wrX {B:Bs}{A:Addr->Prop}{σ:St}{H:Hp}{ρ:Ev}{n:Nat}(h:At3 Pn B S M A σ H ρ n){i:Nat}{w w':W}{ad:Addr}{o:HO}(hi:i∈M)(e:ρ[i]?=some (some w))(s:σ[i]?=some (some (.ref ad)))(hw:WAt (L2.upd H ad o) (z7 A H) w' (.ref ad))(hm':w'.mut=true)(np:NP o)(nt:∀ xs,o≠.tup xs):At3 Pn B S M A σ (L2.upd H ad o) (ρ.set i (some w')) n:=by
 obtain ⟨v,s1,_,s3⟩:=h.env.val i w e
 rw [s] at s1
 cases s1
 obtain ⟨a2,e2,hA,_,_⟩:=s3 hi
 cases e2
 have hlen:i<ρ.length:=(List.getElem?_eq_some_iff.mp e).1
 have hE:EnvR A M σ (L2.upd H ad o) (ρ.set i (some w')):=by
  refine ⟨by rw [List.length_set];exact h.env.len,fun j u ej=>?_,fun j q u u' b hj hq hne e1 e2=>?_,fun b hb=>?_⟩
  ·by_cases hj:j=i
   ·subst hj
    rw [List.getElem?_set_self hlen] at ej
    cases ej
    exact ⟨.ref ad,s,fun z=>absurd hi z,fun _=>⟨ad,rfl,hA,by show WAt _ _ _ _;rw [yp hA];exact hw,hm'⟩⟩
   ·rw [List.getElem?_set_ne (Ne.symm hj)] at ej
    obtain ⟨v,t1,t2,t3⟩:=h.env.val j u ej
    refine ⟨v,t1,fun z=>?_,fun z=>?_⟩
    ·show WAt _ _ _ _
     rw [yp hA]
     exact t2 z
    ·obtain ⟨b,rfl,hb,hbb,hm⟩:=t3 z
     have hne:b≠ad:=fun q=>h.env.dis i j w u ad hi z (Ne.symm hj) e ej s (by rw [t1,q])
     refine ⟨b,rfl,hb,?_,hm⟩
     show WAt _ _ _ _
     rw [yp hA]
     cases u with
     | d x=>
      cases x with
      | lst l=>obtain ⟨a2,xs,e2,g1,g2⟩:=hbb;cases e2;exact ⟨b,xs,rfl,by rw [zf hne];exact g1,g2⟩
      | dct=>obtain ⟨a2,xs,e2,g1,g2⟩:=hbb;cases e2;exact ⟨b,xs,rfl,by rw [zf hne];exact g1,g2⟩
      | _=>cases hm
     | pen p=>cases hm
     | dk k=>obtain ⟨a2,xs,e2,g1,g2⟩:=hbb;cases e2;exact ⟨b,xs,rfl,by rw [zf hne];exact g1,g2⟩
     | dt k=>obtain ⟨a2,xs,e2,g1,g2⟩:=hbb;cases e2;exact ⟨b,xs,rfl,by rw [zf hne];exact g1,g2⟩
  ·have get:∀ q (u:W),(ρ.set i (some w'))[q]?=some (some u)->∃ u',ρ[q]?=some (some u'):=fun q u z=>by
    by_cases hq:q=i
    ·subst hq;exact ⟨w,e⟩
    ·rw [List.getElem?_set_ne (Ne.symm hq)] at z;exact ⟨u,z⟩
   obtain ⟨v1,f1⟩:=get j u e1
   obtain ⟨v2,f2⟩:=get q u' e2
   exact h.env.dis j q v1 v2 b hj hq hne f1 f2
  ·by_cases hb':b=ad
   ·subst hb';exact ⟨_,zo,np,nt⟩
   ·rw [zf hb'];exact h.env.al b hb
 refine ⟨hE,⟨h.frm.sub,h.frm.new,fun b o eb nn nc=>?_,h.frm.al,h.frm.cn,fun b z=>(by
  by_cases hb':b=ad
  ·subst hb';exact ⟨_,zo,np⟩
  ·rw [zf hb'];exact h.frm.cs b z)⟩,h.pn.upd hA,by rw [yp hA];exact h.prot,h.fix,fun j u b hj ej sj=>?_⟩
 ·have hne:b≠ad:=fun q=>by
   subst q
   rcases h.mine i w b hi e s with z | z
   ·exact z o eb nn
   ·exact nc z
  rw [zf hne]
  exact h.frm.st b o eb nn nc
 ·by_cases hj':j=i
  ·subst hj';exact h.mine j w b hj e sj
  ·rw [List.getElem?_set_ne (Ne.symm hj')] at ej;exact h.mine j u b hj ej sj
def zhD (i:Nat)(fk f:Ev->Mo W):Ms:=fun ρ n k=>(∃ kvs,ρ[i]?=some (some (.dt kvs)))/\f ρ n fun w m=>fk ρ m fun y m2=>∃ kvs st d,ρ[i]?=some (some (.dt kvs))/\w = .d d/\y = .d (stD st)/\kvs.length<lim/\k.nx (ρ.set i (some (.dt (zf9 kvs st d)))) m2
theorem zjr (i:Nat){x:Str}{np sp:Pos}(hu:X.A.units+1<cLine)(hk:JB X Pn M c fc)(he:JE X Pn M fr' e f)(hi:i∈M:=by decide)(hN:X.N[i]?=some x:=by rfl)(hv:Vis X.env.scope x:=by first | exact Or.inl rfl | exact Or.inr (Or.inl rfl) | exact Or.inr (Or.inr rfl))(hd:(x==("__debug__" : Str))=false:=by decide)
  (hcd:(x==("__classdict__" : Str))=false:=by decide) (hs:swapsWith e (some (.Subscript (.Name x np) c p)) sp.line X.env=pure false:=by rfl) :
  JS X Pn S M fr (.Assign [.Subscript (.Name x np) c p] e sp) (zhD i fc f):=by
 obtain ⟨te,q,r⟩:=he.ex
 obtain ⟨tk,qk,rk⟩:=hk.ex
 refine ⟨_,zdm hu (qv i hN hv hd hcd) qk q hs,⟨fun B A σ H ρ n k D a kk ⟨⟨l0,e0⟩,hf⟩=>?_⟩⟩
 obtain ⟨v0,s0,_,o3⟩:=a.env.val i _ e0
 obtain ⟨ad,rfl,hA,o,_⟩:=o3 hi
 refine r.run A σ H ρ n _ _ a.env a.pn hf fun w m v H1 r1 g g1 _=>⟨.ref ad,s0,?_⟩
 have a1:=a.step g1
 refine rk.run A σ H1 ρ m _ _ a1.env a1.pn r1 fun y m2 v2 H2 ⟨h,st,d,e,ed,ey,hz,r2⟩ b2 g2=>?_
 subst ed ey
 have a2:=a1.step g2
 obtain ⟨v3,s3,_,o4⟩:=a2.env.val i _ e
 rw [s0] at s3
 cases s3
 obtain ⟨s,e4,_,hb,_⟩:=o4 hi
 cases e4
 obtain ⟨a5,ks,e5,j,b⟩:=hb
 cases e5
 obtain ⟨bd,xs,rfl,l,hx⟩:=uf b2
 obtain rfl:=hx.of_ints
 exact ⟨ad,_,rfl,zfc.i j l (zfz (by rw [b.len];exact Nat.le_of_lt hz)),kk.nx A σ _ _ m2 (a2.wrX (w':=.dt (zf9 h st d)) hi e s0 ⟨ad,_,rfl,zo,b.put (g.stay g2.st).is⟩ rfl (fun k z=>by cases z) (fun _ z=>by cases z)) r2⟩
end
open PySem.Spec
@[reducible] def F_turn:FV:=fun Pn ws n R=>∃ p c ns l,Pn=some (p,c,ns)/\ws=[.pen p,.d (.lst l)]/\n+l.length<=1000000/\l.length<=100000/\∀ l':List Dt,l'.Perm l->R (.d (.lst l')) (n+l.length)
open PySem.Spec
section
variable {X:Cx}{Pn:Option zr}{M S:List Nat}{fr fr':Bool}{e a b c:Expr}{es:List Expr}{f fa fb fc:Ev->Mo W}{pos p:Pos}
theorem zrT {tg e:Expr}{w1 w2:TI}(h1:QI X tg e w1)(h2:QI X tg e w2):QI X tg e (fun σ H R=>w1 σ H R\/w2 σ H R):=⟨fun pins s σ H R I h=>h.elim (h1.run pins s σ H R I) (h2.run pins s σ H R I)⟩
def zrq (fa:Ev->Mo W):Ev->Mo (List W):=fun ρ n Q=>zqt fa ρ n Q\/zqu fa ρ n Q
theorem zkD {tg:Expr}(K:PySem.W.Frag)(hK:X.K=K)(h:JE X Pn M fr e f):JI X Pn M false tg e (zrq f):=by
 obtain ⟨t1,q1,r1⟩:=(uH (tg:=tg) K hK h).ex
 obtain ⟨t2,q2,r2⟩:=(uI (tg:=tg) K hK h).ex
 exact ⟨_,zrT q1 q2,⟨fun A σ H ρ n Q R E P hf k=>hf.elim (fun z=>.inl (r1.run A σ H ρ n Q R E P z k)) fun z=>.inr (r2.run A σ H ρ n Q R E P z k)⟩⟩
def zl4 (fa:Ev->Mo (List W)):Ev->Mo (List W):=fun ρ n Q=>fa ρ n fun ws m=>∃ l k,ws=[.d (.lst l),.d (.tup k)]/\l.length=k.length/\Q (ziW l k) m
theorem zjo {K:PySem.W.Frag}{A:Addr->Prop}{H:Hp}{ad bd:Addr}{xs ys:List V}{l k:List Dt}(hlen:l.length=k.length)(h:z7 A H ad=some (.lst xs))(hl:IsL (z7 A H) l xs)(h':z7 A H bd=some (.tup ys))(hk:IsL (z7 A H) k ys):ItV false A H (Izm K ad bd) (ziW l k) where
 one:=fun i w A2 H2 e s _ hA=>by
  rw [ziI _ _ _ hlen] at e
  obtain ⟨d,h1,e⟩:=Option.bind_eq_some_iff.mp e
  obtain ⟨d',a,rfl⟩:=Option.map_eq_some_iff.mp e
  obtain ⟨x,hx,hd⟩:=hl.getD h1
  obtain ⟨y,hy,b⟩:=hk.getD a
  have g:=zq _ _ (s.lst h)
  have g':=zq _ _ (s.tup h')
  refine ⟨⟨xs,ys,x,y,.of g,.of g',hx,hy⟩,fun v H3 ⟨T,z,z',e1,hT,e3,hz,c⟩=>?_⟩
  subst e1 e3
  have q1:=hz xs (.of g)
  have q2:=c ys (.of g')
  rw [hx] at q1
  rw [hy] at q2
  cases q1
  cases q2
  have S:=xB.upd (o:=.tup [x,y]) hT
  exact ⟨S,Val.of ⟨T,_,rfl,zF (hA T hT) zo,_,_,rfl,(hd.stay s).stay (zw.same (uF S)),_,_,rfl,(b.stay s).stay (zw.same (uF S)),rfl⟩⟩
 stop:=fun A2 H2 s _=>⟨xs,.of (zq _ _ (s.lst h)),by rw [ziJ _ _ hlen,hl.length];exact Nat.le_refl _⟩
theorem zlP {elts:List Expr}{x1}{tpos:Pos}{fs:Ev->Mo (List W)}(hg:Gl X "zip")(hm:X.mg "zip" = none)(ha:JA X Pn M [a,b] fs)(hs:starEach [a,b] X.env=[(false,eval a X.env),(false,eval b X.env)]:=by rfl)(hs2:starEach [b] X.env=[(false,eval b X.env)]:=by rfl):JI X Pn M false (.Tuple elts x1 tpos) (.Call (.Name "zip" p) [a,b] [] pos) (zl4 fs):=by
 obtain ⟨te,q,r⟩:=ha.ex
 refine ⟨_,zmV hg hm q hs hs2,⟨fun A σ H ρ n Q R E P hf k=>?_⟩⟩
 refine r.run A σ H ρ n _ _ E P hf fun ws m vs H1 ⟨l,kk,e,hlen,r⟩ hv g=>?_
 subst e
 obtain ⟨v,s,rfl,⟨ad,xs,rfl,c,hl⟩,v2,s2,rfl,⟨bd,ys,rfl,d,hk⟩,hs⟩:=hv
 cases hs
 exact ⟨ad,bd,rfl,⟨xs,.of (zq _ _ c)⟩,⟨ys,.of (zq _ _ d)⟩,k _ m _ H1 r (zjo hlen c hl d hk) g⟩
def zgY:List W->Mo W:=fun ws n Q=>∃ kvs,ws=[.dt kvs]/\((kvs.map (·.1)).Nodup->Q (.d (.lst ((kvs.map (·.1)).map stD))) n)
theorem u5.keys {κ:Type}{G:Hp}:∀ {kvs:List (κ×Dt)} {ks:List (κ×V)},u5 G kvs ks->ks.map (·.1)=kvs.map (·.1)
 | [],_,h=>by cases h;rfl
 | q::r,_,⟨v,s,e,_,h⟩=>by subst e;rw [List.map_cons,List.map_cons,u5.keys h]
theorem znC:FL Pn true zie zgY:=⟨fun A H xs ws n Q R al b P ⟨i,e1,h⟩ k=>by
 subst e1
 obtain ⟨v,r,rfl,b1,b2⟩:=b
 cases b2
 obtain ⟨ad,ks,rfl,d,f⟩:=b1
 refine ⟨ad,ks,rfl,d,fun nd ys a p H' np g S=>?_⟩
 rw [f.keys] at nd a
 have c:=al.stay (zw.same S)
 have hl:=a.stay (zw.same S)
 refine k _ n _ H' (h nd) (Val.of ⟨p,ys,rfl,zF (al.new np) g,xu c.noT (xi _) hl⟩) (Go.same P S) fun _=>⟨p,rfl,.of np,p,ys,rfl,g,xu (fun b xs z e=>?_) (xi _) hl⟩
 rcases z with z | z
 ·exact c.noT b xs z e
 ·subst z;rw [g] at e;cases e⟩
theorem zrd {x:Str}{st:Stmt}{ps:List Str}{ds:List Value}{fA:Addr}{fd:FuncData}{k:Nat}{F:Option zr->List W->Mo W}{j kk:Nat}{fs:Ev->Mo (List W)}(D:DfnD X.K X.mg x st ps ds fA fd)(G:FnOk X.prog X.w X.K X.mg X.base CX0 j fA fd ps (spV k fr F))(hr:Room kk X.A)
  (ha:JA X Pn M (e::es) fs) (hjk:j<=kk:=by decide) (hg:Gl X x:=by rfl) (hdb:(x==("__debug__" : Str))=false:=by decide) (he:starEach (e::es) X.env=(false,eval e X.env)::starEach es X.env:=by rfl) (hpl:(backTo pos (starEach es X.env)).any (·.1)=false:=by rfl) :
  JE X Pn M fr (.Call (.Name x p) (e::es) [] pos) (mFn k (F Pn) fs):=by
 obtain ⟨ta,qa,ra⟩:=ha.ex
 exact ⟨_,zpo D G hr qa hjk hg hdb he hpl,zpB ra⟩
theorem WAt.mv {T T' G G':Hp}{w:W}{ad:Addr}(t:∀ o,T ad=some o->T' ad=some o)(g:xB G G')(m:w.mut=true)(h:WAt T G w (.ref ad)):WAt T' G' w (.ref ad):=by
 cases w with
 | d x=>
  cases x with
  | lst l=>obtain ⟨a2,xs,e2,g1,g2⟩:=h;cases e2;exact ⟨ad,xs,rfl,t _ g1,g2.stay (zw.same g)⟩
  | dct=>obtain ⟨a2,xs,e2,g1,g2⟩:=h;cases e2;exact ⟨ad,xs,rfl,t _ g1,g2⟩
  | _=>cases m
 | pen p=>cases m
 | dk k=>obtain ⟨a2,xs,e2,g1,g2,g3⟩:=h;cases e2;exact ⟨ad,xs,rfl,t _ g1,g2.stay (zw.same g),g3⟩
 | dt k=>obtain ⟨a2,xs,e2,g1,g2⟩:=h;cases e2;exact ⟨ad,xs,rfl,t _ g1,g2.stay (zw.same g)⟩
theorem At3.move {B:Bs}{A:Addr->Prop}{σ:St}{H:Hp}{ρ:Ev}{n:Nat}(h:At3 Pn B S M A σ H ρ n){i j:Nat}{w:W}{ad:Addr}(hj:j∈M)(hi:i∉M)(hiS:i∉S)(e:ρ[j]?=some (some w))(s:σ[j]?=some (some (.ref ad))):At3 Pn B S M (fun b=>A b/\b≠ad) (σ.set i (some (.ref ad))) H ((ρ.set j none).set i (some w)) n:=by
 obtain ⟨v,s1,_,s3⟩:=h.env.val j w e
 rw [s] at s1
 cases s1
 obtain ⟨a2,e2,hA,m,p⟩:=s3 hj
 cases e2
 have C:i≠j:=fun z=>hi (z ▸ hj)
 have c:∀ b,(A b/\b≠ad)->A b:=fun b z=>z.1
 have d:xB (z7 A H) (z7 (fun b=>A b/\b≠ad) H):=yZ c
 have get:∀ q (u:W),((ρ.set j none).set i (some w))[q]?=some (some u)->q≠i->q≠j/\ρ[q]?=some (some u):=fun q u z hq=>by
  rw [List.getElem?_set_ne (Ne.symm hq)] at z
  by_cases f:q=j
  ·subst f
   rw [List.getElem?_set] at z
   split at z
   ·split at z
    ·cases z
    ·cases z
   ·exact absurd rfl ‹_›
  ·rw [List.getElem?_set_ne (Ne.symm f)] at z
   exact ⟨f,z⟩
 have g:¬ B.A0 ad:=fun z=>by
  rcases h.mine j w ad hj e s with q | q
  ·obtain ⟨o,o1,o2,_⟩:=h.frm.al ad z
   exact q o o1 o2
  ·exact h.frm.cn ad q z
 have l:Val (fun b=>A b/\b≠ad) H w (.ref ad):=by
  exact WAt.mv (fun o ho=>zF (fun z=>z.2 rfl) ho) d p m
 refine ⟨⟨?_,?_,?_,?_⟩,⟨fun b z=>⟨h.frm.sub b z,fun q=>g (q ▸ z)⟩,fun b z=>h.frm.new b z.1,h.frm.st,h.frm.al,h.frm.cn,h.frm.cs⟩,h.pn.less c,h.prot.trans (zw.same d),fun k hk=>?_,fun k u b hk ek sk=>?_⟩
 ·rw [List.length_set,List.length_set,List.length_set];exact h.env.len
 ·intro q u eq
  by_cases hq:q=i
  ·subst hq
   have hlen:q<(ρ.set j none).length:=by
    have:=(List.getElem?_eq_some_iff.mp eq).1
    rwa [List.length_set] at this
   rw [List.getElem?_set_self hlen] at eq
   cases eq
   rw [List.length_set] at hlen
   refine ⟨.ref ad,List.getElem?_set_self (by rw [h.env.len];exact hlen),fun _=>l,fun z=>absurd z hi⟩
  ·obtain ⟨f,z⟩:=get q u eq hq
   obtain ⟨v,t1,t2,t3⟩:=h.env.val q u z
   refine ⟨v,by rw [List.getElem?_set_ne (Ne.symm hq)];exact t1,fun y=>WAt.up (zw.same d) (zw.same d) (t2 y),fun y=>?_⟩
   obtain ⟨b,rfl,hb,t,hm⟩:=t3 y
   refine ⟨b,rfl,⟨hb,fun q'=>?_⟩,WAt.up (zw.refl _) (zw.same d) t,hm⟩
   subst q'
   exact h.env.dis j q w u b hj y (Ne.symm f) e z s t1
 ·intro q k u u' b hq hk x e1 e2
  have r:q≠i:=fun z=>hi (z ▸ hq)
  have a:k≠i:=fun z=>hi (z ▸ hk)
  rw [List.getElem?_set_ne (Ne.symm r),List.getElem?_set_ne (Ne.symm a)]
  exact h.env.dis q k u u' b hq hk x (get q u e1 r).2 (get k u' e2 a).2
 ·exact fun b z=>h.env.al b z.1
 ·have a:k≠i:=fun z=>hiS (z ▸ hk)
  rw [List.getElem?_set_ne (Ne.symm a)]
  exact h.fix k hk
 ·have a:k≠i:=fun z=>hi (z ▸ hk)
  rw [List.getElem?_set_ne (Ne.symm a)] at sk
  exact h.mine k u b hk (get k u ek a).2 sk
def zl5 (i j:Nat):Ms:=fun ρ n k=>∃ w,ρ[j]?=some (some w)/\k.nx ((ρ.set j none).set i (some w)) n
theorem zlQ {i:Nat}(j:Nat){x y:Str}{px py sp:Pos}(hN:X.N.Nodup)(hi:X.N[i]?=some x)(hx:Loc X.env.scope x)(hj:j∈M:=by decide)(hiM:i∉M:=by decide)(hiS:i∉S:=by decide)(hNj:X.N[j]?=some y:=by rfl)(hv:Vis X.env.scope y:=by first | exact Or.inl rfl | exact Or.inr (Or.inl rfl) | exact Or.inr (Or.inr rfl))(hd:(y==("__debug__" : Str))=false:=by decide)
  (hcd:(y==("__classdict__" : Str))=false:=by decide) (hs:swapsWith (.Name y py) (some (.Name x px)) sp.line X.env=pure false:=by rfl) (hf:X.fn x=true\/X.env.scope.names.lookup x=some .local:=by first | exact .inl rfl | exact .inr rfl | assumption):JS X Pn S M fr (.Assign [.Name x px] (.Name y py) sp) (zl5 i j):=by
 refine ⟨_,uP (i:=i) hN hi hx (qv j hNj hv hd hcd) hs hf,⟨fun B A σ H ρ n k D a kk ⟨w,e,r⟩=>?_⟩⟩
 obtain ⟨v,s1,_,s3⟩:=a.env.val j w e
 obtain ⟨ad,rfl,hA,_,_⟩:=s3 hj
 exact ⟨.ref ad,s1,kk.nx _ _ H _ n (a.move hj hiM hiS e s1) r⟩
def zrt (i j:Nat)(fs:Ev->Mo (List W)):Ms:=fun ρ n k=>fs ρ n fun ws m=>∃ w u,ws=[w,u]/\k.nx ((ρ.set i (some w)).set j (some u)) m
theorem zoo {i j:Nat}{x y:Str}{fs:Ev->Mo (List W)}{px py pt:Pos}{kt k2 pt2}(hc:X.calm=true)(hN:X.N.Nodup)(hi:X.N[i]?=some x)(hj:X.N[j]?=some y)(hx:X.env.scope.names.lookup x=some .local)(hy:X.env.scope.names.lookup y=some .local)(ha:JA X Pn M [a,b] fs)(hij:i≠j:=by decide)(hiM:i∉M:=by decide)(hjM:j∉M:=by decide)(hiS:i∉S:=by decide)(hjS:j∉S:=by decide)
  (hw:swappedStores [.Tuple [.Name x px,.Name y py] kt pt] (.Tuple [a,b] k2 pt2) X.env=pure (some [x,y]):=by rfl)
  (hs:swapsWithSole [.Tuple [.Name x px,.Name y py] kt pt] (.Tuple [a,b] k2 pt2) pos.line X.env=pure false:=by rfl) :
  JS X Pn S M fr (.Assign [.Tuple [.Name x px,.Name y py] kt pt] (.Tuple [a,b] k2 pt2) pos) (zrt i j fs):=by
 obtain ⟨ta,qa,ra⟩:=ha.ex
 refine ⟨_,⟨zpc hc hN hi hj hij hx hy qa.run hw hs⟩,⟨fun B A σ H ρ n k D a kk hf=>?_⟩⟩
 refine ra.run A σ H ρ n _ _ a.env a.pn hf fun ws m vs H1 ⟨w,u,e,r⟩ hv g=>?_
 subst e
 obtain ⟨v,y,rfl,b1,b2⟩:=zqf hv
 have a':=a.step g
 refine ⟨v,y,rfl,kk.nx A _ H1 _ m (EnvR.mineG a' ((a'.env.set hiM b1).set hjM b2) fun q hq=>?_) r⟩
 have qi:i≠q:=fun z=>by
  subst z
  rcases List.mem_append.mp hq with z | z
  ·exact hiS z
  ·exact hiM z
 have qj:j≠q:=fun z=>by
  subst z
  rcases List.mem_append.mp hq with z | z
  ·exact hjS z
  ·exact hjM z
 rw [List.getElem?_set_ne qj,List.getElem?_set_ne qi,List.getElem?_set_ne qj,List.getElem?_set_ne qi]
 exact ⟨rfl,rfl⟩
end
open PySem.Spec
end L3
namespace L3
open PySem PySem.Spec L2
theorem ze6 (n w:Nat):List.range ((n+1) * w)=List.range w++(List.range (n * w)).map (w+·):=by
 rw [Nat.succ_mul,Nat.add_comm,List.range_add]
theorem zfq (w:Nat)(hw:0<w):∀ rows:List (List Int),(List.range (rows.length * w)).map (fun k=>rows.getD (k / w) []++[((k % w:Nat):Int)])=yP rows (zE w)
 | []=>by simp [yP]
 | r::rows=>by
  have ih:=zfq w hw rows
  have e:yP (r::rows) (zE w)=(zE w).map (fun v=>r++[v])++yP rows (zE w):=by unfold yP;rw [List.flatMap_cons]
  rw [e,List.length_cons,ze6,List.map_append,List.map_map,<- ih]
  congr 1
  ·unfold zE
   rw [List.map_map,Int.toNat_natCast]
   apply List.map_congr_left
   intro k hk
   have a:=List.mem_range.mp hk
   rw [Nat.div_eq_of_lt a,Nat.mod_eq_of_lt a]
   rfl
  ·apply List.map_congr_left
   intro k _
   show (r::rows).getD ((w+k) / w) []++[(((w+k) % w:Nat):Int)]=_
   rw [Nat.add_div_left k hw,Nat.add_mod_left]
   rfl
structure StOk (rm st:List Int):Prop where
 len:st.length=rm.length
 box:∀ b:Int,0<=b->b<rm.length->0<=zK st b/\zK st b<zK rm b
theorem zal:∀ (ns:List Int),(∀ n∈ns,1<=n)->((ud (ns.map zE)).length:Int)=yb ns:=by
 have:∀ (k:Nat) (ns:List Int),ns.length=k->(∀ n∈ns,1<=n)->((ud (ns.map zE)).length:Int)=yb ns:=by
  intro k
  induction k with
  | zero=>intro ns e _;rw [List.eq_nil_of_length_eq_zero e];rfl
  | succ k ih=>
   intro ns e h
   obtain ⟨m,x,rfl⟩:∃ m x,ns=m++[x]:=by
    have a:ns≠[]:=by intro z;rw [z] at e;cases e
    exact ⟨ns.dropLast,ns.getLast a,(List.dropLast_concat_getLast a).symm⟩
   rw [List.length_append] at e
   rw [List.map_append,List.map_cons,List.map_nil,yK,uX,xm,uZ]
   have h1:=ih m (by simpa using e) fun n hn=>h n (List.mem_append_left _ hn)
   have h2:=h x (List.mem_append_right _ (by simp))
   rw [Int.natCast_mul,h1,Int.toNat_of_nonneg (by lia)]
 exact fun ns h=>this _ ns rfl h
theorem zh7:∀ {ns:List Int},(∀ n∈ns,1<=n)->1<=yb ns:=fun {ns} h=>by
 have h1:=zal ns h
 have:∀ (ns:List Int) (a:Int),1<=a->(∀ n∈ns,1<=n)->1<=ns.foldl (· * ·) a:=by
  intro ns
  induction ns with
  | nil=>intro a ha _;exact ha
  | cons n ns ih=>
   intro a ha hn
   refine ih (a * n) ?_ fun m hm=>hn m (List.mem_cons_of_mem _ hm)
   have:=hn n List.mem_cons_self
   exact Int.le_trans (by decide) (Int.mul_le_mul ha this (by decide) (by lia))
 exact this ns 1 (by decide) h
theorem zh8 {ns:List Int}(hne:ns≠[])(h:∀ n∈ns,2<=n):2<=yb ns:=by
 obtain ⟨m,x,rfl⟩:∃ m x,ns=m++[x]:=⟨ns.dropLast,ns.getLast hne,(List.dropLast_concat_getLast hne).symm⟩
 rw [xm]
 have h1:=zh7 (ns:=m) fun n hn=>by have:=h n (List.mem_append_left _ hn);lia
 have h2:=h x (List.mem_append_right _ (by simp))
 exact Int.le_trans (by decide:(2:Int)<=1 * 2) (Int.mul_le_mul h1 h2 (by decide) (by lia))
def zof (a b:List Int)(k:Nat):Wi:=⟨((List.range a.length).filter fun i=>!decide (i=k)).map fun i:Nat=>((i:Int),a.getD i 0),(k:Int),b.getD k 0,a.getD k 0⟩
theorem zjf {rm a b:List Int}{k:Nat}(ha:StOk rm a)(hb:StOk rm b)(hk:k<a.length)(hne:a.getD k 0≠b.getD k 0):WishOk rm (zof a b k):=by
 have hl:=ha.len
 have A:∀ i:Nat,i<rm.length->0<=a.getD i 0/\a.getD i 0<zK rm (i:Int):=fun i hi=>by
  have:=ha.box (i:Int) (by lia) (by lia)
  rwa [zU] at this
 have Bb:∀ i:Nat,i<rm.length->0<=b.getD i 0/\b.getD i 0<zK rm (i:Int):=fun i hi=>by
  have:=hb.box (i:Int) (by lia) (by lia)
  rwa [zU] at this
 have c:k<rm.length:=by lia
 refine ⟨⟨fun q hq=>?_,?_⟩,by show (0:Int)<=(k:Int);lia,by show (k:Int)<_;lia,fun q hq=>?_,(Bb k c).1,(Bb k c).2,(A k c).1,(A k c).2,fun z=>hne z.symm⟩
 ·obtain ⟨i,hi,rfl⟩:=List.mem_map.mp hq
  have d:=List.mem_range.mp (List.mem_filter.mp hi).1
  exact ⟨by show (0:Int)<=(i:Int);lia,by show (i:Int)<_;lia,(A i (by lia)).1,(A i (by lia)).2⟩
 ·show List.Pairwise (fun a b:Int×Int=>a.1<b.1) (((List.range a.length).filter fun i=>!decide (i=k)).map fun i:Nat=>((i:Int),a.getD i 0))
  rw [List.pairwise_map]
  refine List.Pairwise.imp (R:=fun i j:Nat=>i<j) (fun {i j} h=>?_) (List.Pairwise.filter _ List.pairwise_lt_range)
  show (i:Int)<(j:Int)
  lia
 ·obtain ⟨i,hi,rfl⟩:=List.mem_map.mp hq
  have:=(List.mem_filter.mp hi).2
  show (i:Int)≠(k:Int)
  intro z
  have:i=k:=by lia
  subst this
  simp at *
structure Wider (rm rm':List Int):Prop where
 len:rm.length<=rm'.length
 box:∀ b:Int,0<=b->b<rm.length->zK rm b<=zK rm' b
theorem Wider.refl (rm:List Int):Wider rm rm:=⟨Nat.le_refl _,fun _ _ _=>Int.le_refl _⟩
theorem Wider.giv {rm rm':List Int}(w:Wider rm rm'){g:List (Int×Int)}(h:Giv rm g):Giv rm' g:=by
 have hl:=w.len
 refine ⟨fun q hq=>?_,h.up⟩
 have h1:=h.ok q hq
 have h2:=w.box q.1 h1.1 h1.2.1
 exact ⟨h1.1,by lia,h1.2.2.1,by lia⟩
theorem Wider.wish {rm rm':List Int}(w:Wider rm rm'){x:Wi}(h:WishOk rm x):WishOk rm' x:=by
 have hl:=w.len
 have h2:=w.box x.b h.b0 h.b1
 have r1:=h.r1
 have w1:=h.w1
 have b1:=h.b1
 exact ⟨w.giv h.giv,h.b0,by lia,h.apart,h.r0,by lia,h.w0,by lia,h.ne⟩
def zdE (rm:List Int)(bk:List Wi)(g:List (Int×Int)):List (List Int):=(zbO rm g).filter fun st=>decide (xa bk st (g.map (·.1))=[])
theorem zfk {bk:List Wi}{st hs:List Int}:ziL bk st hs=[]↔xa bk st hs=[]:=by
 unfold ziL
 constructor
 ·intro h
  apply List.eq_nil_iff_forall_not_mem.mpr
  intro z hz
  have:=zaS.mpr hz
  rw [h] at this
  simp at this
 ·intro h;rw [h];rfl
@[reducible] def ue (bk:List Wi):Dt:=.tup (bk.map zaV)
def u4 (rm:List Int)(bk:List Wi):Prop:=∀ x∈bk,WishOk rm x
@[reducible] def F_bett:FV:=fun _ ws n R=>∃ rm bk st hs,ws=[.d (stD rm),.d (ue bk),.d (stD st),.d (stD hs)]/\RoomOk rm/\u4 rm bk/\st.length=rm.length/\R (.d (uA (ziL bk st hs))) n
@[reducible] def zqh:FV:=fun _ ws n R=>∃ rm bk g,ws=[.d (stD rm),.d (ue bk),.d (zcW g)]/\RoomOk rm/\u4 rm bk/\Giv rm g/\R (.d (uA (zdE rm bk g))) n
theorem xH (r:Nat):zgc 0 r=(List.range r).map fun k:Nat=>W.d (.int (k:Int)):=by
 unfold zgc
 apply List.map_congr_left
 intro k _
 simp
theorem zcq {rows:List (List Int)}{i:Nat}(h:i<rows.length):atI (rows.map stD) (i:Int)=some (stD (rows.getD i [])):=by
 refine zfj ?_
 rw [List.getElem?_map,List.getElem?_eq_getElem h]
 simp [h]
theorem zfi {ns:List Int}(h8:ns.length<=8)(hb:∀ m∈ns,2<=m/\m<=4)(k:Nat):(ud ((ns.take k).map zE)).length<=65536:=by
 have:=zcN (cs:=ns.map zE) (by rw [List.length_map];exact h8) (fun c hc=>by
  obtain ⟨m,hm,rfl⟩:=List.mem_map.mp hc
  have:=hb m hm
  rw [uZ];lia) k
 rwa [<- List.map_take] at this
theorem x0 {rows:List (List Int)}{i:Nat}(h:i<rows.length):rows.getD i []∈rows:=by
 rw [List.getD_eq_getElem?_getD,List.getElem?_eq_getElem h]
 exact List.getElem_mem h
theorem znQ {L:List Dt}{a:Int}{G:Dt->Prop}(h0:0<=a)(h1:a<L.length)(h:∀ x∈L,G x):∃ x,atI L a=some x/\G x:=by
 obtain ⟨d,h2,h3⟩:=znR h0 h1
 exact ⟨d,h2,h d h3⟩
def zm9 (rm:List Int):Bool:=decide (rm≠[]/\rm.length<=8/\(∀ r∈rm,2<=r/\r<=4)/\yb rm<=256)
theorem yM (rm:List Int){d:Dt}(e:d=stD rm)(h:zm9 rm=true):∃ rm,d=stD rm/\RoomOk rm/\yb rm<=256:=by
 obtain ⟨h1,h2,h3,h4⟩:=of_decide_eq_true h
 exact ⟨rm,e,⟨h1,h2,h3⟩,h4⟩
theorem zbk:∀ {rm:List Int},(∀ r∈rm,2<=r/\r<=4)->yb rm<=256->rm.length<=8:=fun {rm} hb hp=>by
 have:∀ (k:Nat) (rm:List Int),rm.length=k->(∀ r∈rm,2<=r/\r<=4)->(2:Int) ^ k<=yb rm:=by
  intro k
  induction k with
  | zero=>intro rm e _;rw [List.eq_nil_of_length_eq_zero e];decide
  | succ k ih=>
   intro rm e hb
   obtain ⟨m,x,rfl⟩:∃ m x,rm=m++[x]:=by
    have a:rm≠[]:=by intro z;rw [z] at e;cases e
    exact ⟨rm.dropLast,rm.getLast a,(List.dropLast_concat_getLast a).symm⟩
   rw [List.length_append] at e
   have h1:=ih m (by simpa using e) fun n hn=>hb n (List.mem_append_left _ hn)
   have h2:=hb x (List.mem_append_right _ (by simp))
   rw [xm,Int.pow_succ]
   have h3:(0:Int)<=2 ^ k:=Int.pow_nonneg (by decide)
   exact Int.mul_le_mul h1 h2.1 (by decide) (by lia)
 apply Classical.byContradiction
 intro hn
 have h1:=this _ rm rfl hb
 have h2:(2:Int) ^ 9<=2 ^ rm.length:=by
  have:(2:Nat) ^ 9<=2 ^ rm.length:=Nat.pow_le_pow_right (by decide) (by lia)
  exact_mod_cast this
 have h3:(2:Int) ^ 9=512:=by decide
 lia
theorem zgR {a b:List Int}(hl:a.length=b.length)(hne:a≠b):∃ k z6,((List.range a.length).filter fun k=>!decide (a.getD k 0=b.getD k 0))=k::z6/\k<a.length/\a.getD k 0≠b.getD k 0:=by
 cases h:(List.range a.length).filter fun k=>!decide (a.getD k 0=b.getD k 0) with
 | nil=>
  exfalso
  apply hne
  apply List.ext_getElem hl
  intro i h1 h2
  have:=List.filter_eq_nil_iff.mp h i (List.mem_range.mpr h1)
  have e:a.getD i 0=b.getD i 0:=by simpa using this
  simpa [h1,h2] using e
 | cons k z6=>
  have hk:k∈(List.range a.length).filter fun k=>!decide (a.getD k 0=b.getD k 0):=by rw [h];simp
  obtain ⟨h1,h2⟩:=List.mem_filter.mp hk
  exact ⟨k,z6,rfl,List.mem_range.mp h1,by simpa using h2⟩
theorem StOk.snoc {rm st:List Int}{w v:Int}(h:StOk rm st)(v0:0<=v)(v1:v<w):StOk (rm++[w]) (st++[v]):=by
 have hl:=h.len
 refine ⟨by rw [List.length_append,List.length_append,hl];rfl,fun b b0 b1=>?_⟩
 rw [List.length_append] at b1
 by_cases hb:b<(rm.length:Int)
 ·rw [xF b0 (by lia),xF b0 hb]
  exact h.box b b0 hb
 ·have e:b=(rm.length:Int):=by
   have:b<(rm.length:Int)+1:=by simpa using b1
   lia
  subst e
  rw [uM,<- hl,uM]
  exact ⟨v0,v1⟩
theorem zgh {sts lg B:List (List Int)}{k w:Nat}(hk:k<sts.length)(hN:sts.Nodup)(h1:lg.Nodup)(h2:∀ x∈lg,∃ a∈sts.take k,∃ v:Int,0<=v/\v<w/\x=a++[v])(h3:lg.length=k * w)(hB:B.Perm ((List.range w).map fun v:Nat=>sts.getD k []++[(v:Int)])) :
  (lg++B).Nodup/\(∀ x∈lg++B,∃ a∈sts.take (k+1),∃ v:Int,0<=v/\v<w/\x=a++[v])/\(lg++B).length=(k+1) * w:=by
 have c:sts.getD k []=sts[k]:=by simp [hk]
 have ht:sts.take (k+1)=sts.take k++[sts[k]]:=zn (List.getElem?_eq_getElem hk)
 have hb:∀ x∈B,∃ v:Int,0<=v/\v<w/\x=sts[k]++[v]:=fun x hx=>by
  obtain ⟨v,hv,rfl⟩:=List.mem_map.mp (hB.mem_iff.mp hx)
  have:=List.mem_range.mp hv
  exact ⟨(v:Int),by lia,by lia,by rw [c]⟩
 have nB:B.Nodup:=by
  refine hB.nodup_iff.mpr ?_
  show List.Pairwise _ _
  rw [List.pairwise_map]
  refine List.Pairwise.imp (fun {a b} h e=>h ?_) List.nodup_range
  have:=List.append_cancel_left e
  have h2:(a:Int)=(b:Int):=by simpa using this
  lia
 have d:sts[k]∉sts.take k:=fun z=>by
  have hd:=hN
  rw [<- List.take_append_drop k sts,List.drop_eq_getElem_cons hk] at hd
  exact (List.nodup_append.mp hd).2.2 _ z _ List.mem_cons_self rfl
 refine ⟨List.nodup_append.mpr ⟨h1,nB,fun x hx y hy e=>?_⟩,fun x hx=>?_,?_⟩
 ·obtain ⟨a,ha,v,_,_,rfl⟩:=h2 x hx
  obtain ⟨u,_,_,rfl⟩:=hb y hy
  have:=(List.append_inj' e rfl).1
  rw [this] at ha
  exact d ha
 ·rw [ht]
  rcases List.mem_append.mp hx with z | z
  ·obtain ⟨a,ha,r⟩:=h2 x z
   exact ⟨a,List.mem_append_left _ ha,r⟩
  ·obtain ⟨v,r⟩:=hb x z
   exact ⟨_,List.mem_append_right _ (by simp),v,r⟩
 ·rw [List.length_append,h3,hB.length_eq,List.length_map,List.length_range,Nat.succ_mul]
theorem xN {α β:Type}(f:α->β)(l:List α)(lo hi:Option Int):uu (l.map f) lo hi=(uu l lo hi).map f:=by
 unfold uu
 rw [List.length_map,<- List.map_drop,<- List.map_take]
theorem zez {α:Type}{l:List α}{lo hi:Option Int}{x:α}(h:x∈uu l lo hi):x∈l:=List.mem_of_mem_drop (List.mem_of_mem_take h)
theorem ug {α:Type}(l:List α)(lo hi:Option Int):(uu l lo hi).length<=l.length:=by
 unfold uu
 rw [List.length_take,List.length_drop]
 lia
theorem znW {st:List Int}{b w:Int}(h0:0<=b):uu st none (some b)++[w]++uu st (some (b+1)) none=chg st b w:=by
 have h:=zlf st (w:=w) h0
 have e1:zcT (st.map V.int) none (some b)=(uu st none (some b)).map V.int:=by rw [<- xN];rfl
 have e2:zcT (st.map V.int) (some (b+1)) none=(uu st (some (b+1)) none).map V.int:=by rw [<- xN];rfl
 rw [e1,e2] at h
 have e3:(uu st none (some b)).map V.int++[V.int w]++(uu st (some (b+1)) none).map V.int=(uu st none (some b)++[w]++uu st (some (b+1)) none).map V.int:=by rw [List.map_append,List.map_append];rfl
 rw [e3] at h
 exact List.map_inj_right (fun a b e=>by cases e;rfl) |>.mp h
theorem zcz {l:List (List Int)}(h:l.Nodup){k:Nat}(hk:k+1<l.length):l.getD k []≠l.getD (k+1) []:=by
 have:=List.pairwise_iff_getElem.mp h k (k+1) (by lia) hk (by lia)
 simpa [show k<l.length by lia,hk] using this
theorem u4.cut {rm:List Int}{bk:List Wi}(h:u4 rm bk)(lo hi:Option Int):u4 rm (uu bk lo hi):=fun x hx=>h x (zez hx)
theorem u4.app {rm:List Int}{bk bk':List Wi}(h:u4 rm bk)(h':u4 rm bk'):u4 rm (bk++bk'):=fun x hx=>(List.mem_append.mp hx).elim (h x) (h' x)
theorem u4.set {rm:List Int}{bk:List Wi}(h:u4 rm bk){x:Wi}(hx:WishOk rm x)(i:Nat):u4 rm (bk.set i x):=fun y hy=>(List.mem_or_eq_of_mem_set hy).elim (h y) fun e=>e ▸ hx
theorem u4.ins {rm:List Int}{bk:List Wi}(h:u4 rm bk){x:Wi}(hx:WishOk rm x)(i:Nat):u4 rm (zkz bk i x):=fun y hy=>by
 rcases List.mem_append.mp hy with z | z
 ·exact h y (List.mem_of_mem_take z)
 ·rcases List.mem_cons.mp z with rfl | z
  ·exact hx
  ·exact h y (List.mem_of_mem_drop z)
theorem zlI {α β:Type}(f:α->β)(l:List α)(i:Nat)(x:α):zkz (l.map f) i (f x)=(zkz l i x).map f:=by
 unfold zkz
 rw [<- List.map_take,<- List.map_drop,List.map_append,List.map_cons]
theorem zlH {α:Type}(l:List α)(i:Nat)(x:α):(zkz l i x).length=l.length+1:=by
 unfold zkz
 rw [List.length_append,List.length_cons,List.length_take,List.length_drop]
 lia
def zc0 (n:Nat):List Int:=(List.range n).map fun i:Nat=>(i:Int)
theorem zd9 (n:Nat):zim n=(zc0 n).map Dt.int:=by unfold zim zc0;rw [List.map_map];rfl
theorem zbI {n:Nat}{x:Int}(h:x∈zc0 n):0<=x/\x<n:=by
 obtain ⟨i,hi,rfl⟩:=List.mem_map.mp h
 have:=List.mem_range.mp hi
 lia
theorem y3 (n:Nat):(zc0 n).length=n:=by unfold zc0;rw [List.length_map,List.length_range]
theorem zbJ (n:Nat):(zc0 n).Nodup:=by
 unfold zc0
 show List.Pairwise _ _
 rw [List.pairwise_map]
 exact List.Pairwise.imp (fun {a b} h e=>h (by lia)) List.nodup_range
def unI:Dt->Int
 | .int i=>i
 | _=>0
theorem zb0 {l:List Dt}{xs:List Int}(h:l.Perm (xs.map Dt.int)):∃ ys:List Int,l=ys.map Dt.int/\ys.Perm xs:=by
 refine ⟨l.map unI,?_,?_⟩
 ·rw [List.map_map]
  have:∀ d∈l,(Dt.int ∘ unI) d=d:=fun d hd=>by
   obtain ⟨x,_,rfl⟩:=List.mem_map.mp (h.mem_iff.mp hd)
   rfl
  exact (List.map_id'' (f:=Dt.int ∘ unI) (l:=l) |> fun _=>(List.map_congr_left this).trans (List.map_id l)).symm
 ·have:=h.map unI
  rw [List.map_map] at this
  have e:xs.map (unI ∘ Dt.int)=xs:=(List.map_congr_left fun _ _=>rfl).trans (List.map_id xs)
  rwa [e] at this
theorem zfr {α:Type}(l:List α)(k:Nat):uu l none (some (k:Int))=l.take k:=by
 unfold uu
 rw [HT.sIx_none,HT.sIx_nat,List.drop_zero,Nat.sub_zero]
 rw [List.take_eq_take_iff]
 lia
structure ParOk (rm:List Int)(box:Int)(qs:List Int):Prop where
 up:qs.Pairwise (· < ·)
 ok:∀ q∈qs,0<=q/\q<rm.length/\q≠box
theorem ParOk.cut {rm:List Int}{box:Int}{qs:List Int}(h:ParOk rm box qs)(lo hi:Option Int):ParOk rm box (uu qs lo hi):=
 ⟨(h.up.drop).take,fun q hq=>h.ok q (zez hq)⟩
theorem zoV {rm:List Int}{bs ps qs:List Int}{k:Nat}{t:Option Int}(hb:bs.Perm (zc0 rm.length))(hk:k<bs.length)(hp:ps.Perm (bs.take k))(hq:qs.Perm (uu ps none t))(hu:qs.Pairwise (·<=·)):ParOk rm (bs.getD k 0) qs:=by
 have nb:bs.Nodup:=hb.nodup_iff.mpr (zbJ _)
 have np:ps.Nodup:=hp.nodup_iff.mpr (nb.sublist (List.take_sublist _ _))
 have nq:qs.Nodup:=hq.nodup_iff.mpr ((np.sublist (List.drop_sublist _ _)).sublist (List.take_sublist _ _))
 have c:bs.getD k 0=bs[k]:=by simp [hk]
 refine ⟨?_,fun q d=>?_⟩
 ·exact (List.Pairwise.and hu nq).imp fun {a b} h=>by obtain ⟨h1,h2⟩:=h;lia
 ·have h1:q∈bs.take k:=hp.mem_iff.mp (zez (hq.mem_iff.mp d))
  have h2:=zbI (hb.mem_iff.mp (List.mem_of_mem_take h1))
  refine ⟨h2.1,h2.2,fun z=>?_⟩
  have hd:=nb
  rw [<- List.take_append_drop k bs,List.drop_eq_getElem_cons hk] at hd
  exact (List.nodup_append.mp hd).2.2 _ h1 _ List.mem_cons_self (by rw [z,c])
theorem zk9:∀ (ns st:List Int),st∈ud (ns.map zE)->StOk ns st:=by
 have:∀ (k:Nat) (ns:List Int),ns.length=k->∀ st,st∈ud (ns.map zE)->StOk ns st:=by
  intro k
  induction k with
  | zero=>
   intro ns e st a
   rw [List.eq_nil_of_length_eq_zero e] at a ⊢
   rw [List.mem_singleton.mp a]
   exact ⟨rfl,fun b b0 b1=>absurd b1 (by simp;lia)⟩
  | succ k ih=>
   intro ns e st a
   obtain ⟨m,x,rfl⟩:∃ m x,ns=m++[x]:=by
    have c:ns≠[]:=by intro z;rw [z] at e;cases e
    exact ⟨ns.dropLast,ns.getLast c,(List.dropLast_concat_getLast c).symm⟩
   rw [List.length_append] at e
   rw [List.map_append,List.map_cons,List.map_nil,yK] at a
   obtain ⟨r,hr,a⟩:=List.mem_flatMap.mp a
   obtain ⟨v,hv,rfl⟩:=List.mem_map.mp a
   obtain ⟨j,hj,rfl⟩:=List.mem_map.mp hv
   have:=List.mem_range.mp hj
   exact (ih m (by simpa using e) r hr).snoc (by lia) (by lia)
 exact fun ns st h=>this _ ns rfl st h
theorem zlA {rm:List Int}{box:Int}{qs st:List Int}(h:ParOk rm box qs)(hs:StOk (qs.map (zK rm)) st):Giv rm (qs.zip st)/\∀ q∈qs.zip st,q.1≠box:=by
 have hl:=hs.len
 rw [List.length_map] at hl
 have hm:∀ q∈qs.zip st,q.1∈qs:=fun q hq=>(List.of_mem_zip hq).1
 refine ⟨⟨fun q hq=>?_,?_⟩,fun q hq=>(h.ok _ (hm q hq)).2.2⟩
 ·obtain ⟨i,hi,e⟩:=List.mem_iff_getElem.mp hq
  rw [List.getElem_zip] at e
  rw [List.length_zip] at hi
  have h1:=h.ok _ (hm q hq)
  have h2:=hs.box (i:Int) (by lia) (by rw [List.length_map];lia)
  have e1:zK st (i:Int)=q.2:=by rw [zU,<- e];simp [show i<st.length by lia]
  have e2:zK (qs.map (zK rm)) (i:Int)=zK rm q.1:=by rw [zU,<- e];simp [show i<qs.length by lia]
  rw [e1,e2] at h2
  exact ⟨h1.1,h1.2.1,h2.1,h2.2⟩
 ·have e:(qs.zip st).map (·.1)=qs:=List.map_fst_zip (by lia)
  have:=h.up
  rw [<- e,List.pairwise_map] at this
  exact this
theorem zfR:∀ (qs st:List Int),ziW (qs.map Dt.int) (st.map Dt.int)=(qs.zip st).map fun q=>W.d (u9 q)
 | [],_=>by cases ‹List Int› <;> rfl
 | _::_,[]=>rfl
 | q::qs,s::st=>by
  show _::ziW (qs.map Dt.int) (st.map Dt.int)=_::_
  rw [zfR qs st]
  rfl
theorem zpi {κ:Type}[DecidableEq κ](kvs:List (κ×Dt))(k:κ)(d:Dt):zf9 kvs k d≠[]:=by
 unfold zf9
 split
 ·rename_i h
  intro z
  have:=List.map_eq_nil_iff.mp z
  rw [this] at h
  simp at h
 ·simp
theorem zjZ {κ:Type}[DecidableEq κ]{kvs:List (κ×Dt)}{k:κ}{d:Dt}{x:κ}(h:x∈(zf9 kvs k d).map (·.1)):x=k\/x∈kvs.map (·.1):=by
 unfold zf9 at h
 split at h
 ·rw [List.map_map] at h
  obtain ⟨q,hq,rfl⟩:=List.mem_map.mp h
  right
  refine List.mem_map.mpr ⟨q,hq,?_⟩
  show q.1=(if q.1=k then (q.1,d) else q).1
  split <;> rfl
 ·rw [List.map_append] at h
  rcases List.mem_append.mp h with z | z
  ·exact .inr z
  ·left;simpa using z
theorem zmH {κ:Type}[DecidableEq κ](kvs:List (κ×Dt))(k:κ)(d:Dt):(zf9 kvs k d).length<=kvs.length+1:=by
 unfold zf9
 split
 ·rw [List.length_map];lia
 ·rw [List.length_append];simp
theorem zcu (bk:List Wi)(x:Wi)(st hs:List Int):xa (bk++[x]) st hs=xa bk st hs++(if (za2 st x&&!hs.contains x.b)=true then [chg st x.b x.r] else []):=by
 unfold xa
 rw [List.filter_append,List.map_append]
 congr 1
 by_cases h:(za2 st x&&!hs.contains x.b)=true
 ·rw [if_pos h,List.filter_cons,if_pos h];rfl
 ·rw [if_neg h,List.filter_cons,if_neg h];rfl
theorem xl {ns:List Int}:(Dt.lst (ns.map .int)).eqOk:=zbG (ns:=ns)
theorem zle {st:List Int}{b x:Int}{n:Nat}{Q:W->Nat->Prop}(b0:0<=b)(hz:st.length<=1000)(h:Q (.d (stD (chg st b x))) n):zeE (.d (.tup (uu (st.map Dt.int) none (some b)))) (.d (.tup [.int x])) n fun w m=>zeE w (.d (.tup (uu (st.map Dt.int) (some (b+1)) none))) m Q:=by
 have c1:=ug st none (some b)
 have c2:=ug st (some (b+1)) none
 rw [xN,xN]
 refine ⟨_,_,rfl,rfl,by rw [List.length_map];exact Nat.le_trans (by simp;lia:_<=1001) (by decide),_,_,rfl,rfl,by rw [List.length_append,List.length_map,List.length_map];exact Nat.le_trans (by simp;lia:_<=2001) (by decide),?_⟩
 have e:(uu st none (some b)).map Dt.int++[Dt.int x]++(uu st (some (b+1)) none).map Dt.int=(chg st b x).map Dt.int:=by
  rw [<- znW b0,List.map_append,List.map_append];rfl
 rw [e]
 exact h
theorem ziK:∀ (sts:List (List Int)),ziW (sts.map stD) (sts.map stD)=sts.map fun st=>W.d (.tup [stD st,stD st])
 | []=>rfl
 | q::qs=>by
  show _::ziW (qs.map stD) (qs.map stD)=_::_
  rw [ziK qs]
theorem ziT {rm:List Int}{b:Int}(hR:RoomOk rm)(b0:0<=b)(b1:b<rm.length)(h4:zK rm b<4):RoomOk (chg rm b (zK rm b+1))/\Wider rm (chg rm b (zK rm b+1)):=by
 have hl:=zgy (w:=zK rm b+1) b0 b1
 have hm:=yN hR.box b0 b1
 refine ⟨⟨fun z=>?_,by rw [hl];exact hR.few,fun r hr=>?_⟩,⟨by lia,fun c c0 c1=>?_⟩⟩
 ·have:=hR.pos
  rw [z] at hl
  simp at hl
  lia
 ·unfold chg at hr
  rcases List.mem_append.mp hr with z | z
  ·rcases List.mem_append.mp z with z | z
   ·exact hR.box r (List.mem_of_mem_take z)
   ·rw [List.mem_singleton.mp z];lia
  ·exact hR.box r (List.mem_of_mem_drop z)
 ·rw [zlg b0 b1 c0]
  split
  ·rename_i e;rw [e];lia
  ·exact Int.le_refl _
theorem ziO {rm:List Int}(hR:RoomOk rm)(h:rm.length<8):RoomOk (rm++[2])/\Wider rm (rm++[2]):=by
 refine ⟨⟨by simp,by rw [List.length_append];exact h,fun r hr=>?_⟩,⟨by rw [List.length_append];lia,fun c c0 c1=>?_⟩⟩
 ·rcases List.mem_append.mp hr with z | z
  ·exact hR.box r z
  ·rw [List.mem_singleton.mp z];lia
 ·rw [xF c0 c1];exact Int.le_refl _
theorem zdF {rm:List Int}{bk:List Wi}{g:List (Int×Int)}(hG:Giv rm g):∀ st∈zdE rm bk g,st.length=rm.length:=fun st a=>zbP hG st (List.mem_filter.mp a).1
theorem zgu {rm:List Int}{bk:List Wi}{g:List (Int×Int)}(hR:RoomOk rm):(zdE rm bk g).length<=65536:=Nat.le_trans (List.length_filter_le _ _) (zaE hR)
open PySem.Spec
section
variable {X:Cx}{Pn:Option zr}{M S:List Nat}{fr fr':Bool}{e a b c:Expr}{es:List Expr}{f fa fb fc:Ev->Mo W}{pos p:Pos}
end
end L3
namespace L2
open PySem PySem.Spec PyProof.Rows
section
variable {prog:Program}{w:World}{A:Around}{E:Value->Shared->Prop}{R:Result->Shared->Prop}{s:Shared}
end
section
variable {X:Cx}{pins:List (Addr×Obj)}{σ:St}{H:Hp}{s:Shared}{a:Addr}{y v:V}{u r:Value}{o:Option V}{A:Around}{E:Value->Shared->Prop}
end
end L2
namespace L3
open PySem PySem.Spec L2
section
variable {X:Cx}{Pn:Option zr}{M S:List Nat}{fr fr':Bool}{e a b c:Expr}{es:List Expr}{f fa fb fc:Ev->Mo W}{pos p:Pos}
def zn6 (mg:W->Ev->(Ev->Prop)->Prop)(ft:Ev->Mo Bool)(fk fv:Ev->Mo W)(ρ0:Ev)(Q:W->Nat->Prop):List W->Nat->Prop:=fun l n1=>l.length<=lim/\∃ I:Nat->Ev->Nat->List (List Int×Dt)->Prop,I 0 ρ0 n1 []/\
 (∀ i w ρ' n' acc,l[i]?=some w->I i ρ' n' acc->mg w ρ' fun ρ1=>ft ρ1 n' fun b n2=>if b=true then fk ρ1 n2 fun y n3=>fv ρ1 n3 fun x n4=>∃ st d,y = .d (stD st)/\x = .d d/\I (i+1) ρ1 n4 (zf9 acc st d) else I (i+1) ρ1 n2 acc)/\
 ∀ ρ' n' acc,I l.length ρ' n' acc->Q (.dt acc) n'
@[reducible] def zrk (fi:Ev->Mo (List W)) (mg:W->Ev->(Ev->Prop)->Prop) (ft:Ev->Mo Bool) (fk fv:Ev->Mo W) (cix:List (Option Nat)):Ev->Mo W:=fun ρ n Q=>fi ρ n (zn6 mg ft fk fv (zem ρ cix) Q)
def zn5 (mg:W->Ev->(Ev->Prop)->Prop)(ft:Ev->Mo Bool)(fk fv:Ev->Mo W)(ρ0:Ev)(Q:W->Nat->Prop):List W->Nat->Prop:=fun l n1=>l.length<=lim/\∃ I:Nat->Ev->Nat->List (Key×Dt)->Prop,I 0 ρ0 n1 []/\
 (∀ i w ρ' n' acc,l[i]?=some w->I i ρ' n' acc->mg w ρ' fun ρ1=>ft ρ1 n' fun b n2=>if b=true then fk ρ1 n2 fun y n3=>fv ρ1 n3 fun x n4=>∃ (j:Int) (d:Dt),y = .d (.int j)/\x = .d d/\I (i+1) ρ1 n4 (zf9 acc (Sum.inl j) d) else I (i+1) ρ1 n2 acc)/\
 ∀ ρ' n' acc,I l.length ρ' n' acc->Q (.dk acc) n'
@[reducible] def zrj (fi:Ev->Mo (List W)) (mg:W->Ev->(Ev->Prop)->Prop) (ft:Ev->Mo Bool) (fk fv:Ev->Mo W) (cix:List (Option Nat)):Ev->Mo W:=fun ρ n Q=>fi ρ n (zn5 mg ft fk fv (zem ρ cix) Q)
end
open PySem.Spec
@[reducible] def onI (w:W) (P:Int->Prop):Prop:=match w with | .d (.int i)=>P i | _=>False
@[reducible] def onB (w:W) (P:Bool->Prop):Prop:=match w with | .d (.bl i)=>P i | _=>False
@[reducible] def onT (w:W) (P:List Dt->Prop):Prop:=match w with | .d (.tup i)=>P i | _=>False
@[reducible] def onL (w:W) (P:List Dt->Prop):Prop:=match w with | .d (.lst i)=>P i | _=>False
@[reducible] def onS (w:W) (P:List Dt->Prop):Prop:=match w with | .d (.lst i)=>P i | .d (.tup i)=>P i | _=>False
@[reducible] def onD (w:W) (P:Dt->Prop):Prop:=match w with | .d i=>P i | _=>False
@[reducible] def onK (w:W) (P:List (Key×Dt)->Prop):Prop:=match w with | .dk i=>P i | _=>False
@[reducible] def onE (w:W) (P:List (List Int×Dt)->Prop):Prop:=match w with | .dt i=>P i | _=>False
@[reducible] def onO {α:Type} (o:Option α) (P:α->Prop):Prop:=match o with | some i=>P i | none=>False
@[reducible] def onC (c:Bool) (A B:Prop):Prop:=match c with | true=>A | false=>B
@[reducible] def on1 (l:List W) (P:W->Prop):Prop:=match l with | [a]=>P a | _=>False
@[reducible] def on2 (l:List W) (P:W->W->Prop):Prop:=match l with | [a,b]=>P a b | _=>False
@[reducible] def onV:Ev->Nat->(W->Prop)->Prop
 | [],_,_=>False
 | a::_,0,P=>onO a P
 | _::r,i+1,P=>onV r i P
@[reducible] def onP:Ev->Nat->W->(Ev->Prop)->Prop
 | [],_,_,Q=>Q []
 | _::r,0,w,Q=>Q (some w::r)
 | a::r,i+1,w,Q=>onP r i w fun r'=>Q (a::r')
@[reducible] def onN:Ev->Nat->(Ev->Prop)->Prop
 | [],_,Q=>Q []
 | _::r,0,Q=>Q (none::r)
 | a::r,i+1,Q=>onN r i fun r'=>Q (a::r')
@[reducible] def zdi {α:Type}:Nat->List α->Prop->Prop
 | 0,[],P=>P
 | k+1,_::r,P=>zdi k r P
 | _,_,_=>False
theorem zai {w:W}{P:Int->Prop}:onI w P = ∃ i,w = .d (.int i)/\P i:=propext ⟨fun h=>by unfold onI at h;split at h;exact ⟨_,rfl,h⟩;exact h.elim,fun ⟨i,e,h⟩=>by subst e;exact h⟩
theorem zoH {w:W}{P:Bool->Prop}:onB w P = ∃ i,w = .d (.bl i)/\P i:=propext ⟨fun h=>by unfold onB at h;split at h;exact ⟨_,rfl,h⟩;exact h.elim,fun ⟨i,e,h⟩=>by subst e;exact h⟩
theorem zaK {w:W}{P:List Dt->Prop}:onT w P = ∃ i,w = .d (.tup i)/\P i:=propext ⟨fun h=>by unfold onT at h;split at h;exact ⟨_,rfl,h⟩;exact h.elim,fun ⟨i,e,h⟩=>by subst e;exact h⟩
theorem ux {w:W}{P:List Dt->Prop}:onL w P = ∃ i,w = .d (.lst i)/\P i:=propext ⟨fun h=>by unfold onL at h;split at h;exact ⟨_,rfl,h⟩;exact h.elim,fun ⟨i,e,h⟩=>by subst e;exact h⟩
theorem zhY {w:W}{P:List Dt->Prop}:onS w P = ∃ i,(w = .d (.lst i)\/w = .d (.tup i))/\P i:=propext ⟨fun h=>by unfold onS at h;split at h;exact ⟨_,.inl rfl,h⟩;exact ⟨_,.inr rfl,h⟩;exact h.elim,fun ⟨i,e,h⟩=>by rcases e with e | e <;> subst e <;> exact h⟩
theorem uw {w:W}{P:Dt->Prop}:onD w P = ∃ i,w = .d i/\P i:=propext ⟨fun h=>by unfold onD at h;split at h;exact ⟨_,rfl,h⟩;exact h.elim,fun ⟨i,e,h⟩=>by subst e;exact h⟩
theorem zkO {w:W}{P:List (Key×Dt)->Prop}:onK w P = ∃ i,w = .dk i/\P i:=propext ⟨fun h=>by unfold onK at h;split at h;exact ⟨_,rfl,h⟩;exact h.elim,fun ⟨i,e,h⟩=>by subst e;exact h⟩
theorem zkN {w:W}{P:List (List Int×Dt)->Prop}:onE w P = ∃ i,w = .dt i/\P i:=propext ⟨fun h=>by unfold onE at h;split at h;exact ⟨_,rfl,h⟩;exact h.elim,fun ⟨i,e,h⟩=>by subst e;exact h⟩
theorem zbg {α:Type}{w:Option α}{P:α->Prop}:onO w P = ∃ i,w=some i/\P i:=propext ⟨fun h=>by unfold onO at h;split at h;exact ⟨_,rfl,h⟩;exact h.elim,fun ⟨i,e,h⟩=>by subst e;exact h⟩
theorem zbX {c:Bool}{A B:Prop}:onC c A B=if c=true then A else B:=by cases c <;> simp [onC]
theorem zah {l:List W}{P:W->Prop}:on1 l P = ∃ a,l=[a]/\P a:=propext ⟨fun h=>by unfold on1 at h;split at h;exact ⟨_,rfl,h⟩;exact h.elim,fun ⟨i,e,h⟩=>by subst e;exact h⟩
theorem zhV {l:List W}{P:W->W->Prop}:on2 l P = ∃ a b,l=[a,b]/\P a b:=propext ⟨fun h=>by unfold on2 at h;split at h;exact ⟨_,_,rfl,h⟩;exact h.elim,fun ⟨i,j,e,h⟩=>by subst e;exact h⟩
theorem zbh:∀ {ρ:Ev} {i:Nat} {P:W->Prop},onV ρ i P = ∃ w,ρ[i]?=some (some w)/\P w
 | [],i,P=>by simp [onV]
 | some w::r,0,P=>by simp [onV]
 | none::r,0,P=>by simp [onV]
 | some w::r,i+1,P=>by simpa [onV] using zbh (ρ:=r) (i:=i) (P:=P)
 | none::r,i+1,P=>by simpa [onV] using zbh (ρ:=r) (i:=i) (P:=P)
theorem uN:∀ {ρ:Ev} {i:Nat} {w:W} {Q:Ev->Prop},onP ρ i w Q=Q (ρ.set i (some w))
 | [],i,w,Q=>rfl
 | a::r,0,w,Q=>rfl
 | a::r,i+1,w,Q=>by rw [onP,uN];rfl
theorem zkP:∀ {ρ:Ev} {i:Nat} {Q:Ev->Prop},onN ρ i Q=Q (ρ.set i none)
 | [],i,Q=>rfl
 | a::r,0,Q=>rfl
 | a::r,i+1,Q=>by rw [onN,zkP];rfl
theorem zbz {α:Type}:∀ {k:Nat} {l:List α} {P:Prop},zdi k l P=(l.length=k/\P)
 | 0,[],P=>by simp [zdi]
 | 0,a::r,P=>by simp [zdi]
 | k+1,[],P=>by simp [zdi]
 | k+1,a::r,P=>by simp [zdi,zbz (l:=r)]
theorem xS {P:Prop}[Decidable P]{A B:Prop}(h1:P->A)(h2:¬ P->B):onC (decide P) A B:=by
 by_cases h:P
 ·rw [decide_eq_true h];exact h1 h
 ·rw [decide_eq_false h];exact h2 h
theorem zf5 {P:Prop}[Decidable P]{A B:Prop}(h1:¬ P->A)(h2:P->B):onC (!decide P) A B:=by
 by_cases h:P
 ·rw [decide_eq_true h];exact h2 h
 ·rw [decide_eq_false h];exact h1 h
theorem zjH {c:Bool}{A B:Prop}(h1:c=true->A)(h2:c=false->B):onC c A B:=by
 cases c
 ·exact h2 rfl
 ·exact h1 rfl
theorem zhX {c:Bool}{A B:Prop}(h1:c=false->A)(h2:c=true->B):onC (!c) A B:=by
 cases c
 ·exact h1 rfl
 ·exact h2 rfl
theorem zoJ {c:Bool}{A B:Prop}(h:c=true)(h1:A):onC c A B:=by subst h;exact h1
theorem zoI {c:Bool}{A B:Prop}(h:c=false)(h1:B):onC c A B:=by subst h;exact h1
theorem zbq {α:Type}{o:Option α}{a:α}{P:α->Prop}(e:o=some a)(h:P a):onO o P:=by subst e;exact h
theorem onA {st:List Int}{b:Int}{P:Dt->Prop}(h0:0<=b)(h1:b<st.length)(h:P (.int (zK st b))):onO (atI (st.map Dt.int) b) P:=zbq (zlc h0 h1) h
theorem zhW {L:List Dt}{a:Int}{P:Dt->Prop}(h0:0<=a)(h1:a<L.length)(h:∀ x∈L,P x):onO (atI L a) P:=by
 obtain ⟨x,e,hx⟩:=znQ h0 h1 h
 exact zbq e hx
section
variable {X:Cx}{Pn:Option zr}{M S:List Nat}{fr fr':Bool}{e a b c:Expr}{es:List Expr}{f fa fb fc g:Ev->Mo W}{pos p:Pos}{t u:Ev->Mo Bool}{fs gs:Ev->Mo (List W)}
theorem wE (h:f=g)(j:JE X Pn M fr e f):JE X Pn M fr e g:=h ▸ j
theorem wB (h:f=g)(j:JB X Pn M e f):JB X Pn M e g:=h ▸ j
theorem wT (h:t=u)(j:JT X Pn M e t):JT X Pn M e u:=h ▸ j
theorem wW (h:t=u)(j:JW X Pn M e t):JW X Pn M e u:=h ▸ j
theorem wO {f g:Ev->Mo (Option Int)}{e:Option Expr}(h:f=g)(j:JO X Pn M e f):JO X Pn M e g:=h ▸ j
theorem wG {f g:W->Ev->(Ev->Prop)->Prop}(h:f=g)(j:JG X S M e f):JG X S M e g:=h ▸ j
theorem wH {f g:List Dt->Ev->(Ev->Prop)->Prop}(h:f=g)(j:JGs X S M es f):JGs X S M es g:=h ▸ j
theorem wI {tg:Expr}{ow:Bool}(h:fs=gs)(j:JI X Pn M ow tg e fs):JI X Pn M ow tg e gs:=h ▸ j
theorem wS {s:Stmt}{f g:Ms}(h:f=g)(j:JS X Pn S M fr s f):JS X Pn S M fr s g:=h ▸ j
@[reducible] def zct (i:Nat):Ev->Mo W:=fun ρ n Q=>onV ρ i fun w=>Q w n
theorem zhL {i:Nat}:zoA i=zct i:=by funext ρ n Q;exact zbh.symm
theorem kv (i:Nat){x:Str}(hi:i∉M:=by decide)(hN:X.N[i]?=some x:=by rfl)(hv:Vis X.env.scope x:=by first | exact Or.inl rfl | exact Or.inr (Or.inl rfl) | exact Or.inr (Or.inr rfl))(hd:(x==("__debug__" : Str))=false:=by decide)
  (hcd:(x==("__classdict__" : Str))=false:=by decide):JE X Pn M false (.Name x pos) (zct i):=wE zhL (zre i hi hN hv hd hcd)
theorem kb (i:Nat){x:Str}(hN:X.N[i]?=some x:=by rfl)(hv:Vis X.env.scope x:=by first | exact Or.inl rfl | exact Or.inr (Or.inl rfl) | exact Or.inr (Or.inr rfl))(hd:(x==("__debug__" : Str))=false:=by decide)
  (hcd:(x==("__classdict__" : Str))=false:=by decide):JB X Pn M (.Name x pos) (zct i):=wB zhL (zrb i hN hv hd hcd)
@[reducible] def zlm (fa:Ev->Mo W):Ev->Mo Bool:=fun ρ n Q=>fa ρ n fun x m=>onB x fun c=>Q c m
theorem zl:zjD fa=zlm fa:=by funext ρ n Q;simp only [zjD,zlm,zoH]
@[reducible] def zql (t u:Ev->Mo Bool):Ev->Mo Bool:=fun ρ n Q=>t ρ n fun c m=>onC c (u ρ m Q) (Q false m)
theorem xQ:zqq t u=zql t u:=by funext ρ n Q;simp only [zqq,zql,zbX]
@[reducible] def dOr (t u:Ev->Mo Bool):Ev->Mo Bool:=fun ρ n Q=>t ρ n fun c m=>onC c (Q true m) (u ρ m Q)
theorem zhI:mOr t u=dOr t u:=by funext ρ n Q;simp only [mOr,dOr,zbX]
@[reducible] def dNot (t:Ev->Mo Bool):Ev->Mo Bool:=fun ρ n Q=>t ρ n fun c m=>onC c (Q false m) (Q true m)
theorem zas:zrs t=dNot t:=by
 funext ρ n Q
 simp only [zrs,dNot]
 congr 1
 funext c m
 cases c <;> rfl
@[reducible] def dAndV (fa fb:Ev->Mo W):Ev->Mo W:=fun ρ n Q=>fa ρ n fun x m=>onB x fun c=>onC c (fb ρ m Q) (Q (.d (.bl false)) m)
@[reducible] def dOrV (fa fb:Ev->Mo W):Ev->Mo W:=fun ρ n Q=>fa ρ n fun x m=>onB x fun c=>onC c (Q (.d (.bl true)) m) (fb ρ m Q)
@[reducible] def dNotV (fa:Ev->Mo W):Ev->Mo W:=fun ρ n Q=>fa ρ n fun x m=>onB x fun c=>Q (.d (.bl (!c))) m
@[reducible] def dIf (t:Ev->Mo Bool) (fa fb:Ev->Mo W):Ev->Mo W:=fun ρ n Q=>t ρ n fun c m=>onC c (fa ρ m Q) (fb ρ m Q)
theorem zkJ:mIf t fa fb=dIf t fa fb:=by funext ρ n Q;simp only [mIf,dIf,zbX]
@[reducible] def dI (C:Int->Int->Prop) (g:Int->Int->Dt):W->W->Mo W:=fun x y n Q=>onI x fun i=>onI y fun j=>C i j/\Q (.d (g i j)) n
theorem zlr {C:Int->Int->Prop}{g:Int->Int->Dt}:fI C g=dI C g:=by
 funext x y n Q
 simp only [dI,zai]
 exact propext ⟨fun ⟨i,j,e1,e2,h⟩=>⟨i,e1,j,e2,h⟩,fun ⟨i,e1,j,e2,h⟩=>⟨i,j,e1,e2,h⟩⟩
@[reducible] def dI0 (g:Int->Int->Dt):W->W->Mo W:=fun x y n Q=>onI x fun i=>onI y fun j=>Q (.d (g i j)) n
theorem zdP {g:Int->Int->Dt}:fI0 g=dI0 g:=by
 funext x y n Q
 simp only [dI0,zai]
 exact propext ⟨fun ⟨i,j,e1,e2,h⟩=>⟨i,e1,j,e2,h⟩,fun ⟨i,e1,j,e2,h⟩=>⟨i,j,e1,e2,h⟩⟩
theorem uT:F2 Pn false (rI0 fun i j=>.int (i+j)) (dI0 fun i j=>.int (i+j)):=zdP ▸ zr7
theorem znx:F2 Pn false (rI0 fun i j=>.int (i - j)) (dI0 fun i j=>.int (i - j)):=zdP ▸ zsf
theorem zki:F2 Pn false (rI zkl fun i j=>.int (i * j)) (dI zkl fun i j=>.int (i * j)):=zlr ▸ zsd
theorem zk7:F2 Pn false (rI znI fun i j=>.int (i / j)) (dI znI fun i j=>.int (i / j)):=zlr ▸ zqb
theorem znt:F2 Pn false (rI (fun _ j=>0<j) fun i j=>.int (i % j)) (dI (fun _ j=>0<j) fun i j=>.int (i % j)):=zlr ▸ zsc
theorem zr6:F2 Pn false (rI0 fun i j=>.bl (decide (i<j))) (dI0 fun i j=>.bl (decide (i<j))):=zdP ▸ v_lt
theorem zqG:F2 Pn false (rI0 fun i j=>.bl (decide (i<=j))) (dI0 fun i j=>.bl (decide (i<=j))):=zdP ▸ v_le
theorem zqF:F2 Pn false (rI0 fun i j=>.bl (decide (i > j))) (dI0 fun i j=>.bl (decide (j<i))):=zdP ▸ v_gt
@[reducible] def dNeg:W->Mo W:=fun x n Q=>onI x fun i=>Q (.d (.int (-i))) n
@[reducible] def dEq:W->W->Mo W:=fun x y n Q=>onD x fun a=>onD y fun b=>onO (sEq a b) fun r=>Q (.d (.bl r)) n
theorem zoa:fEq=dEq:=by
 funext x y n Q
 simp only [fEq,dEq,uw,zbg]
 exact propext ⟨fun ⟨a,b,r,e1,e2,e3,h⟩=>⟨a,e1,b,e2,r,e3,h⟩,fun ⟨a,e1,b,e2,r,e3,h⟩=>⟨a,b,r,e1,e2,e3,h⟩⟩
@[reducible] def dNe:W->W->Mo W:=fun x y n Q=>onD x fun a=>onD y fun b=>onO (sEq a b) fun r=>Q (.d (.bl (!r))) n
theorem zoc:fNe=dNe:=by
 funext x y n Q
 simp only [fNe,dNe,uw,zbg]
 exact propext ⟨fun ⟨a,b,r,e1,e2,e3,h⟩=>⟨a,e1,b,e2,r,e3,h⟩,fun ⟨a,e1,b,e2,r,e3,h⟩=>⟨a,b,r,e1,e2,e3,h⟩⟩
theorem zfb:F2 Pn false rEq dEq:=zoa ▸ v_eq
theorem znu:F2 Pn false rNe dNe:=zoc ▸ v_ne
@[reducible] def zqU:W->W->Mo W:=fun x y n Q=>onD x fun a=>onD y fun b=>a.eqOk/\b.eqOk/\∀ r:Bool,(r=true↔a=b)->Q (.d (.bl r)) n
@[reducible] def zq0:W->W->Mo W:=fun x y n Q=>onD x fun a=>onD y fun b=>a.eqOk/\b.eqOk/\∀ r:Bool,(r=true↔a=b)->Q (.d (.bl (!r))) n
theorem zlq:zq4=zqU:=by
 funext x y n Q
 simp only [zq4,zqU,uw]
 exact propext ⟨fun ⟨a,b,e1,e2,h⟩=>⟨a,e1,b,e2,h⟩,fun ⟨a,e1,b,e2,h⟩=>⟨a,b,e1,e2,h⟩⟩
theorem zlw:zq8=zq0:=by
 funext x y n Q
 simp only [zq8,zq0,uw]
 exact propext ⟨fun ⟨a,b,e1,e2,h⟩=>⟨a,e1,b,e2,h⟩,fun ⟨a,e1,b,e2,h⟩=>⟨a,b,e1,e2,h⟩⟩
theorem znr:F2 Pn false zqz zqU:=zlq ▸ zr8
theorem zp6:F2 Pn false zqC zq0:=zlw ▸ zse
@[reducible] def dIsB:W->W->Mo W:=fun x y n Q=>onB x fun a=>onB y fun b=>Q (.d (.bl (a==b))) n
@[reducible] def zqV:W->W->Mo W:=fun x y n Q=>onB x fun a=>onB y fun b=>Q (.d (.bl (a != b))) n
@[reducible] def dInI:W->W->Mo W:=fun x y n Q=>onI x fun b=>onS y fun l=>∃ ns:List Int,l=ns.map .int/\Q (.d (.bl (ns.contains b))) n
@[reducible] def zcU:W->W->Mo W:=fun x y n Q=>onI x fun b=>onS y fun l=>∃ ns:List Int,l=ns.map .int/\Q (.d (.bl (!ns.contains b))) n
theorem zfY:zeF=zcU:=by
 funext x y n Q
 simp only [zeF,zcU,zai,zhY]
 exact propext ⟨fun ⟨a,b,e1,e2,h⟩=>⟨a,e1,_,e2,b,rfl,h⟩,fun ⟨a,e1,l,e2,b,e,h⟩=>by subst e;exact ⟨a,b,e1,e2,h⟩⟩
theorem zfL {K:PySem.W.Frag}:F2 Pn false (rIn K true) zcU:=zfY ▸ zkj
@[reducible] def xr:Bool->Bool->Bool
 | false,b=>b
 | true,b=>!b
@[reducible] def dInD (neg:Bool):W->W->Mo W:=fun x y n Q=>onD x fun d=>onS y fun ds=>d.eqOk/\(Dt.lst ds).eqOk/\∀ b:Bool,(b=true↔d∈ds)->Q (.d (.bl (xr neg b))) n
theorem zsh {neg b:Bool}:(if neg then !b else b)=xr neg b:=by cases neg <;> rfl
@[reducible] def znJ:W->W->Mo W:=fun x y n Q=>onT x fun l=>onI y fun i=>onO (atI l i) fun d=>Q (.d d) n
@[reducible] def zqY:W->W->Mo W:=fun x y n Q=>onL x fun l=>onI y fun i=>onO (atI l i) fun d=>Q (.d d) n
theorem zlu:zq6=znJ:=by
 funext x y n Q
 simp only [zq6,znJ,zaK,zai,zbg]
 exact propext ⟨fun ⟨a,b,r,e1,e2,e3,h⟩=>⟨a,e1,b,e2,r,e3,h⟩,fun ⟨a,e1,b,e2,r,e3,h⟩=>⟨a,b,r,e1,e2,e3,h⟩⟩
theorem zlt:zq5=zqY:=by
 funext x y n Q
 simp only [zq5,zqY,ux,zai,zbg]
 exact propext ⟨fun ⟨a,b,r,e1,e2,e3,h⟩=>⟨a,e1,b,e2,r,e3,h⟩,fun ⟨a,e1,b,e2,r,e3,h⟩=>⟨a,b,r,e1,e2,e3,h⟩⟩
theorem xA {K:PySem.W.Frag}:F2 Pn false (zqB K) znJ:=zlu ▸ zsa
theorem zaa {K:PySem.W.Frag}:F2 Pn false (zqA K) zqY:=zlt ▸ zr9
@[reducible] def zlk:W->W->Mo W:=fun x y n Q=>onT x fun l=>onT y fun m=>l.length+m.length<=lim/\Q (.d (.tup (l++m))) n
@[reducible] def zlj:W->W->Mo W:=fun x y n Q=>onL x fun l=>onL y fun m=>l.length+m.length<=lim/\Q (.d (.lst (l++m))) n
theorem zja:zeE=zlk:=by
 funext x y n Q
 simp only [zeE,zlk,zaK]
 exact propext ⟨fun ⟨a,b,e1,e2,h⟩=>⟨a,e1,b,e2,h⟩,fun ⟨a,e1,b,e2,h⟩=>⟨a,b,e1,e2,h⟩⟩
theorem zi9:zlp=zlj:=by
 funext x y n Q
 simp only [zlp,zlj,ux]
 exact propext ⟨fun ⟨a,b,e1,e2,h⟩=>⟨a,e1,b,e2,h⟩,fun ⟨a,e1,b,e2,h⟩=>⟨a,b,e1,e2,h⟩⟩
theorem zak {K:PySem.W.Frag}:F2 Pn false (zic K) zlk:=zja ▸ zqa
theorem zk6:F2 Pn true zm1 zlj:=zi9 ▸ zp9
@[reducible] def dRepT:W->W->Mo W:=fun x y n Q=>onT x fun l=>onI y fun j=>(1<=j/\j<=1000000/\l.length * j.toNat<=lim)/\Q (.d (.tup (List.replicate j.toNat l).flatten)) n
@[reducible] def dRepL:W->W->Mo W:=fun x y n Q=>onL x fun l=>onI y fun j=>(0<=j/\j<=1000000/\l.length * j.toNat<=lim)/\Q (.d (.lst (List.replicate j.toNat l).flatten)) n
@[reducible] def zqZ:List W->Mo W:=fun ws n Q=>on1 ws fun x=>onO (lenD x) fun k=>Q (.d (.int (k:Int))) n
theorem zlv:zq7=zqZ:=by
 funext ws n Q
 simp only [zq7,zqZ,zah,zbg]
 exact propext ⟨fun ⟨x,k,e,e2,h⟩=>⟨x,e,k,e2,h⟩,fun ⟨x,e,k,e2,h⟩=>⟨x,k,e,e2,h⟩⟩
theorem uC {K:PySem.W.Frag}:FL Pn false (fun xs H Q=>∃ x n,xs=[x]/\zqj K x H n/\Q (.int n) H) zqZ:=zlv ▸ zsb
@[reducible] def dAbs:List W->Mo W:=fun ws n Q=>on1 ws fun x=>onI x fun i=>Q (.d (.int (if i<0 then -i else i))) n
@[reducible] def dMin:List W->Mo W:=fun ws n Q=>on2 ws fun x y=>onI x fun i=>onI y fun j=>Q (.d (.int (if j<i then j else i))) n
@[reducible] def dMax:List W->Mo W:=fun ws n Q=>on2 ws fun x y=>onI x fun i=>onI y fun j=>Q (.d (.int (if j > i then j else i))) n
@[reducible] def dAll:List W->Mo W:=fun ws n Q=>on1 ws fun x=>onL x fun l=>∃ bs:List Bool,l=bs.map .bl/\Q (.d (.bl (bs.all id))) n
@[reducible] def zn0:List W->Mo W:=fun ws n Q=>on1 ws fun x=>onS x fun l=>Q (.d (.lst l)) n
@[reducible] def zkt:List W->Mo W:=fun ws n Q=>on1 ws fun x=>onS x fun l=>Q (.d (.tup l)) n
theorem zpT {ws:List W}{P:List Dt->Prop}:(∃ l,(ws=[.d (.lst l)]\/ws=[.d (.tup l)])/\P l)=on1 ws fun x=>onS x P:=by
 simp only [zah,zhY]
 exact propext ⟨fun ⟨l,e,h⟩=>e.elim (fun e=>⟨_,e,l,.inl rfl,h⟩) fun e=>⟨_,e,l,.inr rfl,h⟩,fun ⟨x,e,l,e2,h⟩=>⟨l,by rcases e2 with e2 | e2 <;> subst e2 <;> simp [e],h⟩⟩
theorem zp5 {K:PySem.W.Frag}:FL Pn true (zif K) zn0:=(show zob=zn0 by funext ws n Q;exact zpT) ▸ zqd
theorem xU {K:PySem.W.Frag}:FL Pn false (ze5 K) zkt:=(show zkx=zkt by funext ws n Q;exact zpT) ▸ znF
@[reducible] def zgH:List W->Mo W:=fun ws n Q=>on1 ws fun x=>onT x fun l=>∃ ps:List (Int×Dt),l=ps.map prD/\(ps.map (·.1)).Nodup/\ps.length<=1000/\Q (.dk (ps.map kvD)) n
theorem zgX:zgW=zgH:=by
 funext ws n Q
 simp only [zgW,zgH,zah,zaK]
 exact propext ⟨fun ⟨x,e,h⟩=>⟨_,e,_,rfl,x,rfl,h⟩,fun ⟨x,e,k,e2,l,e3,h⟩=>by subst e3 e2;exact ⟨l,e,h⟩⟩
theorem znq:FL Pn true zid zgH:=zgX ▸ znB
@[reducible] def zll:List W->Mo W:=fun ws n Q=>on1 ws fun x=>match x with
 | .d (.int i)=>Q (.d (.int i)) n
 | .d (.bl b)=>Q (.d (.int (if b then 1 else 0))) n
 | _=>False
theorem zjb:zls=zll:=by
 funext ws n Q
 simp only [zls,zll,zah]
 refine propext ⟨fun h=>?_,fun ⟨x,e,h⟩=>?_⟩
 ·rcases h with ⟨i,e,h⟩ | ⟨i,e,h⟩
  ·exact ⟨_,e,h⟩
  ·exact ⟨_,e,h⟩
 ·split at h
  ·exact .inl ⟨_,e,h⟩
  ·exact .inr ⟨_,e,h⟩
  ·exact h.elim
theorem zp4:FL Pn false (fun xs H Q=>(∃ i,xs=[.int i]/\Q (.int i) H)\/∃ k,xs=[.bl k]/\Q (.int (if k then 1 else 0)) H) zll:=zjb ▸ zqc
@[reducible] def zgJ:List W->Mo W:=fun ws n Q=>on1 ws fun x=>onL x fun l=>∃ ns:List Int,l=ns.map .int/\ns.length<64/\∀ ns':List Int,ns'.Perm ns->ns'.Pairwise (·<=·)->Q (.d (.lst (ns'.map .int))) n
theorem zg1:zg0=zgJ:=by
 funext ws n Q
 simp only [zg0,zgJ,zah,ux]
 exact propext ⟨fun ⟨x,e,h⟩=>⟨_,e,_,rfl,x,rfl,h⟩,fun ⟨x,e,k,e2,l,e3,h⟩=>by subst e3 e2;exact ⟨l,e,h⟩⟩
theorem znv:FL Pn true zig zgJ:=zg1 ▸ znD
@[reducible] def zgK:List W->Mo W:=fun ws n Q=>on1 ws fun x=>onL x fun l=>∃ (sts:List (List Int)) (m:Nat),l=sts.map stD/\sts.length<64/\1<=m/\(∀ st∈sts,st.length=m)/\sts.Nodup/\∀ sts':List (List Int),sts'.Perm sts->(sts'.Pairwise fun a b=>HT.lexLt a b=true)->Q (.d (uA sts')) n
theorem zg3:zg2=zgK:=by
 funext ws n Q
 simp only [zg2,zgK,zah,ux]
 exact propext ⟨fun ⟨x,m,e,h⟩=>⟨_,e,_,rfl,x,m,rfl,h⟩,fun ⟨x,e,k,e2,l,m,e3,h⟩=>by subst e3 e2;exact ⟨l,m,e,h⟩⟩
theorem znw:FL Pn true zm4 zgK:=zg3 ▸ znE
@[reducible] def zgI:List W->Mo W:=fun ws n Q=>on1 ws fun x=>onE x fun a=>((a.map (·.1)).Nodup->Q (.d (.lst ((a.map (·.1)).map stD))) n)
theorem zgZ:zgY=zgI:=by
 funext ws n Q
 simp only [zgY,zgI,zah,zkN]
 exact propext ⟨fun ⟨x,e,h⟩=>⟨_,e,x,rfl,h⟩,fun ⟨x,e,k,e2,h⟩=>by subst e2;exact ⟨k,e,h⟩⟩
theorem zns:FL Pn true zie zgI:=zgZ ▸ znC
end
open PySem.Spec
section
variable {fa fb fc f fk fd fv:Ev->Mo W}{t u:Ev->Mo Bool}{fs gs:Ev->Mo (List W)}
@[reducible] def zn2 (fa:Ev->Mo W):Ev->Mo (Option Int):=fun ρ n Q=>fa ρ n fun x m=>onI x fun i=>Q (some i) m
theorem yA:zl8 fa=zn2 fa:=by funext ρ n Q;simp only [zl8,zn2,zai]
@[reducible] def dSlT (fa:Ev->Mo W) (fl fh:Ev->Mo (Option Int)):Ev->Mo W:=fun ρ n Q=>fa ρ n fun x n1=>fl ρ n1 fun lo n2=>fh ρ n2 fun hi n3=>onT x fun l=>Q (.d (.tup (uu l lo hi))) n3
theorem za4 {fl fh:Ev->Mo (Option Int)}:zrw fa fl fh=dSlT fa fl fh:=by funext ρ n Q;simp only [zrw,dSlT,zaK]
@[reducible] def dSlL (fa:Ev->Mo W) (fl fh:Ev->Mo (Option Int)):Ev->Mo W:=fun ρ n Q=>fa ρ n fun x n1=>fl ρ n1 fun lo n2=>fh ρ n2 fun hi n3=>onL x fun l=>Q (.d (.lst (uu l lo hi))) n3
theorem za3 {fl fh:Ev->Mo (Option Int)}:zrv fa fl fh=dSlL fa fl fh:=by funext ρ n Q;simp only [zrv,dSlL,ux]
@[reducible] def dRevT (fa:Ev->Mo W):Ev->Mo W:=fun ρ n Q=>fa ρ n fun x m=>onT x fun l=>Q (.d (.tup l.reverse)) m
@[reducible] def zn3 (fa:Ev->Mo W):Ev->Mo W:=fun ρ n Q=>fa ρ n fun x m=>onL x fun l=>Q (.d (.lst l.reverse)) m
theorem zfA:zma fa=zn3 fa:=by funext ρ n Q;simp only [zma,zn3,ux]
@[reducible] def znX (fd fk:Ev->Mo W):Ev->Mo W:=fun ρ n Q=>fd ρ n fun x n1=>fk ρ n1 fun y n2=>onK x fun a=>onO (zor y) fun k=>onO (uB a k) fun d=>Q (.d d) n2
theorem zjy:zlZ fd fk=znX fd fk:=by
 funext ρ n Q
 simp only [zlZ,znX,zkO,zbg]
 congr 1;funext x n1;congr 1;funext y n2
 exact propext ⟨fun ⟨a,b,r,e1,e2,e3,h⟩=>⟨a,e1,b,e2,r,e3,h⟩,fun ⟨a,e1,b,e2,r,e3,h⟩=>⟨a,b,r,e1,e2,e3,h⟩⟩
@[reducible] def zqT (neg:Bool) (fk fd:Ev->Mo W):Ev->Mo W:=fun ρ n Q=>fk ρ n fun y n1=>fd ρ n1 fun x n2=>onK x fun a=>onO (zor y) fun k=>Q (.d (.bl (xr neg (uB a k).isSome))) n2
theorem zl0 {neg:Bool}:zoy neg fk fd=zqT neg fk fd:=by
 funext ρ n Q
 simp only [zoy,zqT,zkO,zbg,zsh]
 congr 1;funext x n1;congr 1;funext y n2
 exact propext ⟨fun ⟨a,b,e1,e2,h⟩=>⟨a,e1,b,e2,h⟩,fun ⟨a,e1,b,e2,h⟩=>⟨a,b,e1,e2,h⟩⟩
theorem zjE {neg:Bool}:zjD (zoy neg fk fd)=zlm (zqT neg fk fd):=by rw [zl0,zl]
@[reducible] def dFn (k:Nat) (F:List W->Mo W) (fs:Ev->Mo (List W)):Ev->Mo W:=fun ρ n Q=>fs ρ n fun ws m=>zdi k ws (F ws m Q)
theorem zm {k:Nat}{F:List W->Mo W}:mFn k F fs=dFn k F fs:=by funext ρ n Q;simp only [mFn,dFn,zbz]
@[reducible] def dFnB (k:Nat) (fr:Bool) (F:List W->Mo W) (fs:Ev->Mo (List W)):Ev->Mo W:=fun ρ n Q=>fs ρ n fun ws m=>zdi k ws (F ws m fun w m'=>W.flat fr w=true/\Q w m')
theorem zl1 {k:Nat}{fr:Bool}{F:List W->Mo W}:zqs k fr F fs=dFnB k fr F fs:=by funext ρ n Q;simp only [zqs,dFnB,zbz]
@[reducible] def eN (i:Nat):W->Ev->(Ev->Prop)->Prop:=fun w ρ Q=>onP ρ i w Q
theorem zJ {i:Nat}:gN i=eN i:=by funext w ρ Q;exact uN.symm
@[reducible] def eNl:List Dt->Ev->(Ev->Prop)->Prop:=fun ds ρ Q=>match ds with | []=>Q ρ | _=>False
theorem zac:gNl=eNl:=by
 funext ds ρ Q
 cases ds with
 | nil=>simp [gNl,eNl]
 | cons _ _=>simp [gNl,eNl]
@[reducible] def eCn (g:W->Ev->(Ev->Prop)->Prop) (u:List Dt->Ev->(Ev->Prop)->Prop):List Dt->Ev->(Ev->Prop)->Prop:=fun ds ρ Q=>match ds with | d::r=>g (.d d) ρ fun ρ'=>u r ρ' Q | []=>False
theorem ye {g:W->Ev->(Ev->Prop)->Prop}{u:List Dt->Ev->(Ev->Prop)->Prop}:gCn g u=eCn g u:=by
 funext ds ρ Q
 cases ds with
 | nil=>simp [gCn,eCn]
 | cons d r=>exact propext ⟨fun ⟨d',r',e,h⟩=>by cases e;exact h,fun h=>⟨d,r,rfl,h⟩⟩
@[reducible] def eTp (n:Nat) (u:List Dt->Ev->(Ev->Prop)->Prop):W->Ev->(Ev->Prop)->Prop:=fun w ρ Q=>onT w fun ds=>zdi n ds (u ds ρ Q)
theorem zad {n:Nat}{u:List Dt->Ev->(Ev->Prop)->Prop}:gTp n u=eTp n u:=by funext w ρ Q;simp only [gTp,eTp,zaK,zbz]
@[reducible] def zqW (fa:Ev->Mo W):Ev->Mo (List W):=fun ρ n Q=>fa ρ n fun x m=>onL x fun l=>Q (l.map W.d) m
@[reducible] def zqX (fa:Ev->Mo W):Ev->Mo (List W):=fun ρ n Q=>fa ρ n fun x m=>onT x fun l=>Q (l.map W.d) m
theorem uL:zqt fa=zqW fa:=by funext ρ n Q;simp only [zqt,zqW,ux]
theorem xx:zqu fa=zqX fa:=by funext ρ n Q;simp only [zqu,zqX,zaK]
@[reducible] def dItR (fs:Ev->Mo (List W)):Ev->Mo (List W):=fun ρ n Q=>fs ρ n fun ws m=>on1 ws fun x=>onI x fun j=>(j<=1000000/\-1000000<=j)/\Q (zgc 0 j.toNat) m
theorem yS:zrp fs=dItR fs:=by
 funext ρ n Q
 simp only [zrp,dItR,zah,zai]
 congr 1;funext ws m
 exact propext ⟨fun ⟨j,e,h1,h2,h⟩=>⟨_,e,j,rfl,⟨h1,h2⟩,h⟩,fun ⟨x,e,j,e2,⟨h1,h2⟩,h⟩=>by subst e2;exact ⟨j,e,h1,h2,h⟩⟩
@[reducible] def dItR2 (fs:Ev->Mo (List W)):Ev->Mo (List W):=fun ρ n Q=>fs ρ n fun ws m=>on2 ws fun x y=>onI x fun i=>onI y fun j=>(j<=1000000/\-1000000<=j/\i<=1000000/\-1000000<=i)/\Q (zgc i (j - i).toNat) m
@[reducible] def dItE (fs:Ev->Mo (List W)):Ev->Mo (List W):=fun ρ n Q=>fs ρ n fun ws m=>on1 ws fun x=>onT x fun l=>Q (enW 0 l) m
@[reducible] def dItEL (fs:Ev->Mo (List W)):Ev->Mo (List W):=fun ρ n Q=>fs ρ n fun ws m=>on1 ws fun x=>onL x fun l=>Q (enW 0 l) m
theorem zl2:zro fs=dItE fs:=by
 funext ρ n Q
 simp only [zro,dItE,zah,zaK]
 congr 1;funext ws m
 exact propext ⟨fun ⟨l,e,h⟩=>⟨_,e,l,rfl,h⟩,fun ⟨x,e,l,e2,h⟩=>by subst e2;exact ⟨l,e,h⟩⟩
@[reducible] def dItZ (fs:Ev->Mo (List W)):Ev->Mo (List W):=fun ρ n Q=>fs ρ n fun ws m=>on2 ws fun x y=>onT x fun l=>onT y fun k=>l.length=k.length/\Q (ziW l k) m
@[reducible] def znZ (fs:Ev->Mo (List W)):Ev->Mo (List W):=fun ρ n Q=>fs ρ n fun ws m=>on2 ws fun x y=>onL x fun l=>onT y fun k=>l.length=k.length/\Q (ziW l k) m
@[reducible] def znY (fs:Ev->Mo (List W)):Ev->Mo (List W):=fun ρ n Q=>fs ρ n fun ws m=>on2 ws fun x y=>onL x fun l=>onL y fun k=>Q (ziW l k) m
theorem zjA:zl4 fs=znZ fs:=by
 funext ρ n Q
 simp only [zl4,znZ,zhV,zaK,ux]
 congr 1;funext ws m
 exact propext ⟨fun ⟨i,j,e,h⟩=>⟨_,_,e,i,rfl,j,rfl,h⟩,fun ⟨x,y,e,i,e1,j,e2,h⟩=>by subst e1 e2;exact ⟨i,j,e,h⟩⟩
theorem zjz:zl3 fs=znY fs:=by
 funext ρ n Q
 simp only [zl3,znY,zhV,ux]
 congr 1;funext ws m
 exact propext ⟨fun ⟨i,j,e,h⟩=>⟨_,_,e,i,rfl,j,rfl,h⟩,fun ⟨x,y,e,i,e1,j,e2,h⟩=>by subst e1 e2;exact ⟨i,j,e,h⟩⟩
@[reducible] def dIfS (t:Ev->Mo Bool) (f g:Ms):Ms:=fun ρ n k=>t ρ n fun c m=>onC c (blk f ρ m k) (blk g ρ m k)
theorem zH {f g:Ms}:zrm t f g=dIfS t f g:=by funext ρ n k;simp only [zrm,dIfS,zbX]
@[reducible] def zq1 (i:Nat):Ms:=fun ρ n k=>onV ρ i fun w=>k.rt w n
theorem zjC {i:Nat}:zl9 i=zq1 i:=by funext ρ n k;exact zbh.symm
@[reducible] def dSet (i:Nat) (f:Ev->Mo W):Ms:=fun ρ n k=>f ρ n fun w m=>onP ρ i w fun ρ'=>k.nx ρ' m
theorem zu {i:Nat}:znK f (gN i)=dSet i f:=by show znK f (gN i)=znK f (eN i);rw [zJ]
@[reducible] def dOwn (i:Nat) (f:Ev->Mo W):Ms:=fun ρ n k=>f ρ n fun w m=>onC (W.mut w) (onP ρ i w fun ρ'=>k.nx ρ' m) False
theorem xR {i:Nat}:zoz i f=dOwn i f:=by
 funext ρ n k
 simp only [zoz,dOwn,uN (Q:=fun ρ'=>k.nx ρ' _)]
 congr 1;funext w m
 cases h:W.mut w <;> simp
@[reducible] def dApp (i:Nat) (f:Ev->Mo W):Ms:=fun ρ n k=>onV ρ i fun v=>onL v fun l=>f ρ n fun w m=>onD w fun d=>l.length<lim/\onP ρ i (.d (.lst (l++[d]))) fun ρ'=>k.nx ρ' m
theorem zc8 {ρ:Ev}{i:Nat}{P:List Dt->Prop}:(onV ρ i fun v=>onL v P) = ∃ l,ρ[i]?=some (some (.d (.lst l)))/\P l:=by
 simp only [zbh,ux]
 exact propext ⟨fun ⟨w,e,l,e2,h⟩=>⟨l,by rw [e,e2],h⟩,fun ⟨l,e,h⟩=>⟨_,e,l,rfl,h⟩⟩
theorem zn8 {ρ:Ev}{i:Nat}{P:List (List Int×Dt)->Prop}:(onV ρ i fun v=>onE v P) = ∃ l,ρ[i]?=some (some (.dt l))/\P l:=by
 simp only [zbh,zkN]
 exact propext ⟨fun ⟨w,e,l,e2,h⟩=>⟨l,by rw [e,e2],h⟩,fun ⟨l,e,h⟩=>⟨_,e,l,rfl,h⟩⟩
theorem zhB {i:Nat}:zqr i f=dApp i f:=by
 funext ρ n k
 simp only [zqr,dApp,zc8,uw,uN (Q:=fun ρ'=>k.nx ρ' _)]
 refine propext ⟨fun ⟨⟨l,e⟩,h⟩=>⟨l,e,?_⟩,fun ⟨l,e,h⟩=>⟨⟨l,e⟩,?_⟩⟩
 all_goals
  refine (congrArg (f ρ n) ?_).mp h
  funext w m
  refine propext ?_
  simp [e]
@[reducible] def dExt (i:Nat) (f:Ev->Mo W):Ms:=fun ρ n k=>onV ρ i fun v=>onL v fun l=>f ρ n fun w m=>onL w fun l2=>l.length+l2.length<=lim/\onP ρ i (.d (.lst (l++l2))) fun ρ'=>k.nx ρ' m
theorem zhF {i:Nat}:zrl i f=dExt i f:=by
 funext ρ n k
 simp only [zrl,dExt,zc8]
 simp only [ux,uN (Q:=fun ρ'=>k.nx ρ' _)]
 refine propext ⟨fun ⟨⟨l,e⟩,h⟩=>⟨l,e,?_⟩,fun ⟨l,e,h⟩=>⟨⟨l,e⟩,?_⟩⟩
 all_goals
  refine (congrArg (f ρ n) ?_).mp h
  funext w m
  refine propext ?_
  simp [e]
@[reducible] def dIns (i:Nat) (fk f:Ev->Mo W):Ms:=fun ρ n k=>onV ρ i fun v=>onL v fun l=>fk ρ n fun y m=>f ρ m fun w m2=>onD w fun d=>onI y fun j=>(0<=j/\j<=l.length/\l.length<lim)/\onP ρ i (.d (.lst (zkz l j.toNat d))) fun ρ'=>k.nx ρ' m2
theorem zhG {i:Nat}:zrn i fk f=dIns i fk f:=by
 funext ρ n k
 simp only [zrn,dIns,zc8,uw,zai,uN (Q:=fun ρ'=>k.nx ρ' _)]
 refine propext ⟨fun ⟨⟨l,e⟩,h⟩=>⟨l,e,?_⟩,fun ⟨l,e,h⟩=>⟨⟨l,e⟩,?_⟩⟩
 all_goals
  refine (congrArg (fk ρ n) ?_).mp h
  funext y m
  refine congrArg (f ρ m) ?_
  funext w m2
  refine propext ?_
  simp [e,and_assoc]
@[reducible] def dPopS (i:Nat) (fk:Ev->Mo W):Ms:=fun ρ n k=>onV ρ i fun v=>onL v fun l=>fk ρ n fun y m=>onI y fun j=>(0<=j/\j<l.length/\l.length<=lim)/\onP ρ i (.d (.lst (l.eraseIdx j.toNat))) fun ρ'=>k.nx ρ' m
@[reducible] def zqm (i:Nat):Ms:=fun ρ n k=>onV ρ i fun v=>onL v fun l=>onP ρ i (.d (.lst l.reverse)) fun ρ'=>k.nx ρ' n
@[reducible] def dPut (i:Nat) (fk f:Ev->Mo W):Ms:=fun ρ n k=>onV ρ i fun v=>onL v fun l=>f ρ n fun w m=>fk ρ m fun y m2=>onD w fun d=>onI y fun j=>(0<=j/\j<l.length)/\onP ρ i (.d (.lst (l.set j.toNat d))) fun ρ'=>k.nx ρ' m2
theorem zhJ {i:Nat}:zru i fk f=dPut i fk f:=by
 funext ρ n k
 simp only [zru,dPut,zc8,uw,zai,uN (Q:=fun ρ'=>k.nx ρ' _)]
 refine propext ⟨fun ⟨⟨l,e⟩,h⟩=>⟨l,e,?_⟩,fun ⟨l,e,h⟩=>⟨⟨l,e⟩,?_⟩⟩
 all_goals
  refine (congrArg (f ρ n) ?_).mp h
  funext y m
  refine congrArg (fk ρ m) ?_
  funext w m2
  refine propext ?_
  simp [e,and_assoc]
@[reducible] def onSt (w:W) (P:List Int->Prop):Prop:=∃ st,w = .d (stD st)/\P st
@[reducible] def dDGetT (fd fk:Ev->Mo W):Ev->Mo W:=fun ρ n Q=>fd ρ n fun x n1=>fk ρ n1 fun y n2=>onE x fun a=>∃ st,y = .d (stD st)/\onO (uB a st) fun d=>Q (.d d) n2
@[reducible] def zks (i:Nat) (fk f:Ev->Mo W):Ms:=fun ρ n k=>onV ρ i fun v=>onE v fun a=>f ρ n fun w m=>fk ρ m fun y m2=>onD w fun d=>∃ st,y = .d (stD st)/\a.length<lim/\onP ρ i (.dt (zf9 a st d)) fun ρ'=>k.nx ρ' m2
theorem zhE {i:Nat}:zhD i fk f=zks i fk f:=by
 funext ρ n k
 simp only [zhD,zks,zn8,uw,uN (Q:=fun ρ'=>k.nx ρ' _)]
 refine propext ⟨fun ⟨⟨l,e⟩,h⟩=>⟨l,e,?_⟩,fun ⟨l,e,h⟩=>⟨⟨l,e⟩,?_⟩⟩
 all_goals
  refine (congrArg (f ρ n) ?_).mp h
  funext y m
  refine congrArg (fk ρ m) ?_
  funext w m2
  refine propext ?_
  constructor
 ·rintro ⟨a,st,d,e1,e2,e3,h1,h2⟩
  rw [e] at e1
  cases e1
  exact ⟨d,e2,st,e3,h1,h2⟩
 ·rintro ⟨d,e2,st,e3,h1,h2⟩
  exact ⟨l,st,d,e,e2,e3,h1,h2⟩
 ·rintro ⟨d,e2,st,e3,h1,h2⟩
  exact ⟨l,st,d,e,e2,e3,h1,h2⟩
 ·rintro ⟨a,st,d,e1,e2,e3,h1,h2⟩
  rw [e] at e1
  cases e1
  exact ⟨d,e2,st,e3,h1,h2⟩
@[reducible] def zn1 (i j:Nat):Ms:=fun ρ n k=>onV ρ j fun w=>onN ρ j fun ρ1=>onP ρ1 i w fun ρ'=>k.nx ρ' n
theorem zjB {i j:Nat}:zl5 i j=zn1 i j:=by
 funext ρ n k
 simp only [zl5,zn1,zbh,uN (Q:=fun ρ'=>k.nx ρ' _),zkP (Q:=fun ρ1=>k.nx (ρ1.set i (some _)) n)]
@[reducible] def dPar (i j:Nat) (fs:Ev->Mo (List W)):Ms:=fun ρ n k=>fs ρ n fun ws m=>on2 ws fun w u=>onP ρ i w fun ρ1=>onP ρ1 j u fun ρ'=>k.nx ρ' m
theorem zl7 {i j:Nat}:zrt i j fs=dPar i j fs:=by
 funext ρ n k
 simp only [zrt,dPar,zhV,uN (Q:=fun ρ'=>k.nx ρ' _),uN (Q:=fun ρ1=>k.nx (ρ1.set j (some _)) _)]
@[reducible] def dIsi (B:Dt->Bool) (f:Ev->Mo W):Ev->Mo W:=fun ρ n Q=>f ρ n fun w m=>onD w fun d=>Q (.d (.bl (B d))) m
theorem zc9 {B:Dt->Bool}:zkK B f=dIsi B f:=by funext ρ n Q;simp only [zkK,dIsi,uw]
@[reducible] def zfs (fs:Ev->Mo (List W)):Ev->Mo W:=fun ρ n Q=>fs ρ n fun ws m=>on1 ws fun x=>onI x fun j=>(0<=j/\j<=1000)/\Q (.d (.lst (zim j.toNat))) m
@[reducible] def zn4 (fs:Ev->Mo (List W)):Ev->Mo W:=fun ρ n Q=>fs ρ n fun ws m=>on1 ws fun x=>onI x fun j=>(0<=j/\j<=1000)/\Q (.d (.tup (zim j.toNat))) m
theorem zpI {ws:List W}{P:Nat->Prop}:(∃ j:Nat,ws=[.d (.int (j:Int))]/\j<=1000/\P j)=on1 ws fun x=>onI x fun j=>(0<=j/\j<=1000)/\P j.toNat:=by
 simp only [zah,zai]
 exact propext ⟨fun ⟨j,e,h1,h⟩=>⟨_,e,_,rfl,⟨by lia,by lia⟩,by simpa using h⟩,fun ⟨x,e,j,e2,⟨h1,h2⟩,h⟩=>⟨j.toNat,by subst e2;rw [e];simp;lia,by lia,h⟩⟩
theorem zar:zda fs=zfs fs:=by
 funext ρ n Q
 simp only [zda,zfs]
 congr 1;funext ws m
 exact zpI (P:=fun j=>Q (.d (.lst (zim j))) m)
@[reducible] def dTru (f:Ev->Mo W):Ev->Mo Bool:=fun ρ n Q=>f ρ n fun w m=>onO (truD w) fun b=>Q b m
theorem zmb:zrx f=dTru f:=by funext ρ n Q;simp only [zrx,dTru,zbg]
@[reducible] def dChain (F G:W->W->Mo W) (fa fb fc:Ev->Mo W):Ev->Mo W:=fun ρ n Q=>fa ρ n fun x n1=>fb ρ n1 fun y n2=>F x y n2 fun z n3=>onB z fun k=>onC k (fc ρ n3 fun u n4=>G y u n4 Q) (Q (.d (.bl false)) n3)
theorem zfo {α:Type}{l:List W}{ρ0:Ev}{n:Nat}{mg:W->Ev->(Ev->Prop)->Prop}{ft:Ev->Mo Bool}{fe:Ev->Mo W}{Q:W->Nat->Prop}(xs:List α)(toW:α->W)(hl:l=xs.map toW)(hlim:xs.length<=lim)(I:Nat->Ev->Nat->List Dt->Prop)(h0:I 0 ρ0 n [])
  (h:∀ i a ρ' n' acc,xs[i]?=some a->I i ρ' n' acc->∀ C:Ev->Nat->List Dt->Prop,(∀ {ρ m l},I (i+1) ρ m l->C ρ m l)->mg (toW a) ρ' fun ρ1=>ft ρ1 n' fun b n2=>onC b (fe ρ1 n2 fun x n3=>onD x fun d=>C ρ1 n3 (acc++[d])) (C ρ1 n2 acc))
  (fin:∀ ρ' n' acc,I xs.length ρ' n' acc->Q (.d (.lst acc)) n'):zcS mg ft fe ρ0 Q l n:=by
 refine ziU xs toW hl hlim I h0 (fun i a ρ' n' acc ha hI C hC=>?_) fin
 have:=h i a ρ' n' acc ha hI C hC
 simp only [zbX,uw] at this
 exact this
theorem zam {α:Type}{l:List W}{ρ0:Ev}{n:Nat}{mg:W->Ev->(Ev->Prop)->Prop}{ft:Ev->Mo Bool}{fe:Ev->Mo W}{Q:W->Nat->Prop}(xs:List α)(toW:α->W)(hl:l=xs.map toW)(J:Ev->Prop)(P:α->Bool)(E:α->Dt)(hlim:xs.length<=lim)(j0:J ρ0)
  (h:∀ a∈xs,∀ ρ',J ρ'->∀ C:Ev->Nat->Option Dt->Prop,(∀ {ρ1},P a=true->J ρ1->C ρ1 n (some (E a)))->(∀ {ρ1},P a=false->J ρ1->C ρ1 n none)->mg (toW a) ρ' fun ρ1=>ft ρ1 n fun b n2=>onC b (fe ρ1 n2 fun x n3=>onD x fun d=>C ρ1 n3 (some d)) (C ρ1 n2 none))
  (fin:Q (.d (.lst ((xs.filter P).map E))) n):zcS mg ft fe ρ0 Q l n:=by
 refine zgB xs toW hl J P E hlim j0 (fun a ha ρ' hj C hC=>?_) fin
 have:=h a ha ρ' hj C (fun {ρ1} e z=>by have:=hC ρ1 z;rwa [if_pos e] at this) fun {ρ1} e z=>by have:=hC ρ1 z;rwa [if_neg (by rw [e];decide)] at this
 simp only [zbX,uw] at this
 exact this
theorem zbd {α:Type}{l:List W}{ρ0:Ev}{n:Nat}{mg:W->Ev->(Ev->Prop)->Prop}{fe:Ev->Mo W}{Q:W->Nat->Prop}(xs:List α)(toW:α->W)(hl:l=xs.map toW)(J:Ev->Prop)(E:α->Dt)(hlim:xs.length<=lim)(j0:J ρ0)
  (h:∀ a∈xs,∀ ρ',J ρ'->∀ C:Ev->Nat->Dt->Prop,(∀ {ρ1},J ρ1->C ρ1 n (E a))->mg (toW a) ρ' fun ρ1=>fe ρ1 n fun x n3=>onD x fun d=>C ρ1 n3 d)
  (fin:Q (.d (.lst (xs.map E))) n):zcS mg zqw fe ρ0 Q l n:=by
 refine ziX xs toW hl J E hlim j0 (fun a ha ρ' hj C hC=>?_) fin
 have:=h a ha ρ' hj C fun {ρ1} z=>hC ρ1 z
 simp only [uw] at this
 exact this
end
open PySem.Spec
@[reducible] def rep:Nat->(Ev->Prop)->Prop
 | 0,Q=>Q []
 | k+1,Q=>rep k fun ρ=>Q (none::ρ)
@[reducible] def beg:List W->Nat->(Ev->Prop)->Prop
 | [],r,Q=>rep r Q
 | w::ws,r,Q=>beg ws r fun ρ=>Q (some w::ρ)
theorem zil:∀ {r:Nat} {Q:Ev->Prop},rep r Q=Q (List.replicate r none)
 | 0,Q=>rfl
 | r+1,Q=>by rw [rep,zil];rfl
theorem zkn:∀ {ws:List W} {r:Nat} {Q:Ev->Prop},beg ws r Q=Q (ws.map some++List.replicate r none)
 | [],r,Q=>by rw [beg,zil];rfl
 | w::ws,r,Q=>by rw [beg,zkn];rfl
theorem zkM {P:Program}{w:World}{K:PySem.W.Frag}{mg:Str->Option Value}{base:Heap}{qual:Str}{st:Stmt}{f:Addr}{fd:FuncData}{N ps:List Str}{k m:Nat}{fr:Bool}{F:Option zr->List W->Mo W}(M:List Nat)(r:Nat)(okq:(∀ vs H Q E,spV m fr F vs H Q E->vs.length=ps.length)->(∀ (a:Value) (A:Around) (outer:List Env) (s:Shared) (H:Hp) (vs:List V) (Q:VK) (E:XK),Room k (A.deeper (PyProof.Rows.envOfC qual (zc st) s.heap.objs.size f a))->spV m fr F vs H Q E->
   ∃ t,QSs (zdz CX0 P w K mg base N qual (zc st) f a A outer s H E).nox (zp st) t/\t { nx:=fun _ H'=>Q .non H',rt:=Q } (L2.uc N vs) H)->FnOk P w K mg base CX0 (k+1) f fd ps (spV m fr F)) (hm:m=ps.length) (hM:∀ i∈M,m<=i) (hN:N.length=m+r)
  (hbody:∀ (a:Value) (A:Around) (outer:List Env) (s:Shared) (H:Hp) (E:XK) (Pn:Option zr),Room k (A.deeper (PyProof.Rows.envOfC qual (zc st) s.heap.objs.size f a))->
   ∃ fs,JSs (zdz CX0 P w K mg base N qual (zc st) f a A outer s H E).nox Pn [] M fr (zp st) fs/\∀ ws n R,F Pn ws n R->beg ws r fun ρ=>fs ρ n { nx:=fun _ n'=>onC fr False (R (.d .non) n'),rt:=R }):FnOk P w K mg base CX0 (k+1) f fd ps (spV m fr F):=by
 refine zoF M okq hm hM fun a A outer s H E Pn hr=>?_
 obtain ⟨fs,h1,h2⟩:=hbody a A outer s H E Pn hr
 refine ⟨fs,h1,fun ws n R hl hF=>?_⟩
 have:=h2 ws n R hF
 rw [zkn] at this
 have e:zaT N ws=ws.map some++List.replicate r none:=by unfold zaT;rw [hN,hl,Nat.add_sub_cancel_left]
 rw [e]
 have e2:(fun (_:Ev) (n':Nat)=>onC fr False (R (.d .non) n'))=fun _ n'=>fr=false/\R (.d .non) n':=by
  funext _ n'
  cases fr <;> simp
 rw [<- e2]
 exact this
theorem Fun.okW {P:Program}{w:World}{K:PySem.W.Frag}{mg:Str->Option Value}{base:Heap}{x qual:Str}{st:Stmt}{f:Addr}{fd:FuncData}{N ps:List Str}{k m:Nat}{fr:Bool}{F:Option zr->List W->Mo W}(M:List Nat)(r:Nat)(Fu:Fun K x qual st f fd)(S:FnScope N ps (zc st))(hm:m=ps.length)(hM:∀ i∈M,m<=i)(hN:N.length=m+r)
  (hbody:∀ (cdv:Value) (A:Around) (outer:List Env) (s:Shared) (H:Hp) (E:XK) (Pn:Option zr),Room k (A.deeper (PyProof.Rows.envOfC qual (zc st) s.heap.objs.size f cdv))->
   ∃ fs,JSs (zdz CX0 P w K mg base N qual (zc st) f cdv A outer s H E).nox Pn [] M fr (zp st) fs/\∀ ws n R,F Pn ws n R->beg ws r fun ρ=>fs ρ n { nx:=fun _ n'=>onC fr False (R (.d .non) n'),rt:=R }):FnOk P w K mg base CX0 (k+1) f fd ps (spV m fr F):=zkM M r (fun l b=>Fun.okQ Fu S l b) hm hM hN hbody
theorem FunD.okW {P:Program}{w:World}{K:PySem.W.Frag}{mg:Str->Option Value}{base:Heap}{x qual:Str}{st:Stmt}{f:Addr}{fd:FuncData}{N ps:List Str}{k m:Nat}{fr:Bool}{F:Option zr->List W->Mo W}(M:List Nat)(r:Nat)(Fu:FunD K x qual st f fd)(S:FnScope N ps (zc st))(hm:m=ps.length)(hM:∀ i∈M,m<=i)(hN:N.length=m+r)
  (hbody:∀ (cdv:Value) (A:Around) (outer:List Env) (s:Shared) (H:Hp) (E:XK) (Pn:Option zr),Room k (A.deeper (PyProof.Rows.envOfC qual (zc st) s.heap.objs.size f cdv))->
   ∃ fs,JSs (zdz CX0 P w K mg base N qual (zc st) f cdv A outer s H E).nox Pn [] M fr (zp st) fs/\∀ ws n R,F Pn ws n R->beg ws r fun ρ=>fs ρ n { nx:=fun _ n'=>onC fr False (R (.d .non) n'),rt:=R }):FnOk P w K mg base CX0 (k+1) f fd ps (spV m fr F):=zkM M r (fun l b=>FunD.okQ Fu S l b) hm hM hN hbody
@[reducible] def dItS (i:Nat):Ev->Mo (List W):=fun ρ n Q=>onV ρ i fun x=>onS x fun l=>Q (l.map W.d) n
theorem zhH {i:Nat}:zrq (zct i)=dItS i:=by
 funext ρ n Q
 simp only [zrq,uL,xx,zqW,zqX,dItS,zbh,zhY,ux,zaK]
 refine propext ⟨fun h=>?_,fun ⟨w,e,l,e2,h⟩=>?_⟩
 ·rcases h with ⟨w,e,l,e2,h⟩ | ⟨w,e,l,e2,h⟩
  ·exact ⟨w,e,l,.inl e2,h⟩
  ·exact ⟨w,e,l,.inr e2,h⟩
 ·rcases e2 with e2 | e2
  ·exact .inl ⟨w,e,l,e2,h⟩
  ·exact .inr ⟨w,e,l,e2,h⟩
theorem zpF {fs:Ms}{a b:Option W}{r n:Nat}{k:Kt}(h:rep r fun ρ=>fs (a::b::ρ) n k):fs (a::b::List.replicate r none) n k:=by rw [zil] at h;exact h
open PySem.Spec
theorem zoC {G:Prop}(b:Nat)(P:Nat->Prop)(h:(∀ a,a<=b->P a)->G)(r:∀ a,a<=b->P a):G:=h r
theorem zoD {G:Prop}(P:W->Prop)(h:(∀ a,P a)->G)(r:∀ a,P a):G:=h r
theorem zoB {α:Type}{G:Prop}(C:α->Prop)(P:α->Prop)(h:(∀ a,C a->P a)->G)(r:∀ a,C a->P a):G:=h r
theorem zqp {st:List Int}{x:Dt}(h:st.length<=1000):(st.map Dt.int).length+[x].length<=lim:=by
 rw [List.length_map]
 exact Nat.le_trans (by simp;lia:_<=1001) (by decide)
theorem znU {st:List Int}{x:Int}:st.map Dt.int++[Dt.int x]=(st++[x]).map Dt.int:=by rw [List.map_append];rfl
theorem zeu {st:List Int}{b x:Int}(b0:0<=b)(hz:st.length<=1000):uu (st.map Dt.int) none (some b)++[Dt.int x]++uu (st.map Dt.int) (some (b+1)) none=(chg st b x).map Dt.int:=by
 have key:∀ z:W,zeE (.d (.tup (uu (st.map Dt.int) none (some b)))) (.d (.tup [.int x])) 0 (fun w m=>zeE w (.d (.tup (uu (st.map Dt.int) (some (b+1)) none))) m fun w' _=>w' = .d (stD (chg st b x))):=fun z=>zle b0 hz rfl
 obtain ⟨l,m,e1,e2,_,l2,m2,e3,e4,_,h⟩:=key (.d .non)
 cases e1
 cases e2
 cases e3
 cases e4
 simpa using h
theorem zcQ {st:List Int}{b:Int}{x:Dt}(hz:st.length<=1000):(uu (st.map Dt.int) none (some b)).length+[x].length<=lim:=by
 have:=ug (st.map Dt.int) none (some b)
 rw [List.length_map] at this
 exact Nat.le_trans (by simp;lia:_<=1001) (by decide)
theorem zcR {st:List Int}{b c:Int}{x:Dt}(hz:st.length<=1000):(uu (st.map Dt.int) none (some b)++[x]).length+(uu (st.map Dt.int) (some c) none).length<=lim:=by
 have h1:=ug (st.map Dt.int) none (some b)
 have h2:=ug (st.map Dt.int) (some c) none
 rw [List.length_map] at h1 h2
 rw [List.length_append]
 exact Nat.le_trans (by simp;lia:_<=2001) (by decide)
open PySem.Spec
theorem dr {K:PySem.W.Frag}{Pn:Option zr}{p:Addr}{zK:Int}{n:Nat}{Q:W->Nat->Prop}(hP:xM K Pn p)(h:∀ r,0<=r->r<zK->Q (.d (.int r)) (n+1))(hn:n<=1000000:=by lia)(h1:1<=zK:=by lia)(h2:zK<1073741824:=by lia):zgn K Pn [.pen p,.d (.int zK)] n Q:=⟨p,zK,hP,rfl,hn,h1,h2,h⟩
open PySem.Spec
def scR (mg:W->Ev->(Ev->Prop)->Prop)(ft:Ev->Mo Bool)(fe:Ev->Mo W)(ρ0:Ev)(Q:List (List Int)->Nat->Prop):List W->Nat->Prop:=fun l n1=>∃ I:Nat->Ev->Nat->List (List Int)->Prop,I 0 ρ0 n1 []/\
 (∀ i w ρ' n' acc,l[i]?=some w->I i ρ' n' acc->mg w ρ' fun ρ1=>ft ρ1 n' fun b n2=>if b=true then fe ρ1 n2 fun x n3=>∃ st,x = .d (stD st)/\I (i+1) ρ1 n3 (acc++[st]) else I (i+1) ρ1 n2 acc)/\
 (∀ i ρ' n' acc ks,I i ρ' n' acc->List.Nodup ks->(∀ z∈ks,z∈acc)->ks.length<300)/\
 ∀ ρ' n' acc ks,I l.length ρ' n' acc->List.Nodup ks->(∀ z,z∈ks↔z∈acc)->Q ks n'
@[reducible] def zhK (fi:Ev->Mo (List W)) (mg:W->Ev->(Ev->Prop)->Prop) (ft:Ev->Mo Bool) (fe:Ev->Mo W) (cix:List (Option Nat)):Ev->Mo W:=fun ρ n Q=>fi ρ n (scR mg ft fe (zem ρ cix) fun ks n'=>∃ m,ks.length<64/\1<=m/\(∀ st∈ks,st.length=m)/\∀ l':List (List Int),l'.Perm ks->(l'.Pairwise fun a b=>HT.lexLt a b=true)->Q (.d (uA l')) n')
theorem zhR {P:Program}{w:World}{a:Addr}{xs:List (List Key×Addr)}:NP (zgf P w a xs):=fun _ e=>by cases e
theorem znc {P:Program}{w:World}{H:Hp}{acc:Addr}{o:HO}{ks:List (List Int)}(S:zgl P w (upd H acc o) acc ks):NP o/\∀ xs,o≠.tup xs:=by
 obtain ⟨xs,h1,_⟩:=S
 rw [zo] at h1
 cases h1
 exact ⟨zhR,fun _ e=>by cases e⟩
section
variable {X:Cx}{Pn:Option zr}{M S:List Nat}{fr fr':Bool}{pos p:Pos}
theorem zik {P:Program}{w:World}{wi:TI}{g:TG}{ti:TT}{te:TE}{cix:List (Option Nat)}{fi:Ev->Mo (List W)}{mg:W->Ev->(Ev->Prop)->Prop}{ft:Ev->Mo Bool}{fe:Ev->Mo W}{ow:Bool}(hn:(cix.filterMap id).Nodup)
  (hi:RI Pn M ow wi fi) (hg:RG (xZ M cix) (xZ M cix) g mg) (ht:RT Pn (xZ M cix) ti ft) (he:RE Pn (xZ M cix) fr' te fe):RE Pn M true (tCB (zkY P w) (zeg (zno P w wi g ti te cix) znn)) (zhK fi mg ft fe cix):=⟨fun A σ H ρ n Q R E Pp hf k=>by
 refine hi.run A σ H ρ n _ _ E Pp hf fun l m J H1 ⟨I,i0,it,ib,ie⟩ iv g1=>fun acc f S0=>?_
 have E1:=E.stay g1.st
 have E2:=(E1.cap hn).more (zw.upd (o:=zgf P w acc []) f) (Fr.of f) zo zhR (by intro xs z;cases z)
 have P2:xh Pn (fun b=>A b\/b=acc) m (L2.upd H1 acc (zgf P w acc [])):=g1.pn.grow (g1.pn.same (xB.upd f)) (Fr.of f) zo zhR
 have y:∀ k w,k∈xZ M cix->(zem ρ cix)[k]?=some (some w)->(zbv σ cix)[k]?≠some (some (.ref acc)):=fun k w hk hw z=>by
  obtain ⟨v,s1,_,s3⟩:=(E1.cap hn).val k w hw
  obtain ⟨a,e,hA,_⟩:=s3 hk
  rw [z] at s1
  cases s1
  cases e
  exact E1.new f hA
 have key:∀ σ' ρ' H',EnvR (fun b=>A b\/b=acc) (xZ M cix) σ' H' ρ'->(∀ k∈xZ M cix,σ'[k]?=(zbv σ cix)[k]?/\ρ'[k]?=(zem ρ cix)[k]?)->∀ k w,k∈xZ M cix->ρ'[k]?=some (some w)->σ'[k]?≠some (some (.ref acc)):=fun σ' ρ' H' E' r k w hk hw z=>by
  obtain ⟨f1,f2⟩:=r k hk
  rw [f1] at z
  rw [f2] at hw
  exact y k w hk hw z
 refine ⟨fun i mm σ' H'=>mm=l.length - i/\i<=l.length/\∃ ρ' n' c ks,EnvR (fun b=>A b\/b=acc) (xZ M cix) σ' H' ρ'/\xh Pn (fun b=>A b\/b=acc) n' H'/\I i ρ' n' c/\zgl P w H' acc ks/\(∀ z,z∈ks↔z∈c)/\zw (z7 A H1) (z7 (fun b=>A b\/b=acc) H')/\zw H1 H'/\(∀ k∈xZ M cix,σ'[k]?=(zbv σ cix)[k]?/\ρ'[k]?=(zem ρ cix)[k]?),
  ⟨l.length,by simp,Nat.zero_le _,_,m,[],[],E2,P2,i0,S0,fun _=>Iff.rfl,y2 (zw.upd f) (Fr.of f),zw.upd f,fun k hk=>⟨rfl,rfl⟩⟩,?_⟩
 rintro i mm σ' H' ⟨rfl,Y,ρ',n',c,ks,E',P',hI,hS,hm,st,s1,r⟩
 have B:ks.Nodup:=hS.choose_spec.2.2.2
 by_cases hlt:i<l.length
 ·right
  have t:l[i]?=some l[i]:=List.getElem?_eq_getElem hlt
  obtain ⟨go,yl⟩:=iv.one i l[i] _ H' t st (fun _=>s1) fun p hp=>E'.new hp
  refine ⟨go,fun σ2 H2=>∃ ρ' n' c ks,EnvR (fun b=>A b\/b=acc) (xZ M cix) σ2 H2 ρ'/\xh Pn (fun b=>A b\/b=acc) n' H2/\I (i+1) ρ' n' c/\zgl P w H2 acc ks/\(∀ z,z∈ks↔z∈c)/\zw (z7 A H1) (z7 (fun b=>A b\/b=acc) H2)/\zw H1 H2/\(∀ k∈xZ M cix,σ2[k]?=(zbv σ cix)[k]?/\ρ'[k]?=(zem ρ cix)[k]?),
   fun σ2 H2 h=>⟨l.length - (i+1),by lia,rfl,hlt,h⟩,fun x H2 hy=>?_⟩
  obtain ⟨S2,V2⟩:=yl x H2 hy
  refine hg.run _ σ' H2 ρ' x l[i] _ _ (E'.stay (zw.same S2)) V2 (it i l[i] ρ' n' c t hI) fun σ3 ρ3 r3 E3 f3=>?_
  have j:∀ k∈xZ M cix,σ3[k]?=(zbv σ cix)[k]?/\ρ3[k]?=(zem ρ cix)[k]?:=fun k hk=>⟨(f3 k hk).1.trans (r k hk).1,(f3 k hk).2.trans (r k hk).2⟩
  refine ht.run _ σ3 H2 ρ3 n' _ _ E3 (P'.same S2) r3 fun b m3 H4 r4 g4=>?_
  have s:=(zw.same S2).trans g4.st
  cases b with
  | false=>
   rw [if_neg (by decide)] at r4 ⊢
   exact ⟨ρ3,m3,c,ks,E3.stay g4.st,g4.pn,r4,hS.stay s,hm,st.trans (zV s),s1.trans s,j⟩
  | true=>
   rw [if_pos rfl] at r4 ⊢
   refine he.run _ σ3 H4 ρ3 m3 _ _ (E3.stay g4.st) g4.pn r4 fun w5 m5 v5 H5 ⟨d,e5,r5⟩ V5 g5 _=>?_
   subst e5
   have u:=s.trans g5.st
   have E5:=(E3.stay g4.st).stay g5.st
   obtain ⟨b,rfl,hb⟩:=zqg V5
   refine ⟨b,d,ks,rfl,hb,hS.stay u,ib i ρ' n' c ks hI B fun z hz=>(hm z).mp hz,fun o K S' L Z=>?_⟩
   obtain ⟨np,nt⟩:=znc S'
   refine ⟨ρ3,m5,c++[d],K,E5.upd (.inr rfl) (key σ3 ρ3 H5 E5 j) np nt,g5.pn.upd (.inr rfl),r5,S',fun z=>?_,?_,?_,j⟩
   ·rw [L z,List.mem_append,List.mem_singleton,hm z,or_comm]
   ·rw [yp (.inr rfl)]
    exact st.trans (zV u)
   ·exact fun b o e nn=>by
     rw [zf (zb e f)]
     exact s1.trans u b o e nn
 ·left
  have N:i=l.length:=by lia
  subst N
  refine ⟨iv.stop _ H' st (fun _=>s1),?_⟩
  obtain ⟨ml,O,h1,T,hq⟩:=ie ρ' n' c ks hI B hm
  refine ⟨acc,ks,ml,rfl,hS,O,h1,T,fun ys q U hp hu=>fun p H3 C gp S3=>?_⟩
  have V:=s1.trans (zw.same S3)
  have D:Al A H':=E1.al.stay s1
  have X:xh Pn A n' H3:=(P'.same S3).less fun a z=>.inl z
  have F:=D.stay (zw.same S3)
  have G:=U.stay (zw.same S3)
  refine k _ n' _ H3 (hq q hp hu) (Val.of ⟨p,ys,rfl,zF (D.new C) gp,xu F.noT (xi q) G⟩) (g1.trans ⟨V,X⟩) fun _=>⟨p,rfl,((Fr.of C).back s1).back g1.st,p,ys,rfl,gp,xu (fun b xs z e=>?_) (xi q) G⟩
  rcases z with z | z
  ·exact F.noT b xs z e
  ·subst z;rw [gp] at e;cases e⟩
theorem zjq {elt tg iter:Expr}{ifs:List Expr}{scope:Scope}{N:List Str}{cix:List (Option Nat)}{fi:Ev->Mo (List W)}{mg:W->Ev->(Ev->Prop)->Prop}{ft:Ev->Mo Bool}{fe:Ev->Mo W}{ow:Bool}{sp:Pos}(hm0:X.mg "sorted" = none)(hu:X.A.units+1<cLine)(hc:X.calm=true)(cc:CompOk X scope N cix)
  (hi:JI X Pn M ow tg iter fi) (hg:∀ C s H ex,JG (zt X scope N C s H ex) (xZ M cix) (xZ M cix) tg mg) (ht:∀ C s H ex,JTs (zt X scope N C s H ex) Pn (xZ M cix) ifs ft) (he:∀ C s H ex,JE (zt X scope N C s H ex) Pn (xZ M cix) fr' elt fe)
  (hn:(cix.filterMap id).Nodup:=by decide) (hs:∀ x,foldedSetIterable iter X.env x=pure x:=by intro _;rfl) (hg0:Gl X "sorted" := by rfl) (hs1:starEach [.SetComp elt [⟨tg,iter,ifs,0⟩] scope sp] X.env=[(false,eval (.SetComp elt [⟨tg,iter,ifs,0⟩] scope sp) X.env)]:=by rfl) (hpl:(backTo pos (starEach [] X.env)).any (·.1)=false:=by rfl) :
  JE X Pn M true (.Call (.Name "sorted" p) [.SetComp elt [⟨tg,iter,ifs,0⟩] scope sp] [] pos) (zhK fi mg ft fe cix):=by
 obtain ⟨ti,qi,ri⟩:=hi.ex
 obtain ⟨g,qg,rg⟩:=znz hg
 obtain ⟨tt,qt,rt⟩:=znA ht
 obtain ⟨te,qe,re⟩:=zny he
 exact ⟨_,xj (zi2 hc) hg0 hm0 PyProof.Rows.boot_sorted (z8 (zga hu hc cc qi qg qt qe hs) y8 hs1) (by decide) (by decide) hs1 hpl,zik hn ri rg rt re⟩
end
theorem zng {α:Type}{l:List W}{ρ0:Ev}{n:Nat}{mg:W->Ev->(Ev->Prop)->Prop}{ft:Ev->Mo Bool}{fe:Ev->Mo W}{Q:List (List Int)->Nat->Prop}(xs:List α)(toW:α->W)(hl:l=xs.map toW)(J:Ev->Prop)(P:α->Bool)(E:α->List Int)(j0:J ρ0)
  (h:∀ a∈xs,∀ ρ',J ρ'->∀ C:Ev->Nat->Option (List Int)->Prop,(∀ {ρ1},P a=true->J ρ1->C ρ1 n (some (E a)))->(∀ {ρ1},P a=false->J ρ1->C ρ1 n none)->mg (toW a) ρ' fun ρ1=>ft ρ1 n fun b n2=>onC b (fe ρ1 n2 fun x n3=>∃ st,x = .d (stD st)/\C ρ1 n3 (some st)) (C ρ1 n2 none))
  (few:∀ ks,List.Nodup ks->(∀ z∈ks,z∈(xs.filter P).map E)->ks.length<300)
  (fin:∀ ks,List.Nodup ks->(∀ z,z∈ks↔z∈(xs.filter P).map E)->Q ks n):scR mg ft fe ρ0 Q l n:=by
 subst hl
 refine ⟨fun i ρ' n' acc=>J ρ'/\n'=n/\acc=((xs.take i).filter P).map E,⟨j0,rfl,by simp⟩,?_,?_,?_⟩
 ·rintro i w ρ' n' acc hw ⟨hj,rfl,rfl⟩
  rw [List.getElem?_map] at hw
  obtain ⟨a,ha,rfl⟩:=Option.map_eq_some_iff.mp hw
  have:=h a (List.mem_of_getElem? ha) ρ' hj (fun ρ1 n3 o=>match o with
   | some d=>J ρ1/\n3=n'/\((xs.take i).filter P).map E++[d]=((xs.take (i+1)).filter P).map E
   | none=>J ρ1/\n3=n'/\((xs.take i).filter P).map E=((xs.take (i+1)).filter P).map E) (fun {ρ1} hp c=>by
    rw [zn ha,List.filter_append,List.map_append]
    exact ⟨c,rfl,by simp [hp]⟩) (fun {ρ1} hp c=>by
    rw [zn ha,List.filter_append,List.map_append]
    exact ⟨c,rfl,by simp [hp]⟩)
  simp only [zbX] at this
  exact this
 ·rintro i ρ' n' acc ks ⟨_,rfl,rfl⟩ hn hk
  refine few ks hn fun z hz=>?_
  obtain ⟨a,ha,e⟩:=List.mem_map.mp (hk z hz)
  obtain ⟨h1,h2⟩:=List.mem_filter.mp ha
  exact List.mem_map.mpr ⟨a,List.mem_filter.mpr ⟨List.mem_of_mem_take h1,h2⟩,e⟩
 ·rintro ρ' n' acc ks ⟨_,rfl,rfl⟩ hn hk
  rw [List.length_map,List.take_length] at hk
  exact fin ks hn hk
end L3
local macro_rules | `(tactic| walk_at "st")=>`(tactic| ((try (with_reducible conv=>whnf));repeat (with_reducible refine L3.znT ?_;try (with_reducible conv=>whnf)));try dsimp only)
local macro_rules | `(tactic| walk_at "ct")=>`(tactic| (with_reducible refine L3.zoJ ?_ ?_;(first | decide | assumption | rfl));walk_at "st")
local macro_rules | `(tactic| walk_at "cf")=>`(tactic| (with_reducible refine L3.zoI ?_ ?_;(first | decide | assumption | rfl));walk_at "st")
namespace Law
open PySem L2 L3
def top (i:Nat):Stmt:=PySem.Challenge.pw_allelse_k34_bests_of_any_book.main.body.getD i (.Pass ⟨0,0,0,0⟩)
abbrev xo:Stmt:=top 11
abbrev yX:Stmt:=top 12
abbrev xp:Stmt:=top 1
abbrev x9:Stmt:=top 2
abbrev zba:Stmt:=top 4
abbrev yI:Stmt:=top 7
abbrev ua:Stmt:=top 5
abbrev za9:Stmt:=top 9
abbrev yW:Stmt:=top 13
abbrev xn:Stmt:=top 15
abbrev yV:Stmt:=top 14
abbrev zZ:Stmt:=top 16
abbrev yD:Stmt:=top 17
abbrev yY:Stmt:=top 18
abbrev yr:Stmt:=top 19
abbrev yU:Stmt:=top 21
abbrev yF:Stmt:=top 20
abbrev zY:Stmt:=top 22
abbrev yq:Stmt:=top 23
abbrev yT:Stmt:=top 24
abbrev yG:Stmt:=top 25
abbrev zO:Stmt:=top 26
abbrev yE:Stmt:=top 27
abbrev yC:Stmt:=top 28
abbrev yc:Stmt:=top 29
abbrev yH:Stmt:=top 30
abbrev zgd:Stmt:=top 31
theorem ze9:FnScope ["_law_script"] ["_law_script"] (zc xo):=⟨rfl,rfl,rfl,by decide +kernel,rfl,by decide +kernel,by decide +kernel⟩
theorem ym:FnScope ["_law_pen_here","_law_most","_law_found","_law_at","_law_cell","_law_mixed"] ["_law_pen_here","_law_most"] (zc yX):=⟨rfl,rfl,rfl,by decide +kernel,rfl,by decide +kernel,by decide +kernel⟩
theorem ur:FnScope ["choices","rows","worths"] ["choices"] (zc xp):=⟨rfl,rfl,rfl,by decide +kernel,rfl,by decide +kernel,by decide +kernel⟩
theorem zge:FnScope ["standing","box","worth"] ["standing","box","worth"] (zc x9):=⟨rfl,rfl,rfl,by decide +kernel,rfl,by decide +kernel,by decide +kernel⟩
theorem zdq:FnScope ["standing","given","box","worth"] ["standing","given"] (zc zba):=⟨rfl,rfl,rfl,by decide +kernel,rfl,by decide +kernel,by decide +kernel⟩
theorem zaP:FnScope ["room","book","standing","held","left_alone"] ["room","book","standing","held"] (zc yI):=⟨rfl,rfl,rfl,by decide +kernel,rfl,by decide +kernel,by decide +kernel⟩
theorem zcD:FnScope ["room","given","fixed"] ["room","given"] (zc ua):=⟨rfl,rfl,rfl,by decide +kernel,rfl,by decide +kernel,by decide +kernel⟩
theorem zfI:FnScope ["room","book","given","held"] ["room","book","given"] (zc za9):=⟨rfl,rfl,rfl,by decide +kernel,rfl,by decide +kernel,by decide +kernel⟩
theorem xJ:FnScope ["_law_room_here","_law_many","_law_worths"] ["_law_room_here"] (zc yW):=⟨rfl,rfl,rfl,by decide +kernel,rfl,by decide +kernel,by decide +kernel⟩
theorem uo:FnScope ["_law_room_here","_law_found","_law_worths"] ["_law_room_here"] (zc xn):=⟨rfl,rfl,rfl,by decide +kernel,rfl,by decide +kernel,by decide +kernel⟩
theorem yk:FnScope ["_law_pen_here","_law_most","_law_some","_law_room_here","_law_k","_law_worths"] ["_law_pen_here","_law_most"] (zc yV):=⟨rfl,rfl,rfl,by decide +kernel,rfl,by decide +kernel,by decide +kernel⟩
theorem zbr:FnScope ["_law_pen_here","_law_room_here"] ["_law_pen_here","_law_room_here"] (zc zZ):=⟨rfl,rfl,rfl,by decide +kernel,rfl,by decide +kernel,by decide +kernel⟩
theorem xk:FnScope ["_law_pen_here","_law_room_here","_law_box","_law_rare","_law_found","_law_at"] ["_law_pen_here","_law_room_here","_law_box"] (zc yD):=⟨rfl,rfl,rfl,by decide +kernel,rfl,by decide +kernel,by decide +kernel⟩
theorem y9:FnScope ["_law_pen_here","_law_room_here","_law_way","_law_box","_law_worse","_law_better"] ["_law_pen_here","_law_room_here","_law_way"] (zc yY):=⟨rfl,rfl,rfl,by decide +kernel,rfl,by decide +kernel,by decide +kernel⟩
theorem xT:FnScope ["_law_pen_here","_law_some","_law_found","_law_one"] ["_law_pen_here","_law_some"] (zc yr):=⟨rfl,rfl,rfl,by decide +kernel,rfl,by decide +kernel,by decide +kernel⟩
theorem uR:FnScope ["_law_one","_law_other","_law_box","_law_given_here"] ["_law_one","_law_other"] (zc yU):=⟨rfl,rfl,rfl,by decide +kernel,rfl,by decide +kernel,by decide +kernel⟩
theorem ya:FnScope ["_law_room_here","_law_found","_law_worths","_law_longer","_law_k","_law_some"] ["_law_room_here"] (zc yF):=⟨rfl,rfl,rfl,by decide +kernel,rfl,by decide +kernel,by decide +kernel⟩
theorem zI:FnScope ["_law_pen_here","_law_room_here","_law_row","_law_book_here","_law_at","_law_way"] ["_law_pen_here","_law_room_here"] (zc zY):=⟨rfl,rfl,rfl,by decide +kernel,rfl,by decide +kernel,by decide +kernel⟩
theorem zz:FnScope ["_law_pen_here","_law_room_here","_law_boxes","_law_book_here","_law_k","_law_box","_law_parents","_law_case","_law_rank","_law_given_here"] ["_law_pen_here","_law_room_here"] (zc yq):=⟨rfl,rfl,rfl,by decide +kernel,rfl,by decide +kernel,by decide +kernel⟩
theorem xI:FnScope ["_law_pen_here","_law_room_here","_law_way","_law_book_here"] ["_law_pen_here","_law_room_here"] (zc yT):=⟨rfl,rfl,rfl,by decide +kernel,rfl,by decide +kernel,by decide +kernel⟩
theorem yt:FnScope ["_law_book_here","_law_standing_here","_law_held","_law_found","_law_given_here","_law_box","_law_better","_law_worse"] ["_law_book_here","_law_standing_here","_law_held"] (zc yG):=⟨rfl,rfl,rfl,by decide +kernel,rfl,by decide +kernel,by decide +kernel⟩
theorem xK:FnScope ["_law_pen_here","_law_room_here","_law_rare"] ["_law_pen_here","_law_room_here"] (zc zO):=⟨rfl,rfl,rfl,by decide +kernel,rfl,by decide +kernel,by decide +kernel⟩
theorem zdp:FnScope ["_law_standing_here","_law_given_here"] ["_law_standing_here","_law_given_here"] (zc yE):=⟨rfl,rfl,rfl,by decide +kernel,rfl,by decide +kernel,by decide +kernel⟩
theorem uq:FnScope ["_law_room_here","_law_book_here","_law_given_here","_law_held","_law_some"] ["_law_room_here","_law_book_here","_law_given_here"] (zc yC):=⟨rfl,rfl,rfl,by decide +kernel,rfl,by decide +kernel,by decide +kernel⟩
theorem xz:FnScope ["_law_found","_law_due","_law_one","_law_other"] ["_law_found","_law_due"] (zc yc):=⟨rfl,rfl,rfl,by decide +kernel,rfl,by decide +kernel,by decide +kernel⟩
theorem zaO:FnScope ["_law_pen_here","_law_room_here","_law_box"] ["_law_pen_here","_law_room_here"] (zc yH):=⟨rfl,rfl,rfl,by decide +kernel,rfl,by decide +kernel,by decide +kernel⟩
theorem zaj:FnScope ["_law_script","_law_pen_here","_law_most","_law_room_here","_law_book_here","_law_turn","_law_given_here","_law_due","_law_found","_law_wider_here"] ["_law_script"] (zc zgd):=⟨rfl,rfl,rfl,by decide +kernel,rfl,by decide +kernel,by decide +kernel⟩
set_option genInjectivity false in
structure Ad where
 f0:Addr
 d0:FuncData
 f1:Addr
 d1:FuncData
 f2:Addr
 d2:FuncData
 f3:Addr
 d3:FuncData
 f4:Addr
 d4:FuncData
 f5:Addr
 d5:FuncData
 f6:Addr
 d6:FuncData
 f7:Addr
 d7:FuncData
 f8:Addr
 d8:FuncData
 f9:Addr
 d9:FuncData
 f10:Addr
 d10:FuncData
 f11:Addr
 d11:FuncData
 f12:Addr
 d12:FuncData
 f13:Addr
 d13:FuncData
 f14:Addr
 d14:FuncData
 f15:Addr
 d15:FuncData
 f16:Addr
 d16:FuncData
 f17:Addr
 d17:FuncData
 f18:Addr
 d18:FuncData
 f19:Addr
 d19:FuncData
 f20:Addr
 d20:FuncData
 f21:Addr
 d21:FuncData
 f22:Addr
 d22:FuncData
 f23:Addr
 d23:FuncData
 f24:Addr
 d24:FuncData
 f25:Addr
 d25:FuncData
 f26:Addr
 d26:FuncData
structure Txt (K:PySem.W.Frag)(mg:Str->Option Value)(t:Ad):Prop where
 q0:Dfn K mg "_law_pen" xo ["_law_script"] t.f0 t.d0
 q1:Dfn K mg "_law_take" yX ["_law_pen_here","_law_most"] t.f1 t.d1
 q2:Dfn K mg "combined" xp ["choices"] t.f2 t.d2
 q3:Dfn K mg "changed" x9 ["standing","box","worth"] t.f3 t.d3
 q4:Dfn K mg "keeps" zba ["standing","given"] t.f4 t.d4
 q5:DfnD K mg "betterings" yI ["room","book","standing","held"] [Value.none] t.f5 t.d5
 q6:Dfn K mg "keeping" ua ["room","given"] t.f6 t.d6
 q7:Dfn K mg "bests" za9 ["room","book","given"] t.f7 t.d7
 q8:Dfn K mg "_law_size" yW ["_law_room_here"] t.f8 t.d8
 q9:Dfn K mg "_law_all" xn ["_law_room_here"] t.f9 t.d9
 q10:Dfn K mg "_law_room" yV ["_law_pen_here","_law_most"] t.f10 t.d10
 q11:Dfn K mg "_law_standing" zZ ["_law_pen_here","_law_room_here"] t.f11 t.d11
 q12:Dfn K mg "_law_given" yD ["_law_pen_here","_law_room_here","_law_box"] t.f12 t.d12
 q13:Dfn K mg "_law_wish" yY ["_law_pen_here","_law_room_here","_law_way"] t.f13 t.d13
 q14:Dfn K mg "_law_turned" yr ["_law_pen_here","_law_some"] t.f14 t.d14
 q15:Dfn K mg "_law_full" yU ["_law_one","_law_other"] t.f15 t.d15
 q16:Dfn K mg "_law_snake" yF ["_law_room_here"] t.f16 t.d16
 q17:Dfn K mg "_law_row_book" zY ["_law_pen_here","_law_room_here"] t.f17 t.d17
 q18:Dfn K mg "_law_ranked" yq ["_law_pen_here","_law_room_here"] t.f18 t.d18
 q19:Dfn K mg "_law_book" yT ["_law_pen_here","_law_room_here"] t.f19 t.d19
 q20:Dfn K mg "_law_steps" yG ["_law_book_here","_law_standing_here","_law_held"] t.f20 t.d20
 q21:Dfn K mg "_law_some_given" zO ["_law_pen_here","_law_room_here"] t.f21 t.d21
 q22:Dfn K mg "_law_keeps" yE ["_law_standing_here","_law_given_here"] t.f22 t.d22
 q23:Dfn K mg "_law_bests" yC ["_law_room_here","_law_book_here","_law_given_here"] t.f23 t.d23
 q24:Dfn K mg "_law_is_list" yc ["_law_found","_law_due"] t.f24 t.d24
 q25:Dfn K mg "_law_wider" yH ["_law_pen_here","_law_room_here"] t.f25 t.d25
 q26:Dfn K mg "law" zgd ["_law_script"] t.f26 t.d26
 b_dict:mg "dict" = none
 b_sorted:mg "sorted" = none
 b_tuple:mg "tuple" = none
 b_range:mg "range" = none
 b_zip:mg "zip" = none
 b_len:mg "len" = none
 b_list:mg "list" = none
 b_abs:mg "abs" = none
 b_isinstance:mg "isinstance" = none
 b_int:mg "int" = none
 b_enumerate:mg "enumerate" = none
 b_bool:mg "bool" = none
section
variable {P:Program}{w:World}{K:PySem.W.Frag}{mg:Str->Option Value}{base:Heap}{t:Ad}
theorem zeV (T:Txt K mg t):FnOk P w K mg base CX0 1 t.f0 t.d0 ["_law_script"] (zkf K):=by
 refine T.q0.F.okQ ze9 (fun vs H Q E h=>?_) (fun d A outer s H vs Q E hr h=>?_)
 ·obtain ⟨a,ns,rfl,_⟩:=h
  rfl
 ·obtain ⟨a,ns,rfl,hS,hl,k⟩:=h
  refine ⟨_,(uQ (zb3 (zmM (zdl xG (qv 0) (zdl xG yy (zdl xG yy zmY))) rfl rfl (by simp) (by decide)))),?_⟩
  intro p hp
  refine ⟨_,rfl,zo,zaL a 0 0,rfl,(by show 3<=15;decide),?_⟩
  rw [zo3]
  obtain ⟨c,f,hK,hP⟩:=KL.of hS
  have S2:xB H (upd (upd H p (.dK [])) p (.dK (zaL a 0 0))):=fun b o e=>by
   rw [zf (zb e hp),zf (zb e hp)]
   exact e
  exact k p a c _ hK ⟨⟨0,0,zo,by lia,by lia,by lia⟩,hP.same S2,by lia⟩ S2
theorem zd4 (T:Txt K mg t):FnOk P w K mg base CX0 1 t.f1 t.d1 ["_law_pen_here","_law_most"] (zk4 K):=by
 refine T.q1.F.okQ ym (fun vs H Q E h=>?_) (fun x A outer s H vs Q E hr h=>?_)
 ·obtain ⟨p,c,ns,n,zK,rfl,_⟩:=h
  rfl
 ·obtain ⟨p,c,ns,n,zK,rfl,hK,hP,hn,h1,h2,k⟩:=h
  have hu:=zg9 hr
  obtain ⟨⟨a,l,hp,v,y,g⟩,hc,hlen⟩:=id hP
  have f:∀ r,ns=0::r->c≠p:=fun r e=>by
   rcases hc with ⟨r',e',z | ⟨o,z⟩⟩ | ⟨r',e'⟩
   ·exact zeU z hp (by intro q;cases q)
   ·exact zeU z hp (by intro q;cases q)
   ·rw [e] at e';cases e'
  refine ⟨_,(z9 (zj4 (zb4 zf6 (um hu (qv 0) xG (fun _ _=>rfl)) yy (zx _)) (z9 (uP (i:=2) ym.nd rfl (Or.inl rfl) (yO uO (um hu (qv 0) xG (fun _ _=>rfl)) (qv 1)))
   (z9 (zdm hu (qv 0) xG (yO zbY (um hu (qv 0) xG (fun _ _=>rfl)) (qv 1)) rfl)
   (uQ (zb3 (qv 2))))) zdn)
   (z9 (uP (i:=3) ym.nd rfl (Or.inl rfl) (um hu (qv 0) xG (fun _ _=>rfl)))
   (z9 (zdm hu (qv 0) xG (yO yj (qv 3) yy) rfl)
   (z9 (uP (i:=4) ym.nd rfl (Or.inl rfl) yy)
   (z9 (zj4 (zb4 zf6 (xj yv (by rfl) T.b_len PySem.boot_len (z8 (um hu (qv 0) xG (fun _ _=>rfl)) y8)) yy (zx _)) (uQ (uP (i:=4) ym.nd rfl (Or.inl rfl) (zpp yn (um hu (qv 0) xG (fun _ _=>rfl)) (yO uO (qv 3) (xj yv (by rfl) T.b_len PySem.boot_len (z8 (um hu (qv 0) xG (fun _ _=>rfl)) y8))) (fun _ _=>rfl)))) zdn)
   (z9 (zj4 (QW.pt (zkX (zb4 zjK (qv 3) (xj yv (by rfl) T.b_len PySem.boot_len (z8 (um hu (qv 0) xG (fun _ _=>rfl)) y8)) (zx _)) (zib (zb4 zrH (xj zgD (by rfl) T.b_abs PyProof.Rows.boot_abs (z8 (qv 4) y8)) (yO zoT yy yy) (zx _))))) (z9 (zdm hu (qv 0) xG (yO zbY (xj zgD (by rfl) T.b_abs PyProof.Rows.boot_abs (z8 (qv 4) y8)) (qv 1)) rfl)
   (uQ (zb3 (yO uO (xj zgD (by rfl) T.b_abs PyProof.Rows.boot_abs (z8 (qv 4) y8)) (qv 1))))) zdn)
   (z9 (uP (i:=5) ym.nd rfl (Or.inl rfl) (yO uO (yO uy (yO yj (yO yj (yO yj (yO uO (qv 4) yy) (yO uy (yO uy yy (qv 3)) (qv 3))) (yO uy yy (qv 3))) yy) yy) yy))
   (z9 (uP (i:=5) ym.nd rfl (Or.inl rfl) (yO uO (yO yj (yO yj (yO uy (qv 5) (qv 5)) (yO uy yy (qv 5))) (yO uy yy (qv 3))) yy))
   (uQ (zb3 (yO uO (yO zbY (yO uO (yO uy (qv 5) yy) yy) yy) (qv 1)))))))))))),?_⟩
  refine ⟨_,rfl,p,_,rfl,zh4 hp,_,_,rfl,rfl,_,rfl,zqn (fun hl=>?_) (fun hl=>?_)⟩
  ·have B:0<l:=of_decide_eq_true hl
   refine ⟨_,rfl,p,_,rfl,zh4 hp,_,rfl,_,_,rfl,rfl,(by show (0:Int)<zK;lia),?_⟩
   refine ⟨_,rfl,p,_,rfl,zh4 hp,_,rfl,_,_,rfl,rfl,⟨by show (0:Int)<zK;lia,h2⟩,_,rfl,p,_,rfl,zkS hp _,?_⟩
   refine ⟨_,rfl,k _ _ (Int.emod_nonneg _ (by lia)) (Int.emod_lt_of_pos _ (by lia)) ⟨⟨a,_,zo,v,by lia,Int.ediv_nonneg g (by lia)⟩,hc.upd f,hlen⟩ (zdt hp)⟩
  ·refine ⟨_,rfl,p,_,rfl,zo2 hp,?_⟩
   refine ⟨_,rfl,_,_,rfl,rfl,_,rfl,p,_,rfl,zo6 hp _,?_⟩
   have b:upd H p (.dK (zaL c (a+1) l)) p=some (.dK (zaL c (a+1) l)):=zo
   have d:PLs (upd H p (.dK (zaL c (a+1) l))) c ns:=hc.upd f
   generalize hH1:upd H p (.dK (zaL c (a+1) l))=H1 at b d ⊢
   have j:zw H H1:=hH1 ▸ zdt hp
   obtain ⟨r,C,hq⟩:=hK.seq d
   refine' meet (α:=Int) _ (fun z6=>?_) ?_
   rotate_left
   ·
    refine ⟨_,rfl,p,_,rfl,zfC b,_,_,rfl,.inl ⟨_,hq,rfl⟩,_,_,rfl,rfl,_,rfl,zqn (fun hz=>?_) (fun hz=>?_)⟩
    have m:0<((r.map V.int).length:Int):=of_decide_eq_true hz
    obtain ⟨cell,u⟩:=znS r a m
    refine ⟨_,rfl,p,_,rfl,zfC b,_,rfl,_,rfl,p,_,rfl,zfC b,_,_,rfl,.inl ⟨_,hq,rfl⟩,_,_,rfl,rfl,m,c,_,_,_,rfl,rfl,hq,u,?_⟩
    exact z6 cell
    exact z6 0
   ·intro cell
    refine' zrz _ (fun z6=>?_) ?_
    rotate_left
    ·refine ⟨_,rfl,_,rfl,p,_,rfl,zfC b,_,_,rfl,.inl ⟨_,hq,rfl⟩,_,_,rfl,rfl,_,rfl,zqn (fun h3=>?_) (fun h3=>?_)⟩
     rotate_left
     ·refine iteF ?_
      exact z6
     refine ⟨_,rfl,_,rfl,_,_,rfl,rfl,⟨by decide,by decide,by decide⟩,_,_,rfl,rfl,_,rfl,zqn (fun h4=>?_) (fun h4=>?_)⟩
     rotate_left
     ·exact z6
     have ha:0<=(if cell<0 then -cell else cell):=by split <;> lia
     refine ⟨_,rfl,_,rfl,_,rfl,_,_,rfl,rfl,⟨by show (0:Int)<zK;lia,h2⟩,_,rfl,p,_,rfl,zkS b _,?_⟩
     refine ⟨_,rfl,_,rfl,_,rfl,_,_,rfl,rfl,(by show (0:Int)<zK;lia),k _ _ (Int.emod_nonneg _ (by lia)) (Int.emod_lt_of_pos _ (by lia)) ⟨⟨a+1,_,zo,by lia,by lia,Int.ediv_nonneg ha (by lia)⟩,d.upd f,hlen⟩ (j.trans (zdt b))⟩
    ·have D:=Int.emod_nonneg cell (show (2147483629:Int)≠0 by decide)
     have G:=Int.emod_lt_of_pos cell (show (0:Int)<2147483629 by decide)
     refine ⟨_,rfl,_,_,rfl,rfl,(by show (0:Int)<2147483629;decide),_,rfl,_,_,rfl,rfl,.inl ⟨by decide,by decide⟩,_,rfl,_,_,rfl,rfl,.inr ⟨by lia,by lia⟩,_,_,rfl,rfl,_,rfl,_,_,rfl,rfl,.inl ⟨by decide,by decide⟩,_,_,rfl,rfl,_,_,rfl,rfl,_,_,rfl,rfl,.inr ⟨by decide,by decide⟩,_,_,rfl,rfl,(by show (0:Int)<2147483647;decide),?_⟩
     generalize hw1:((cell % 2147483629+7919 * a * a+104729 * a+23) * 69621:Int)=w1
     have w0:=Int.emod_nonneg w1 (show (2147483647:Int)≠0 by decide)
     have w2:=Int.emod_lt_of_pos w1 (show (0:Int)<2147483647 by decide)
     generalize w1 % 2147483647=w3 at w0 w2
     refine ⟨_,rfl,_,rfl,_,_,rfl,rfl,.inl ⟨by lia,by lia⟩,_,rfl,_,_,rfl,rfl,.inl ⟨by decide,by decide⟩,_,_,rfl,rfl,_,rfl,_,_,rfl,rfl,.inl ⟨by decide,by decide⟩,_,_,rfl,rfl,_,_,rfl,rfl,(by show (0:Int)<2147483579;decide),?_⟩
     generalize hw5:((w3 * w3+40692 * w3+65537 * a) % 2147483579:Int)=w5
     refine ⟨_,rfl,_,_,rfl,rfl,.inr ⟨by decide,by decide⟩,_,_,rfl,rfl,(by show (0:Int)<2147483563;decide),_,_,rfl,rfl,⟨by decide,by decide⟩,_,rfl,_,_,rfl,rfl,(by show (0:Int)<zK;lia),?_⟩
     exact k _ _ (Int.emod_nonneg _ (by lia)) (Int.emod_lt_of_pos _ (by lia)) ⟨⟨a+1,l,b,by lia,by lia,g⟩,d,hlen⟩ j
theorem zB (T:Txt K mg t):FnOk P w K mg base CX0 1 t.f1 t.d1 ["_law_pen_here","_law_most"] (spV 2 false (zgn K)):=FnOk.lift (FnOk.mono (zd4 T) (by decide)) zhw
theorem zeW (T:Txt K mg t):FnOk P w K mg base CX0 1 t.f2 t.d2 ["choices"] (zcF K):=by
 refine T.q2.F.okQ ur (fun vs H Q E h=>?_) (fun cdv A outer s H vs Q E hr h=>?_)
 ·obtain ⟨ca,xs,cs,rfl,_⟩:=h
  rfl
 ·obtain ⟨ca,xs,cs,rfl,L,hL,Y,M,k⟩:=h
  have q:=zcN Y M
  refine ⟨_,(z9 (uP (i:=1) ur.nd rfl (Or.inl rfl) (zh9 (z8 (ze0 y8) y8)))
   (z9 (zkV PassesOwn.never rfl (ze1 (qv 0)) (zdk (i:=2) ur.nd rfl (Or.inr rfl)) (uQ (zj5 (ix:=1) ur.nd rfl rfl (N:=["row","worth","worths"]) (cix:=[none,none,some 2]) rfl ⟨rfl,by decide +kernel,rfl⟩ (ze1 (qv 1)) (fun _ _ _ _=>(zdk (i:=0) (show (["row","worth","worths"]:List Str).Nodup by decide +kernel) rfl (Or.inl rfl))) (fun _ _ _ _=>ze3) (fun _ _ _ _=>(zfF K rfl (qv 2))) (fun _ _ _ _=>(zdk (i:=1) (show (["row","worth","worths"]:List Str).Nodup by decide +kernel) rfl (Or.inl rfl))) (fun _ _ _ _=>ze3) (fun _ _ _ _=>(yO (zjI K rfl) (qv 0) (ze0 (z8 (qv 1) y8)))))))
   (uQ (zb3 (qv 1))))),?_⟩
  refine ⟨(by show 0<=sizeLine;decide),fun e0 H1 _ g1 S1=>⟨(by show 1<=sizeLine;decide),fun r0 H2 n2 g2 S2=>?_⟩⟩
  have S02:xB H H2:=fun b o e=>S2 _ _ (S1 _ _ e)
  have Z:H r0=none:=by
   cases e:H r0 with
   | none=>rfl
   | some o=>rw [S1 _ _ e] at n2;cases n2
  refine ⟨_,rfl,ca,rfl,⟨xs,.of (S02 _ _ L)⟩,zje (K:=K) (xs:=xs) (fun i σ H3=>∃ (ra:Addr) (ys:List V) (v2:Option V),σ=[some (.ref ca),some (.ref ra),v2]/\H ra=none/\H3 ra=some (.lst ys)/\IsL H3 ((ud (cs.take i)).map stD) ys/\xB H H3)
   ⟨r0,_,none,rfl,Z,g2,⟨_,_,rfl,⟨e0,_,rfl,S2 _ _ g1,rfl⟩,rfl⟩,S02⟩ (fun i σ H3 _ ⟨_,_,_,_,_,_,_,S⟩=>.of (S _ _ L)) ?_ ?_⟩
  ·rintro i x σ H3 hi ⟨ra,ys,v2,rfl,O,p,l,S3⟩
   have va:=(List.getElem?_eq_some_iff.mp hi).1
   have n:i<cs.length:=by rw [<- hL.1];exact va
   obtain ⟨wa,R,U⟩:=hL.2 i cs[i] (List.getElem?_eq_getElem n)
   rw [hi] at R
   cases R
   have r:=M cs[i] (List.getElem_mem n)
   have C:cs.take (i+1)=cs.take i++[cs[i]]:=zn (List.getElem?_eq_getElem n)
   have vb:=q i
   have D:=q (i+1)
   rw [C,yK] at D
   have G:=l.length
   rw [List.length_map] at G
   have v:∀ row∈ud (cs.take i),row.length<=8:=fun row hr=>by
    rw [zax _ _ hr,List.length_take]
    lia
   generalize cs[i]=ws at U r C D
   generalize hrows:ud (cs.take i)=rows at l vb D G v
   have B:=S3 _ _ U
   refine ⟨_,rfl,ra,rfl,⟨_,.of p⟩,fun acc f=>?_⟩
   refine zfV (xs:=ys) f (fun j σ' H'=>(∃ v0 v1,σ'=[v0,v1,some (.ref wa)])/\(∃ zs,H' acc=some (.lst zs)/\IsL H' ((yP (rows.take j) ws).map stD) zs)/\xB H3 H') (fun H' z1 z2=>⟨⟨_,_,rfl⟩,⟨[],z1,rfl⟩,z2⟩) (fun _ _ _ _ ⟨_,_,S⟩=>.of (S _ _ p)) ?_ ?_
   ·rintro j y σ' H4 hy ⟨⟨v0,v1,rfl⟩,⟨zs,c,a⟩,S4⟩
    obtain ⟨d,hd,vc⟩:=(l.stay (zw.same S4)).get hy
    rw [List.getElem?_map] at hd
    obtain ⟨row,I,rfl⟩:=Option.map_eq_some_iff.mp hd
    obtain ⟨J,rv,rfl,W,vd⟩:=vc
    obtain rfl:=vd.of_ints
    have hjl:=(List.getElem?_eq_some_iff.mp I).1
    have hr8:=v row (List.mem_of_getElem? I)
    show zgA _ zbb _ _ _ _ _ _ _ _ _
    refine zkL ?_
    refine ⟨_,rfl,wa,rfl,⟨_,.of (S4 _ _ B)⟩,?_⟩
    refine zfZ (xs:=ws.map V.int) (fun m σ' H'=>(∃ v1,σ'=[some (.ref J),v1,some (.ref wa)])/\(∃ zs,H' acc=some (.lst zs)/\IsL H' ((yP (rows.take j) ws++(ws.take m).map fun w=>row++[w]).map stD) zs)/\xB H3 H'/\H' J=some (.tup (row.map V.int))) ⟨⟨_,rfl⟩,⟨zs,c,by simpa using a⟩,S4,W⟩ (fun _ _ _ _ ⟨_,_,S,_⟩=>.of (S _ _ B)) ?_ ?_
    ·rintro m u σ' H5 hu ⟨⟨v1,rfl⟩,⟨zs,c,a⟩,S5,g⟩
     rw [List.getElem?_map] at hu
     obtain ⟨wv,X,rfl⟩:=Option.map_eq_some_iff.mp hu
     have hml:=(List.getElem?_eq_some_iff.mp X).1
     refine znV ⟨_,rfl,_,rfl,(by show 1<=sizeLine;decide),fun t1 H6 _ g6 S6=>?_⟩
     refine ⟨J,t1,_,_,rfl,rfl,S6 _ _ g,g6,Nat.le_of_lt (zaR (by rw [List.length_map];show row.length+1<=1000;lia)),fun t2 H7 g7 S7=>?_⟩
     have S57:xB H5 H7:=fun b o e=>S7 _ _ (S6 _ _ e)
     have ve:=a.length
     rw [List.length_map,List.length_append,uX,List.length_map,List.length_take,List.length_take] at ve
     have hcr:=uX rows ws
     have vf:(min j rows.length) * ws.length<=65536 * 4:=Nat.mul_le_mul (by lia) r
     refine ⟨zs,S57 _ _ c,Nat.lt_of_le_of_lt (show zs.length<=500000 by lia) (by decide),⟨_,rfl⟩,⟨_,zo,?_⟩,zkb f fun b o e=>S57 _ _ (S5 _ _ e),?_⟩
     ·refine IsL.stayT (zgr.app (S57 _ _ c)) (xi _) ?_
      rw [zn X,List.map_append (l₁:=ws.take m),<- List.append_assoc,List.map_append]
      refine (a.stay (zw.same S57)).append (IsL.one ⟨t2,_,rfl,g7,?_⟩)
      rw [List.map_append]
      exact IsL.ints.append (IsL.ints (ns:=[wv]))
     ·rw [zf (zeU (S57 _ _ g) (S57 _ _ c) (by intro z;cases z))]
      exact S57 _ _ g
    ·rintro σ' H5 ⟨⟨v1,rfl⟩,⟨zs,c,a⟩,S5,g⟩
     rw [List.length_map,List.take_length] at a
     refine ⟨⟨_,_,rfl⟩,⟨zs,c,?_⟩,S5⟩
     rw [zn I,zey]
     exact a
   ·rintro σ' H4 ⟨⟨v0,v1,rfl⟩,⟨zs,c,a⟩,S4⟩
    rw [G,List.take_length] at a
    refine ⟨acc,zs,_,rfl,?_,c,?_,fun b o e=>S4 _ _ (S3 _ _ e)⟩
    ·cases e:H acc with
     | none=>rfl
     | some o=>rw [S3 _ _ e] at f;cases f
    ·rw [C,yK,hrows]
     exact a
  ·rintro σ H3 ⟨ra,ys,v2,rfl,O,p,l,S3⟩
   rw [hL.1,List.take_length] at l
   exact ⟨_,rfl,k ra ys H3 O p l S3⟩
def zgm  : FV:=fun Pn ws n R=>∃ (st:List Int) (b x:Int),ws=[.d (stD st),.d (.int b),.d (.int x)]/\(0<=b)/\(st.length<=1000)/\(R (.d (stD (chg st b x))) n)
theorem zgm.i  {Pn:Option zr} {n:Nat} {R:W->Nat->Prop} {st:List Int} {b x:Int} (b0:0<=b) (hz:st.length<=1000) (h:R (.d (stD (chg st b x))) n)  : zgm Pn [.d (stD st),.d (.int b),.d (.int x)] n R:=⟨st,b,x,rfl,b0,hz,h⟩
theorem zeX (T:Txt K mg t):FnOk P w K mg base CX0 1 t.f3 t.d3 ["standing","box","worth"] (spV 3 false zgm):=by
 refine Fun.okW (k:=0) (fr:=false) [] 0 T.q3.F zge rfl (by decide) rfl fun a A outer s H E Pn hr=>⟨_,(zh (zD (x2 xy zak (JE.bo (x2 xy zak (JE.bo (wE za4 <| zf2 (kb 0) xb (wO yA <| xc (kb 1)))) (JE.bo (yJ (za (kv 2) ze))))) (JE.bo (wE za4 <| zf2 (kb 0) (wO yA <| xc (JE.bo (x2 yj uT (kb 1) (JE.bo zi)))) xb))))),fun ws n R hF=>?_⟩
 obtain ⟨st,b,x,rfl,b0,hz,r⟩:=hF
 walk_at "st"
 refine ⟨zcQ hz,?_⟩
 walk_at "st"
 refine ⟨zcR hz,?_⟩
 rw [zeu b0 hz]
 exact r
def zgo  : FV:=fun Pn ws n R=>∃ (st:List Int) (g:List (Int×Int)),ws=[.d (stD st),.d (zcW g)]/\(∀ q∈g,0<=q.1/\q.1<st.length)/\(R (.d (.bl (yL st g))) n)
theorem zgo.i  {Pn:Option zr} {n:Nat} {R:W->Nat->Prop} {st:List Int} {g:List (Int×Int)} (hg:∀ q∈g,0<=q.1/\q.1<st.length) (h:R (.d (.bl (yL st g))) n)  : zgo Pn [.d (stD st),.d (zcW g)] n R:=⟨st,g,rfl,hg,h⟩
theorem zhU (T:Txt K mg t):FnOk P w K mg base CX0 1 t.f4 t.d4 ["standing","given"] (spV 2 false zgo):=by
 refine Fun.okW (k:=0) (fr:=false) [] 2 T.q4.F zdq rfl (by decide) rfl fun a A outer s H E Pn hr=>⟨_,(zd (x3 PassesOwn.never rfl (wI xx <| uI K rfl (kv 1)) (wG zad <| zae (n:=2) K rfl rfl (wH ye <| zy (wG zJ <| zk (i:=2) zdq.nd rfl (Or.inl rfl)) (wH ye <| zy (wG zJ <| zk (i:=3) zdq.nd rfl (Or.inl rfl)) (wH zac xO)))) (zh (wS zH <| xf (wT zl <| zC zeZ znu (JE.bo (ui yo xA (kb 0) (kb 2) (fun _ _=>rfl))) (kb 3) (zx _)) (zh (zD zhk)) zG)))
   (zh (zD zhk))),fun ws n R hF=>?_⟩
 obtain ⟨st,g,rfl,hg,r⟩:=hF
 walk_at "st"
 refine xD g (fun q=>.d (u9 q)) (by rw [List.map_map];rfl) (fun i ρ m=>m=n/\(∃ v2 v3,ρ=[some (.d (stD st)),some (.d (zcW g)),v2,v3])/\yL st (g.take i)=true) ⟨rfl,⟨_,_,rfl⟩,rfl⟩ ?_ ?_
 ·rintro i q ρ m hq ⟨rfl,⟨v2,v3,rfl⟩,hk⟩ C B E hC _ hE
  have hb:=hg q (List.mem_of_getElem? hq)
  walk_at "st"
  refine onA hb.1 hb.2 ?_
  walk_at "st"
  refine zf5 (fun h=>?_) (fun h=>?_)
  ·walk_at "st"
   refine hE ?_
   have e:yL st g=false:=by
    unfold yL
    exact List.all_eq_false.mpr ⟨q,List.mem_of_getElem? hq,fun z=>h (of_decide_eq_true z)⟩
   rw [e] at r
   exact r
  ·walk_at "st"
   refine hC ⟨rfl,⟨_,_,rfl⟩,?_⟩
   unfold yL at hk ⊢
   rw [zn hq,List.all_append,hk]
   simp [h]
 ·rintro ρ m ⟨rfl,⟨v2,v3,rfl⟩,hk⟩
  rw [List.take_length] at hk
  rw [hk] at r
  walk_at "st"
  exact r
theorem zfl {Pn:Option zr}{n:Nat}{rm:List Int}{bk:List Wi}{st hs:List Int}(hR:RoomOk rm)(hB:u4 rm bk)(hst:st.length=rm.length){Q:W->Nat->Prop}(r:Q (.d (uA (ziL bk st hs))) n):scR (eTp 4 (eCn (eN 0) (eCn (eN 1) (eCn (eN 2) (eCn (eN 3) eNl))))) (zql (zlm (zhC dEq (zhC znJ (zct 4) (zct 1)) (zct 3))) (zql (zlm (zhC zcU (zct 1) (zct 5))) (zlm (dFn 2 (zgo Pn) (zeR (zct 4) (zeR (zct 0) zqv))))))
  (dFn 3 (zgm Pn) (zeR (zct 4) (zeR (zct 1) (zeR (zct 2) zqv)))) [none,none,none,none,some (.d (stD st)),some (.d (stD hs))] (fun ks n'=>∃ m,ks.length<64/\1<=m/\(∀ st∈ks,st.length=m)/\∀ l':List (List Int),l'.Perm ks->(l'.Pairwise fun a b=>HT.lexLt a b=true)->Q (.d (uA l')) n') ((bk.map zaV).map W.d) n:=by
 have h8:=hR.few
 have few:∀ ks:List (List Int),ks.Nodup->(∀ z∈ks,z∈xa bk st hs)->ks.length<=32:=fun ks h1 h2=>zdS hB h8 hR.box h1 h2
 refine zng bk (fun x=>W.d (zaV x)) (by rw [List.map_map];rfl) (fun ρ=>∃ a b c d,ρ=[a,b,c,d,some (.d (stD st)),some (.d (stD hs))]) (fun x=>za2 st x&&!hs.contains x.b) (fun x=>chg st x.b x.r) ⟨_,_,_,_,rfl⟩ ?_ (fun ks h1 h2=>by have:=few ks h1 h2;lia) ?_
 ·rintro x hx ρ' ⟨a,b,c,d,rfl⟩ C hY hN
  have hW:=hB x hx
  have b0:=hW.b0
  have b1:=hW.b1
  walk_at "st"
  refine onA b0 (by lia) ?_
  walk_at "st"
  refine xS (fun hw=>?_) (fun hw=>hN (by unfold za2;rw [decide_eq_false hw];simp) ⟨_,_,_,_,rfl⟩)
  walk_at "st"
  refine ⟨hs,rfl,?_⟩
  walk_at "st"
  refine zhX (fun hh=>?_) (fun hh=>hN (by rw [hh];simp) ⟨_,_,_,_,rfl⟩)
  walk_at "st"
  refine zgo.i (fun q hq=>?_) ?_
  ·have:=hW.giv.ok q hq
   rw [hst]
   exact ⟨this.1,this.2.1⟩
  walk_at "st"
  refine zjH (fun hk=>?_) (fun hk=>hN (by unfold za2;rw [hk];simp) ⟨_,_,_,_,rfl⟩)
  walk_at "st"
  refine zgm.i b0 (by lia) ⟨_,rfl,hY ?_ ⟨_,_,_,_,rfl⟩⟩
  unfold za2
  rw [decide_eq_true hw,hk,hh]
  rfl
 ·intro ks h1 h2
  refine ⟨rm.length,by have:=few ks h1 fun z hz=>(h2 z).mp hz;lia,hR.pos,fun z hz=>zbH hB hst z ((h2 z).mp hz),fun l' hp hu=>?_⟩
  rw [show l'=ziL bk st hs from zke (zbH hB hst) hu fun z=>(hp.mem_iff).trans (h2 z)]
  exact r
def ziM  : FV:=fun Pn ws n R=>∃ (rm:List Int) (bk:List Wi) (st hs:List Int) (v:W),ws=[.d (stD rm),.d (ue bk),.d (stD st),v]/\(v = .d (stD hs)\/(hs=[]/\v = .d .non))/\(RoomOk rm)/\(u4 rm bk)/\(st.length=rm.length)/\(R (.d (uA (ziL bk st hs))) n)
theorem ziM.i  {Pn:Option zr} {n:Nat} {R:W->Nat->Prop} {rm:List Int} {bk:List Wi} {st hs:List Int} {v:W} (hv:v = .d (stD hs)\/(hs=[]/\v = .d .non)) (hR:RoomOk rm) (hB:u4 rm bk) (hst:st.length=rm.length) (h:R (.d (uA (ziL bk st hs))) n)  : ziM Pn [.d (stD rm),.d (ue bk),.d (stD st),v] n R:=⟨rm,bk,st,hs,v,rfl,hv,hR,hB,hst,h⟩
theorem zck (T:Txt K mg t):FnOk P w K mg base CX0 2 t.f5 t.d5 ["room","book","standing","held"] (spV 4 true ziM):=by
 have G3:=zeX (P:=P) (w:=w) (base:=base) T
 have G4:=zhU (P:=P) (w:=w) (base:=base) T
 refine FunD.okW (k:=1) (fr:=true) [] 1 T.q5.F zaP rfl (by decide) rfl fun b A outer s H E Pn hr=>⟨_,(zd (wS zu <| zA (i:=4) zaP.nd rfl (Or.inr rfl) (wE zkJ <| j_if (wT zl <| zoq (kb 3)) (yJ ze) (kv 3)))
   (zh (zD (zjq T.b_sorted (zg9 hr) (N:=["given","box","better","worse","standing","left_alone"]) (cix:=[none,none,none,none,some 2,some 4]) rfl ⟨rfl,by decide +kernel,rfl⟩ (wI xx <| uI K rfl (kv 1)) (fun _ _ _ _=>(wG zad <| zae (n:=4) K rfl rfl (wH ye <| zy (wG zJ <| zk (i:=0) (show (["given","box","better","worse","standing","left_alone"]:List Str).Nodup by decide +kernel) rfl (Or.inl rfl)) (wH ye <| zy (wG zJ <| zk (i:=1) (show (["given","box","better","worse","standing","left_alone"]:List Str).Nodup by decide +kernel) rfl (Or.inl rfl)) (wH ye <| zy (wG zJ <| zk (i:=2) (show (["given","box","better","worse","standing","left_alone"]:List Str).Nodup by decide +kernel) rfl (Or.inl rfl)) (wH ye <| zy (wG zJ <| zk (i:=3) (show (["given","box","better","worse","standing","left_alone"]:List Str).Nodup by decide +kernel) rfl (Or.inl rfl)) (wH zac xO))))))) (fun _ _ _ _=>(xP (JW.t (wW xQ <| zaf (wT zl <| zC zau zfb (JE.bo (ui yo xA (kb 4) (kb 1) (fun _ _=>rfl))) (kb 3) (zx _)) (wW xQ <| zaf (wT zl <| zC zbi zfL (kb 1) (kb 5) (by with_unfolding_all rfl)) (uJ (.inl rfl) (wT zl <| zaD (JE.bo (wE zm <| yz T.q4 G4 hr (za (kv 4) (za (kv 0) ze))))))))))) (fun _ _ _ _=>(wE zm <| yz T.q3 G3 hr (za (kv 4) (za (kv 1) (za (kv 2) ze))))))))),fun ws n R hF=>?_⟩
 obtain ⟨rm,bk,st,hs,v,rfl,hv,hR,hB,a,r⟩:=hF
 walk_at "st"
 rcases hv with rfl | ⟨rfl,rfl⟩
 ·walk_at "st"
  exact zfl hR hB a r
 ·walk_at "st"
  exact zfl hR hB a r
theorem zd5 (T:Txt K mg t):FnOk P w K mg base CX0 1 t.f2 t.d2 ["choices"] (spV 1 true zcm):=FnOk.lift (FnOk.mono (zeW T) (by decide)) zc7
def zaw  : FV:=fun Pn ws n R=>∃ (rm:List Int) (g:List (Int×Int)),ws=[.d (stD rm),.d (zcW g)]/\(RoomOk rm)/\(Giv rm g)/\(R (.d (uA (zbO rm g))) n)
theorem zaw.i  {Pn:Option zr} {n:Nat} {R:W->Nat->Prop} {rm:List Int} {g:List (Int×Int)} (hR:RoomOk rm) (hG:Giv rm g) (h:R (.d (uA (zbO rm g))) n)  : zaw Pn [.d (stD rm),.d (zcW g)] n R:=⟨rm,g,rfl,hR,hG,h⟩
theorem zeY (T:Txt K mg t):FnOk P w K mg base CX0 2 t.f6 t.d6 ["room","given"] (spV 2 true zaw):=by
 have G2:=zd5 (P:=P) (w:=w) (base:=base) T
 refine Fun.okW (k:=1) (fr:=true) [] 1 T.q6.F zcD rfl (by decide) rfl fun u A outer s H E Pn hr=>⟨_,(zd (wS zu <| zA (i:=2) zcD.nd rfl (Or.inr rfl) (yf (ziY rfl) znq (by rfl) T.b_dict PyProof.Rows.boot_dict (zg (kb 1) zj)))
   (zh (zD (wE zm <| yz T.q2 G2 hr (za (y4 (N:=["box","worths","fixed"]) (cix:=[none,none,some 2]) rfl ⟨rfl,by decide +kernel,rfl⟩ (wI zl2 <| zlN rfl T.b_enumerate (za (kv 0) ze)) (fun _ _ _ _=>(wG zad <| zae (n:=2) K rfl rfl (wH ye <| zy (wG zJ <| zk (i:=0) (show (["box","worths","fixed"]:List Str).Nodup by decide +kernel) rfl (Or.inl rfl)) (wH ye <| zy (wG zJ <| zk (i:=1) (show (["box","worths","fixed"]:List Str).Nodup by decide +kernel) rfl (Or.inl rfl)) (wH zac xO))))) (fun _ _ _ _=>xg) (fun _ _ _ _=>(wE zkJ <| j_if (wT zjE <| zop (zg9 hr) (kb 0) (kb 2)) (uG (za (wE zjy <| zon (zg9 hr) (kb 2) (kb 0) (fun _ _=>rfl)) ze)) (wE zar <| zbM T.b_list T.b_range (zg (kb 1) zj))))) ze))))),fun ws n R hF=>?_⟩
 obtain ⟨rm,g,rfl,hR,hG,r⟩:=hF
 walk_at "st"
 have m:g.map u9=(g.map fun q=>(q.1,Dt.int q.2)).map prD:=by rw [List.map_map];rfl
 have p:=zcX hG hR.few
 have o:(g.map (·.1)).Nodup:=List.Pairwise.map (fun q:Int×Int=>q.1) (fun a b h e=>by lia) hG.up
 refine ⟨g.map fun q=>(q.1,Dt.int q.2),m,?_,by rw [List.length_map];lia,?_⟩
 ·rw [List.map_map]
  exact o
 generalize hkv:List.map kvD (List.map (fun q:Int×Int=>(q.1,Dt.int q.2)) g)=kvs
 have f:∀ i:Nat,uB kvs (Sum.inl (i:Int))=(gw g i).map Dt.int:=fun i=>by
  rw [<- hkv]
  exact zlX g i
 walk_at "st"
 refine zbd (List.range rm.length) (fun i=>W.d (.tup [.int (i:Int),.int (rm.getD i 0)])) (zlo rm) (fun ρ=>∃ a b,ρ=[a,b,some (.dk kvs)]) (fun i=>lsD (cho rm g i)) (Nat.le_trans (by rw [List.length_range];exact hR.few) (by decide)) ⟨_,_,rfl⟩ ?_ ?_
 ·rintro i hi ρ' ⟨a,b,rfl⟩ C hC
  have j:=List.mem_range.mp hi
  have hb:=hR.box _ (List.getElem_mem j)
  have e:rm.getD i 0=rm[i]:=by simp [j]
  have l:C [some (.d (.int (i:Int))),some (.d (.int (rm.getD i 0))),some (.dk kvs)] n (lsD (cho rm g i)):=hC ⟨_,_,rfl⟩
  unfold cho at l
  walk_at "st"
  cases hg:gw g i with
  | some v=>
   rw [hg] at l
   have hl:=f i
   rw [hg] at hl
   refine zoJ (by rw [hl];rfl) ?_
   walk_at "st"
   exact zbq hl l
  | none=>
   rw [hg] at l
   have hl:=f i
   rw [hg] at hl
   refine zoI (by rw [hl];rfl) ?_
   walk_at "st"
   refine ⟨⟨by lia,by lia⟩,?_⟩
   have e2:lsD (zE (rm.getD i 0))=Dt.lst (zim (rm.getD i 0).toNat):=by unfold lsD zE zim;rw [List.map_map];rfl
   rw [<- e2]
   exact l
 ·walk_at "st"
  refine ⟨chs rm g,by unfold chs;rw [List.map_map];rfl,by unfold chs;rw [List.length_map,List.length_range];exact hR.few,fun c hc=>?_,r⟩
  obtain ⟨i,hi,rfl⟩:=List.mem_map.mp hc
  have j:=List.mem_range.mp hi
  have hb:=hR.box _ (List.getElem_mem j)
  have e:rm.getD i 0=rm[i]:=by simp [j]
  unfold cho
  cases gw g i with
  | some v=>simp
  | none=>rw [uZ];lia
def zaX  : FV:=fun Pn ws n R=>∃ (rm:List Int) (bk:List Wi) (g:List (Int×Int)),ws=[.d (stD rm),.d (ue bk),.d (zcW g)]/\(RoomOk rm)/\(u4 rm bk)/\(Giv rm g)/\(R (.d (uA (zdE rm bk g))) n)
theorem zaX.i  {Pn:Option zr} {n:Nat} {R:W->Nat->Prop} {rm:List Int} {bk:List Wi} {g:List (Int×Int)} (hR:RoomOk rm) (hB:u4 rm bk) (hG:Giv rm g) (h:R (.d (uA (zdE rm bk g))) n)  : zaX Pn [.d (stD rm),.d (ue bk),.d (zcW g)] n R:=⟨rm,bk,g,rfl,hR,hB,hG,h⟩
theorem zhT (T:Txt K mg t):FnOk P w K mg base CX0 3 t.f7 t.d7 ["room","book","given"] (spV 3 true zaX):=by
 have G6:=zeY (P:=P) (w:=w) (base:=base) T
 have G5:=zck (P:=P) (w:=w) (base:=base) T
 refine Fun.okW (k:=2) (fr:=true) [] 1 T.q7.F zfI rfl (by decide) rfl fun j A outer s H E Pn hr=>⟨_,(zd (wS zu <| zA (i:=3) zfI.nd rfl (Or.inr rfl) (yf zM xU (by rfl) T.b_tuple PyProof.Rows.boot_tuple (zg (JE.bo (y4 (N:=["box","worth"]) (cix:=[none,none]) rfl ⟨rfl,by decide +kernel,rfl⟩ (wI xx <| uI K rfl (kv 2)) (fun _ _ _ _=>(wG zad <| zae (n:=2) K rfl rfl (wH ye <| zy (wG zJ <| zk (i:=0) (show (["box","worth"]:List Str).Nodup by decide +kernel) rfl (Or.inl rfl)) (wH ye <| zy (wG zJ <| zk (i:=1) (show (["box","worth"]:List Str).Nodup by decide +kernel) rfl (Or.inl rfl)) (wH zac xO))))) (fun _ _ _ _=>xg) (fun _ _ _ _=>(kv 0)))) zj)))
   (zh (zD (y4 (N:=["standing","room","book","held"]) (cix:=[none,some 0,some 1,some 3]) rfl ⟨rfl,by decide +kernel,rfl⟩ (wI uL <| uH K rfl (wE zm <| yz T.q6 G6 hr (za (kv 0) (za (kv 2) ze)))) (fun _ _ _ _=>(wG zJ <| zk (i:=0) (show (["standing","room","book","held"]:List Str).Nodup by decide +kernel) rfl (Or.inl rfl))) (fun _ _ _ _=>(xP (wT zas <| zbN (wT zmb <| zjs (JE.bo (wE zm <| zrd T.q5 G5 hr (za (kv 1) (za (kv 2) (za (kv 0) (za (kv 3) ze)))))))))) (fun _ _ _ _=>(kv 0)))))),fun ws n R hF=>?_⟩
 obtain ⟨rm,bk,g,rfl,hR,hB,hG,r⟩:=hF
 walk_at "st"
 have c:=zcX hG hR.few
 refine zbd g (fun q=>.d (u9 q)) (by rw [List.map_map];rfl) (fun ρ=>∃ a b,ρ=[a,b]) (fun q=>.int q.1) (Nat.le_trans c (by decide)) ⟨_,_,rfl⟩ ?_ ?_
 ·rintro q hq ρ' ⟨a,b,rfl⟩ C hC
  exact hC ⟨_,_,rfl⟩
 ·walk_at "st"
  refine zaw.i hR hG ?_
  walk_at "st"
  have hlen:=zbP hG
  refine zam (zbO rm g) (fun st=>.d (stD st)) (by rw [List.map_map];rfl) (fun ρ=>∃ v,ρ=[v,some (.d (stD rm)),some (.d (ue bk)),some (.d (.tup (g.map fun q=>Dt.int q.1)))]) (fun st=>decide (xa bk st (g.map (·.1))=[])) stD (Nat.le_trans (zaE hR) (by decide)) ⟨_,rfl⟩ ?_ ?_
  ·rintro st f ρ' ⟨v,rfl⟩ C hY hN
   walk_at "st"
   refine ziM.i (hs:=g.map (·.1)) (.inl (by unfold stD;rw [List.map_map];rfl)) hR hB (hlen st f) ?_
   walk_at "st"
   have e2:((ziL bk st (g.map (·.1))).map stD).isEmpty=decide (xa bk st (g.map (·.1))=[]):=by
    by_cases hg:xa bk st (g.map (·.1))=[]
    ·have e:=zfk.mpr hg
     rw [decide_eq_true hg]
     rw [show ziL bk st (g.map (·.1))=[] from List.isEmpty_iff.mp (by simpa using e)]
     rfl
    ·rw [decide_eq_false hg]
     cases hb:ziL bk st (g.map (·.1)) with
     | nil=>exact absurd (zfk.mp (by simp [hb])) hg
     | cons _ _=>rfl
   rw [e2]
   exact zhX (fun h=>hN h ⟨_,rfl⟩) (fun h=>hY h ⟨_,rfl⟩)
  ·exact r
def zbc  : FV:=fun Pn ws n R=>∃ (ns:List Int) (x:Dt),ws=[.d x]/\(x=stD ns\/x=lsD ns)/\(∀ m∈ns,2<=m/\m<=4)/\(R (.d (.int (yb ns))) n)
theorem zbc.i  {Pn:Option zr} {n:Nat} {R:W->Nat->Prop} {ns:List Int} {x:Dt} (hw:x=stD ns\/x=lsD ns) (hb:∀ m∈ns,2<=m/\m<=4) (h:R (.d (.int (yb ns))) n)  : zbc Pn [.d x] n R:=⟨ns,x,rfl,hw,hb,h⟩
theorem uk (T:Txt K mg t):FnOk P w K mg base CX0 1 t.f8 t.d8 ["_law_room_here"] (spV 1 false zbc):=by
 refine Fun.okW (k:=0) (fr:=false) [] 2 T.q8.F xJ rfl (by decide) rfl fun b A outer s H E Pn hr=>⟨_,(zd (wS zu <| zA (i:=1) xJ.nd rfl (Or.inl rfl) zi)
   (zd (x3 PassesOwn.never rfl (wI zhH <| zkD K rfl (kv 0)) (wG zJ <| zk (i:=2) xJ.nd rfl (Or.inl rfl)) (zh (wS zu <| zA (i:=1) xJ.nd rfl (Or.inl rfl) (x2 uy zki (kb 1) (kb 2)))))
   (zh (zD (kv 1))))),fun ws n R hF=>?_⟩
 obtain ⟨ns,x,rfl,hw,hb,r⟩:=hF
 walk_at "st"
 refine' zoD _ (fun key=>?_) ?_
 rotate_left
 ·rcases hw with rfl | rfl
  ·walk_at "st"
   generalize W.d (stD ns)=x
   exact key x
  ·walk_at "st"
   generalize W.d (lsD ns)=x
   exact key x
 ·intro x
  refine xD ns (fun i=>.d (.int i)) (by rw [List.map_map];rfl) (fun i ρ m=>m=n/\∃ v,ρ=[some x,some (.d (.int (yb (ns.take i)))),v]) ⟨rfl,none,rfl⟩ ?_ ?_
  ·rintro i a ρ m ha ⟨rfl,v,rfl⟩ C B E hC _ _
   have hm:=hb a (List.mem_of_getElem? ha)
   walk_at "st"
   refine ⟨.inr ⟨by lia,by lia⟩,hC ⟨rfl,some (.d (.int a)),?_⟩⟩
   rw [zn ha,xm]
  ·rintro ρ m ⟨rfl,v,rfl⟩
   rw [List.take_length]
   walk_at "st"
   exact r
def zdA  : FV:=fun Pn ws n R=>∃ (ns:List Int) (x:Dt),ws=[.d x]/\(x=stD ns\/x=lsD ns)/\(∀ m∈ns,2<=m/\m<=4)/\(ns.length<=8)/\(R (.d (uA (ud (ns.map zE)))) n)
theorem zdA.i  {Pn:Option zr} {n:Nat} {R:W->Nat->Prop} {ns:List Int} {x:Dt} (hw:x=stD ns\/x=lsD ns) (hb:∀ m∈ns,2<=m/\m<=4) (h8:ns.length<=8) (h:R (.d (uA (ud (ns.map zE)))) n)  : zdA Pn [.d x] n R:=⟨ns,x,rfl,hw,hb,h8,h⟩
theorem zbf (T:Txt K mg t):FnOk P w K mg base CX0 1 t.f9 t.d9 ["_law_room_here"] (spV 1 false zdA):=by
 refine Fun.okW (k:=0) (fr:=false) [] 2 T.q9.F uo rfl (by decide) rfl fun j A outer s H E Pn hr=>⟨_,(zd (wS zu <| zA (i:=1) uo.nd rfl (Or.inr rfl) (uG (za (yJ ze) ze)))
   (zd (x3 PassesOwn.never rfl (wI zhH <| zkD K rfl (kv 0)) (wG zJ <| zk (i:=2) uo.nd rfl (Or.inr rfl)) (zh (wS zu <| zA (i:=1) uo.nd rfl (Or.inr rfl) (y4 (N:=["_law_k","_law_found","_law_worths"]) (cix:=[none,some 1,some 2]) rfl ⟨rfl,by decide +kernel,rfl⟩ (wI yS <| zX rfl T.b_range (zg (JE.bo (x2 uy zki (JE.bo (zW yv uC (by rfl) T.b_len PySem.boot_len (zg (kb 1) zj))) (kb 2))) zj)) (fun _ _ _ _=>(wG zJ <| zk (i:=0) (show (["_law_k","_law_found","_law_worths"]:List Str).Nodup by decide +kernel) rfl (Or.inl rfl))) (fun _ _ _ _=>xg) (fun _ _ _ _=>(x2 xy zak (JE.bo (ui yn zaa (kb 1) (JE.bo (x2 zbY zk7 (kb 0) (kb 2))) (fun _ _=>rfl))) (JE.bo (yJ (za (x2 uO znt (kb 0) (kb 2)) ze)))))))))
   (zh (zD (kv 1))))),fun ws n R hF=>?_⟩
 obtain ⟨ns,x,rfl,hw,hb,h8,r⟩:=hF
 walk_at "st"
 refine' zoD _ (fun key=>?_) ?_
 rotate_left
 ·rcases hw with rfl | rfl
  ·walk_at "st"
   generalize W.d (stD ns)=x
   exact key x
  ·walk_at "st"
   generalize W.d (lsD ns)=x
   exact key x
 ·intro x
  refine xD ns (fun i=>.d (.int i)) (by rw [List.map_map];rfl) (fun i ρ m=>m=n/\∃ v,ρ=[some x,some (.d (uA (ud ((ns.take i).map zE)))),v]) ⟨rfl,none,rfl⟩ ?_ ?_
  ·rintro i a ρ m ha ⟨rfl,v,rfl⟩ C B E hC _ _
   have hm:=hb a (List.mem_of_getElem? ha)
   obtain ⟨w,rfl⟩:∃ w:Nat,a=(w:Int):=⟨a.toNat,by lia⟩
   have b:=zfi h8 hb i
   have c:∀ st∈ud ((ns.take i).map zE),st.length<=8:=fun st g=>by rw [zax _ _ g,List.length_map,List.length_take];lia
   have f:(List.range ((ud ((ns.take i).map zE)).length * w)).map (fun k=>(ud ((ns.take i).map zE)).getD (k / w) []++[((k % w:Nat):Int)])=ud ((ns.take (i+1)).map zE):=by
    rw [zn ha,List.map_append,List.map_cons,List.map_nil,yK,zfq _ (by lia)]
   generalize ud ((ns.take i).map zE)=rows at b f c
   have h:rows.length * w<=262144:=Nat.mul_le_mul b (by lia:w<=4)
   walk_at "st"
   have e:(((rows.map stD).length:Nat):Int) * (w:Int)=((rows.length * w:Nat):Int):=by rw [List.length_map,Int.natCast_mul]
   refine ⟨.inr ⟨by lia,by lia⟩,?_⟩
   walk_at "st"
   rw [e]
   refine ⟨⟨by lia,by lia⟩,?_⟩
   rw [Int.toNat_natCast,xH]
   refine zbd (List.range (rows.length * w)) (fun k:Nat=>W.d (.int (k:Int))) rfl (fun ρ=>∃ v,ρ=[v,some (.d (uA rows)),some (.d (.int (w:Int)))]) (fun k=>stD (rows.getD (k / w) []++[((k % w:Nat):Int)])) (by rw [List.length_range];exact Nat.le_trans h (by decide)) ⟨_,rfl⟩ ?_ ?_
   ·rintro k hk ρ' ⟨v,rfl⟩ C hC
    have l:=List.mem_range.mp hk
    have hd:k / w<rows.length:=Nat.div_lt_of_lt_mul (by rwa [Nat.mul_comm])
    have e1:(k:Int) / (w:Int)=((k / w:Nat):Int):=by lia
    have e2:(k:Int) % (w:Int)=((k % w:Nat):Int):=by lia
    walk_at "st"
    refine ⟨⟨by lia,by lia⟩,?_⟩
    walk_at "st"
    rw [e1]
    refine zbq (zcq hd) ?_
    walk_at "st"
    refine ⟨by lia,?_⟩
    walk_at "st"
    refine ⟨zqp (Nat.le_trans (c _ (x0 hd)) (by decide)),?_⟩
    rw [znU,e2]
    exact hC ⟨_,rfl⟩
   ·rw [show (List.range (rows.length * w)).map (fun k=>stD (rows.getD (k / w) []++[((k % w:Nat):Int)]))=((List.range (rows.length * w)).map fun k=>rows.getD (k / w) []++[((k % w:Nat):Int)]).map stD by rw [List.map_map];rfl,f]
    walk_at "st"
    exact hC ⟨rfl,_,rfl⟩
  ·rintro ρ m ⟨rfl,v,rfl⟩
   rw [List.take_length]
   walk_at "st"
   exact r
def zfe (K:PySem.W.Frag):FV:=fun Pn ws n R=>∃ (p:Addr) (most:Int),ws=[.pen p,.d (.int most)]/\(xM K Pn p)/\(n+30<=1000000)/\(most=256\/most=64)/\(∀ rm m,RoomOk rm->yb rm<=256->m<=n+20->R (.d (stD rm)) m)
theorem zfe.i {K:PySem.W.Frag}{Pn:Option zr}{n:Nat}{R:W->Nat->Prop}{p:Addr}{most:Int}(hP:xM K Pn p)(hm:most=256\/most=64)(h:∀ rm m,RoomOk rm->yb rm<=256->m<=n+20->R (.d (stD rm)) m)(hn:n+30<=1000000:=by lia):zfe K Pn [.pen p,.d (.int most)] n R:=⟨p,most,rfl,hP,hn,hm,h⟩
theorem zdg (T:Txt K mg t):FnOk P w K mg base CX0 2 t.f10 t.d10 ["_law_pen_here","_law_most"] (spV 2 false (zfe K)):=by
 have G1:=zB (P:=P) (w:=w) (base:=base) T
 have G8:=uk (P:=P) (w:=w) (base:=base) T
 refine Fun.okW (k:=1) (fr:=false) [] 4 T.q10.F yk rfl (by decide) rfl fun f A outer s H E Pn hr=>⟨_,(zd (wS zH <| xf (wT zl <| zC zau zfb (kb 1) (JE.bo zi) (zx _)) (zh (zD (ui yn zaa (JE.bo (uG (za (yJ (za zi (za zi (za zi (za zi ze))))) (za (yJ (za zi (za zi (za zi (za zi (za zi (za zi (za zi (za zi ze))))))))) (za (yJ (za zi (za zi (za zi (za zi (za zi ze)))))) (za (yJ (za zi (za zi (za zi (za zi (za zi ze)))))) ze)))))) (JE.bo (wE zm <| yz T.q1 G1 hr (za (kv 0) (za zi ze)))) (fun _ _=>rfl)))) zG)
   (zd (wS zu <| zA (i:=2) yk.nd rfl (Or.inl rfl) (uG (za (yJ (za zi ze)) (za (yJ (za zi (za zi ze))) (za (yJ (za zi (za zi (za zi (za zi ze))))) (za (yJ (za zi (za zi ze))) (za (yJ (za zi (za zi (za zi (za zi (za zi (za zi ze))))))) (za (yJ (za zi (za zi (za zi ze)))) (za (yJ (za zi (za zi (za zi (za zi ze))))) ze)))))))))
   (zd (wS zu <| zA (i:=3) yk.nd rfl (Or.inl rfl) (ui yn zaa (kb 2) (JE.bo (wE zm <| yz T.q1 G1 hr (za (kv 0) (za zi ze)))) (fun _ _=>rfl)))
   (zd (wS zH <| xf (JW.t (wW xQ <| zaf (wT zl <| zC zjJ zqG (JE.bo (wE zm <| yz T.q8 G8 hr (za (kv 3) ze))) (kb 1) (zx _)) (uJ (.inl rfl) (wT zl <| zC zau zfb (JE.bo (wE zm <| yz T.q1 G1 hr (za (kv 0) (za zi ze)))) (JE.bo zi) (zx _))))) (zh (zD (kv 3))) zG)
   (zd (wS zu <| zA (i:=3) yk.nd rfl (Or.inl rfl) (yJ ze))
   (zd (x3 PassesOwn.never rfl (wI yS <| zX rfl T.b_range (zg (JE.bo (x2 yj uT (JE.bo zi) (JE.bo (wE zm <| yz T.q1 G1 hr (za (kv 0) (za zi ze)))))) zj)) (wG zJ <| zk (i:=4) yk.nd rfl (Or.inl rfl)) (zd (wS zu <| zA (i:=5) yk.nd rfl (Or.inl rfl) (x2 yj uT (JE.bo zi) (JE.bo (wE zm <| yz T.q1 G1 hr (za (kv 0) (za zi ze))))))
   (zh (wS zH <| xf (wT zl <| zC zjJ zqG (JE.bo (x2 uy zki (JE.bo (wE zm <| yz T.q8 G8 hr (za (kv 3) ze))) (kb 5))) (kb 1) (zx _)) (zh (wS zu <| zA (i:=3) yk.nd rfl (Or.inl rfl) (x2 xy zak (kb 3) (JE.bo (yJ (za (kv 5) ze)))))) zG))))
   (zh (zD (kv 3))))))))),fun ws n R hF=>?_⟩
 obtain ⟨p,most,rfl,hP,hn,hm,r⟩:=hF
 walk_at "st"
 rcases hm with rfl | rfl
 ·walk_at "ct"
  refine dr hP fun a a0 a1=>?_
  walk_at "st"
  refine zhW a0 a1 fun x hx=>?_
  obtain ⟨rm,rfl,hR,hp⟩:∃ rm,x=stD rm/\RoomOk rm/\yb rm<=256:=by
   simp only [List.mem_cons,List.not_mem_nil,or_false] at hx
   rcases hx with rfl | rfl | rfl | rfl
   ·exact yM [4,4,4,4] rfl (by decide)
   ·exact yM [2,2,2,2,2,2,2,2] rfl (by decide)
   ·exact yM [3,3,3,3,3] rfl (by decide)
   ·exact yM [4,4,4,2,2] rfl (by decide)
  exact r rm _ hR hp (by lia)
 ·walk_at "cf"
  refine dr hP fun a a0 a1=>?_
  walk_at "st"
  refine zhW a0 a1 fun x hx=>?_
  obtain ⟨rm,rfl,hR,hp⟩:∃ rm,x=stD rm/\RoomOk rm/\yb rm<=256:=by
   simp only [List.mem_cons,List.not_mem_nil,or_false] at hx
   rcases hx with rfl | rfl | rfl | rfl | rfl | rfl | rfl
   ·exact yM [2] rfl (by decide)
   ·exact yM [4,2] rfl (by decide)
   ·exact yM [2,2,2,2] rfl (by decide)
   ·exact yM [4,4] rfl (by decide)
   ·exact yM [2,2,2,2,2,2] rfl (by decide)
   ·exact yM [4,4,4] rfl (by decide)
   ·exact yM [3,2,4,2] rfl (by decide)
  walk_at "st"
  refine zbc.i (.inl rfl) hR.box ?_
  walk_at "st"
  refine' zoC (n+2) _ (fun z6=>?_) ?_
  rotate_left
  ·refine xS (fun _=>?_) (fun _=>?_)
   ·walk_at "st"
    refine dr hP fun b b0 b1=>?_
    walk_at "st"
    refine xS (fun _=>?_) (fun _=>?_)
    ·walk_at "st"
     exact r rm _ hR hp (by lia)
    ·walk_at "st"
     generalize c:n+1+1=n1
     exact z6 n1 (by lia)
   ·walk_at "st"
    generalize c:n+1=n1
    exact z6 n1 (by lia)
  ·intro n1 c
   walk_at "st"
   refine dr hP fun t t0 t1=>?_
   walk_at "st"
   refine ⟨⟨by lia,by lia⟩,zdQ (fun i ρ m=>m<=n1+1+i/\∃ rm v2 v4 v5,ρ=[some (.pen p),some (.d (.int 64)),v2,some (.d (stD rm)),v4,v5]/\(∀ r∈rm,2<=r/\r<=4)/\yb rm<=64/\(1<=i->rm≠[])) ⟨by lia,[],_,_,_,rfl,by simp,by decide,by lia⟩ ?_ ?_⟩
   ·rintro i ρ m hi ⟨hm,rm,v2,v4,v5,rfl,hb,hp,e⟩ C B E hC _ _
    walk_at "st"
    refine dr hP fun w w0 w1=>?_
    have h8:=zbk hb (by lia)
    walk_at "st"
    refine zbc.i (.inl rfl) hb ?_
    walk_at "st"
    refine ⟨.inr ⟨by lia,by lia⟩,?_⟩
    walk_at "st"
    refine xS (fun hc=>?_) (fun hc=>?_)
    ·walk_at "st"
     refine ⟨zqp (by lia),?_⟩
     rw [znU]
     refine hC ⟨by lia,rm++[2+w],_,_,_,rfl,fun r hr=>?_,by rw [xm];exact hc,fun _=>by simp⟩
     rcases List.mem_append.mp hr with z | z
     ·exact hb r z
     ·rw [List.mem_singleton.mp z];lia
    ·walk_at "st"
     refine hC ⟨by lia,rm,_,_,_,rfl,hb,hp,fun _ z=>hc ?_⟩
     subst z
     show 1 * (2+w)<=64
     lia
   ·rintro ρ m ⟨hm,rm,v2,v4,v5,rfl,hb,hp,e⟩
    walk_at "st"
    exact r rm m ⟨e (by lia),zbk hb (by lia),hb⟩ (by lia) (by lia)
def zff (K:PySem.W.Frag):FV:=fun Pn ws n R=>∃ (p:Addr) (rm:List Int),ws=[.pen p,.d (stD rm)]/\(xM K Pn p)/\(n+20<=1000000)/\(RoomOk rm)/\(∀ st m,StOk rm st->m<=n+8->R (.d (stD st)) m)
theorem zff.i {K:PySem.W.Frag}{Pn:Option zr}{n:Nat}{R:W->Nat->Prop}{p:Addr}{rm:List Int}(hP:xM K Pn p)(hR:RoomOk rm)(h:∀ st m,StOk rm st->m<=n+8->R (.d (stD st)) m)(hn:n+20<=1000000:=by lia):zff K Pn [.pen p,.d (stD rm)] n R:=⟨p,rm,rfl,hP,hn,hR,h⟩
theorem za6 (T:Txt K mg t):FnOk P w K mg base CX0 2 t.f11 t.d11 ["_law_pen_here","_law_room_here"] (spV 2 false (zff K)):=by
 have G1:=zB (P:=P) (w:=w) (base:=base) T
 refine Fun.okW (k:=1) (fr:=false) [] 0 T.q11.F zbr rfl (by decide) rfl fun e A outer s H E Pn hr=>⟨_,(zh (zD (yf zM xU (by rfl) T.b_tuple PyProof.Rows.boot_tuple (zg (JE.bo (y4 (N:=["_law_worths","_law_pen_here"]) (cix:=[none,some 0]) rfl ⟨rfl,by decide +kernel,rfl⟩ (wI xx <| uI K rfl (kv 1)) (fun _ _ _ _=>(wG zJ <| zk (i:=0) (show (["_law_worths","_law_pen_here"]:List Str).Nodup by decide +kernel) rfl (Or.inl rfl))) (fun _ _ _ _=>xg) (fun _ _ _ _=>(wE zm <| yz T.q1 G1 hr (za (kv 1) (za (kv 0) ze)))))) zj)))),fun ws n R hF=>?_⟩
 obtain ⟨p,rm,rfl,hP,hn,hR,r⟩:=hF
 walk_at "st"
 have h8:=hR.few
 refine zfo rm (fun i=>.d (.int i)) (by rw [List.map_map];rfl) (Nat.le_trans h8 (by decide)) (fun i ρ' n' acc=>n'=n+i/\i<=rm.length/\∃ (v:Option W) (st:List Int),ρ'=[v,some (.pen p)]/\acc=st.map Dt.int/\StOk (rm.take i) st) ⟨rfl,Nat.zero_le _,none,[],rfl,rfl,rfl,fun b b0 b1=>absurd b1 (by simp;lia)⟩ ?_ ?_
 ·rintro i a ρ' n' acc ha ⟨rfl,hi,v,st,rfl,rfl,hS⟩ C hC
  have hm:=hR.box a (List.mem_of_getElem? ha)
  have c:=(List.getElem?_eq_some_iff.mp ha).1
  walk_at "st"
  refine dr hP fun t t0 t1=>?_
  walk_at "st"
  rw [znU]
  refine hC ⟨rfl,c,_,st++[t],rfl,rfl,?_⟩
  rw [zn ha]
  exact hS.snoc t0 t1
 ·rintro ρ' n' acc ⟨rfl,hi,v,st,rfl,rfl,hS⟩
  rw [List.take_length] at hS
  exact r st _ hS (by lia)
def zco (K:PySem.W.Frag):FV:=fun Pn ws n R=>∃ (p:Addr) (rm:List Int) (box:Int),ws=[.pen p,.d (stD rm),.d (.int box)]/\(xM K Pn p)/\(n+40<=1000000)/\(RoomOk rm)/\(∀ g m,Giv rm g->(∀ q∈g,q.1≠box)->m<=n+20->R (.d (zcW g)) m)
theorem zco.i {K:PySem.W.Frag}{Pn:Option zr}{n:Nat}{R:W->Nat->Prop}{p:Addr}{rm:List Int}{box:Int}(hP:xM K Pn p)(hR:RoomOk rm)(h:∀ g m,Giv rm g->(∀ q∈g,q.1≠box)->m<=n+20->R (.d (zcW g)) m)(hn:n+40<=1000000:=by lia):zco K Pn [.pen p,.d (stD rm),.d (.int box)] n R:=⟨p,rm,box,rfl,hP,hn,hR,h⟩
theorem zcf (T:Txt K mg t):FnOk P w K mg base CX0 2 t.f12 t.d12 ["_law_pen_here","_law_room_here","_law_box"] (spV 3 false (zco K)):=by
 have G1:=zB (P:=P) (w:=w) (base:=base) T
 refine Fun.okW (k:=1) (fr:=false) [4] 3 T.q12.F xk rfl (by decide) rfl fun j A outer s H E Pn hr=>⟨_,(zd (wS zu <| zA (i:=3) xk.nd rfl (Or.inl rfl) (x2 yj uT (JE.bo zi) (JE.bo (wE zm <| yz T.q1 G1 hr (za (kv 0) (za zi ze))))))
   (zd (wS xR <| zbe (i:=4) xk.nd rfl (Or.inl rfl) (uG ze))
   (zd (x3 PassesOwn.never rfl (wI yS <| zX rfl T.b_range (zg (JE.bo (zW yv uC (by rfl) T.b_len PySem.boot_len (zg (kb 1) zj))) zj)) (wG zJ <| zk (i:=5) xk.nd rfl (Or.inl rfl)) (zh (wS zH <| xf (JW.t (wW xQ <| zaf (wT zl <| zC zau zfb (JE.bo (wE zm <| yz T.q1 G1 hr (za (kv 0) (za (x2 yj uT (JE.bo zi) (kb 3)) ze)))) (JE.bo zi) (zx _)) (uJ (.inl rfl) (wT zl <| zC zeZ znu (kb 5) (kb 2) (zx _))))) (zh (wS zhB <| zkE 4 (yJ (za (kv 5) (za (wE zm <| yz T.q1 G1 hr (za (kv 0) (za (ui yo xA (kb 1) (kb 5) (fun _ _=>rfl)) ze))) ze))))) zG)))
   (zh (zD (yf zM xU (by rfl) T.b_tuple PyProof.Rows.boot_tuple (zg (kb 4) zj))))))),fun ws n R hF=>?_⟩
 obtain ⟨p,rm,box,rfl,hP,hn,hR,r⟩:=hF
 walk_at "st"
 have h8:=hR.few
 refine dr hP fun ra l o=>?_
 walk_at "st"
 rw [List.length_map]
 refine ⟨⟨by lia,by lia⟩,zdQ (fun i ρ m=>m<=n+1+2 * i/\i<=rm.length/\∃ g v5,ρ=[some (.pen p),some (.d (stD rm)),some (.d (.int box)),some (.d (.int (1+ra))),some (.d (.lst (g.map u9))),v5]/\Giv rm g/\(∀ q∈g,q.1≠box)/\(∀ q∈g,q.1<(i:Int))/\g.length<=i) ⟨by lia,Nat.zero_le _,[],_,rfl,⟨by simp,.nil⟩,by simp,by simp,Nat.zero_le _⟩ ?_ ?_⟩
 ·rintro i ρ m hi ⟨hm,f,g,v5,rfl,hG,a,c,h⟩ C B E hC _ _
  have v:=yN hR.box (b:=(i:Int)) (by lia) (by lia)
  walk_at "st"
  refine dr hP fun t t0 t1=>?_
  have e:∀ v5,C [some (.pen p),some (.d (stD rm)),some (.d (.int box)),some (.d (.int (1+ra))),some (.d (.lst (g.map u9))),v5] (m+1):=fun v5=>hC ⟨by lia,by lia,g,_,rfl,hG,a,fun q hq=>by have:=c q hq;lia,by lia⟩
  walk_at "st"
  refine xS (fun _=>?_) (fun _=>⟨e _⟩)
  walk_at "st"
  refine zf5 (fun hb=>?_) (fun _=>⟨e _⟩)
  walk_at "st"
  refine onA (by lia) (by lia) ?_
  walk_at "st"
  refine dr hP fun u u0 u1=>?_
  walk_at "st"
  refine ⟨by rw [List.length_map];exact Nat.lt_of_le_of_lt (by lia:_<=8) (by decide),hC ⟨by lia,by lia,g++[((i:Int),u)],_,by rw [List.map_append];rfl,hG.snoc c (by lia) (by lia) u0 u1,fun q hq=>?_,fun q hq=>?_,by rw [List.length_append];simp;lia⟩⟩
  ·rcases List.mem_append.mp hq with z | z
   ·exact a q z
   ·rw [List.mem_singleton.mp z];exact hb
  ·rcases List.mem_append.mp hq with z | z
   ·have:=c q z;lia
   ·rw [List.mem_singleton.mp z];show (i:Int)<((i+1:Nat):Int);lia
 ·rintro ρ m ⟨hm,f,g,v5,rfl,hG,a,c,h⟩
  walk_at "st"
  exact r g m hG a (by lia)
def zcp (K:PySem.W.Frag):FV:=fun Pn ws n R=>∃ (p:Addr) (rm:List Int) (way:Int),ws=[.pen p,.d (stD rm),.d (.int way)]/\(xM K Pn p)/\(n+60<=1000000)/\(RoomOk rm)/\(∀ x m,WishOk rm x->m<=n+30->R (.d (zaV x)) m)
theorem zcp.i {K:PySem.W.Frag}{Pn:Option zr}{n:Nat}{R:W->Nat->Prop}{p:Addr}{rm:List Int}{way:Int}(hP:xM K Pn p)(hR:RoomOk rm)(h:∀ x m,WishOk rm x->m<=n+30->R (.d (zaV x)) m)(hn:n+60<=1000000:=by lia):zcp K Pn [.pen p,.d (stD rm),.d (.int way)] n R:=⟨p,rm,way,rfl,hP,hn,hR,h⟩
theorem zaJ (T:Txt K mg t):FnOk P w K mg base CX0 3 t.f13 t.d13 ["_law_pen_here","_law_room_here","_law_way"] (spV 3 false (zcp K)):=by
 have G1:=zB (P:=P) (w:=w) (base:=base) T
 have G12:=zcf (P:=P) (w:=w) (base:=base) T
 refine Fun.okW (k:=2) (fr:=false) [] 3 T.q13.F y9 rfl (by decide) rfl fun c A outer s H E Pn hr=>⟨_,(zd (wS zu <| zA (i:=3) y9.nd rfl (Or.inl rfl) (wE zm <| yz T.q1 G1 hr (za (kv 0) (za (zW yv uC (by rfl) T.b_len PySem.boot_len (zg (kb 1) zj)) ze))))
   (zd (wS zu <| zA (i:=4) y9.nd rfl (Or.inl rfl) (wE zm <| yz T.q1 G1 hr (za (kv 0) (za (ui yo xA (kb 1) (kb 3) (fun _ _=>rfl)) ze))))
   (zd (wS zu <| zA (i:=5) y9.nd rfl (Or.inl rfl) (x2 uO znt (JE.bo (x2 yj uT (JE.bo (x2 yj uT (kb 4) (JE.bo zi))) (JE.bo (wE zm <| yz T.q1 G1 hr (za (kv 0) (za (x2 zh1 znx (JE.bo (ui yo xA (kb 1) (kb 3) (fun _ _=>rfl))) (JE.bo zi)) ze)))))) (JE.bo (ui yo xA (kb 1) (kb 3) (fun _ _=>rfl)))))
   (zd (wS zH <| xf (JW.t (wW xQ <| zaf (wT zl <| zC zau zfb (kb 2) (JE.bo zi) (zx _)) (uJ (.inl rfl) (wT zl <| zC zjK zr6 (kb 5) (kb 4) (zx _))))) (zh (wS zl7 <| zoo (i:=5) (j:=4) rfl y9.nd rfl rfl rfl rfl (za (kv 4) (za (kv 5) ze)))) zG)
   (zh (zD (yJ (za (wE zm <| yz T.q12 G12 hr (za (kv 0) (za (kv 1) (za (kv 3) ze)))) (za (kv 3) (za (kv 5) (za (kv 4) ze))))))))))),fun ws n R hF=>?_⟩
 obtain ⟨p,rm,way,rfl,hP,hn,hR,r⟩:=hF
 walk_at "st"
 have h8:=hR.few
 have b:=hR.pos
 rw [List.length_map]
 refine dr hP fun box b0 b1=>?_
 have hm:=yN hR.box b0 b1
 walk_at "st"
 refine onA b0 b1 ?_
 walk_at "st"
 refine dr hP fun wo w0 w1=>?_
 walk_at "st"
 refine onA b0 b1 ?_
 walk_at "st"
 refine dr hP fun t t0 t1=>?_
 walk_at "st"
 refine onA b0 b1 ?_
 walk_at "st"
 refine ⟨by lia,?_⟩
 have c0:=Int.emod_nonneg (wo+1+t) (show zK rm box≠0 by lia)
 have c1:=Int.emod_lt_of_pos (wo+1+t) (show 0<zK rm box by lia)
 have cne:(wo+1+t) % zK rm box≠wo:=by
  have h3:zK rm box=2\/zK rm box=3\/zK rm box=4:=by lia
  revert w1 t1
  generalize zK rm box=mm at h3
  rcases h3 with rfl | rfl | rfl <;> lia
 generalize (wo+1+t) % zK rm box=be at c0 c1 cne
 walk_at "st"
 refine xS (fun _=>?_) (fun _=>?_)
 ·walk_at "st"
  refine xS (fun _=>?_) (fun _=>?_)
  ·walk_at "st"
   refine zco.i hP hR fun g m hG a hm=>?_
   walk_at "st"
   exact r ⟨g,box,wo,be⟩ m ⟨hG,b0,b1,a,w0,w1,c0,c1,Ne.symm cne⟩ (by lia)
  ·walk_at "st"
   refine zco.i hP hR fun g m hG a hm=>?_
   walk_at "st"
   exact r ⟨g,box,be,wo⟩ m ⟨hG,b0,b1,a,c0,c1,w0,w1,cne⟩ (by lia)
 ·walk_at "st"
  refine zco.i hP hR fun g m hG a hm=>?_
  walk_at "st"
  exact r ⟨g,box,be,wo⟩ m ⟨hG,b0,b1,a,c0,c1,w0,w1,cne⟩ (by lia)
def uV (K:PySem.W.Frag):FV:=fun Pn ws n R=>∃ (p:Addr) (l:List Dt),ws=[.pen p,.d (.lst l)]/\(xM K Pn p)/\(n+l.length+5<=1000000)/\(l.length<=1000)/\(∀ l':List Dt,l'.Perm l->R (.d (.lst l')) (n+l.length))
theorem uV.i {K:PySem.W.Frag}{Pn:Option zr}{n:Nat}{R:W->Nat->Prop}{p:Addr}{l:List Dt}(hP:xM K Pn p)(hl:l.length<=1000)(h:∀ l':List Dt,l'.Perm l->R (.d (.lst l')) (n+l.length))(hn:n+l.length+5<=1000000:=by lia):uV K Pn [.pen p,.d (.lst l)] n R:=⟨p,l,rfl,hP,hn,hl,h⟩
theorem zbW (T:Txt K mg t):FnOk P w K mg base CX0 2 t.f14 t.d14 ["_law_pen_here","_law_some"] (spV 2 true (uV K)):=by
 have G1:=zB (P:=P) (w:=w) (base:=base) T
 refine Fun.okW (k:=1) (fr:=true) [2] 2 T.q14.F xT rfl (by decide) rfl fun c A outer s H E Pn hr=>⟨_,(zd (wS xR <| zbe (i:=2) xT.nd rfl (Or.inl rfl) (uG ze))
   (zd (x3 PassesOwn.never rfl (wI uL <| uH K rfl (kv 1)) (wG zJ <| zk (i:=3) xT.nd rfl (Or.inl rfl)) (zh (wS zhG <| zkG 2 (wE zm <| yz T.q1 G1 hr (za (kv 0) (za (x2 yj uT (JE.bo (zW yv uC (by rfl) T.b_len PySem.boot_len (zg (kb 2) zj))) (JE.bo zi)) ze))) (kv 3))))
   (zh (wS zjC <| zlR 2)))),fun ws n R hF=>?_⟩
 obtain ⟨p,l,rfl,hP,hn,hl,r⟩:=hF
 walk_at "st"
 refine xD l W.d rfl (fun i ρ m=>m=n+i/\i<=l.length/\∃ l' v,ρ=[some (.pen p),some (.d (.lst l)),some (.d (.lst l')),v]/\l'.Perm (l.take i)) ⟨rfl,Nat.zero_le _,[],_,rfl,.refl _⟩ ?_ ?_
 ·rintro i a ρ m ha ⟨rfl,b,l',v,rfl,hp⟩ C B E hC _ _
  have hlen:=hp.length_eq
  rw [List.length_take] at hlen
  have hi:=(List.getElem?_eq_some_iff.mp ha).1
  walk_at "st"
  refine dr hP fun t t0 t1=>?_
  walk_at "st"
  refine ⟨⟨t0,by lia,Nat.lt_of_le_of_lt (by lia:_<=1000) (by decide)⟩,hC ⟨by lia,hi,_,_,rfl,?_⟩⟩
  rw [zn ha]
  refine .trans ?_ (List.perm_append_comm (l₁:=[a]))
  refine .trans List.perm_middle (List.Perm.cons a ?_)
  rw [List.take_append_drop]
  exact hp
 ·rintro ρ m ⟨rfl,b,l',v,rfl,hp⟩
  rw [List.take_length] at hp
  walk_at "st"
  exact r l' hp
def zdB  : FV:=fun Pn ws n R=>∃ (rm a b:List Int),ws=[.d (stD a),.d (stD b)]/\(RoomOk rm)/\(StOk rm a)/\(StOk rm b)/\(a≠b)/\(∀ x,WishOk rm x->R (.d (zaV x)) n)
theorem zdB.i  {Pn:Option zr} {n:Nat} {R:W->Nat->Prop} {rm a b:List Int} (hR:RoomOk rm) (ha:StOk rm a) (hb:StOk rm b) (hne:a≠b) (h:∀ x,WishOk rm x->R (.d (zaV x)) n)  : zdB Pn [.d (stD a),.d (stD b)] n R:=⟨rm,a,b,rfl,hR,ha,hb,hne,h⟩
theorem zdf (T:Txt K mg t):FnOk P w K mg base CX0 1 t.f15 t.d15 ["_law_one","_law_other"] (spV 2 false zdB):=by
 refine Fun.okW (k:=0) (fr:=false) [] 2 T.q15.F uR rfl (by decide) rfl fun l A outer s H E Pn hr=>⟨_,(zd (wS zu <| zA (i:=2) uR.nd rfl (Or.inr rfl) (ui yn zaa (JE.bo (y4 (N:=["_law_k","_law_one","_law_other"]) (cix:=[none,some 0,some 1]) rfl ⟨rfl,by decide +kernel,rfl⟩ (wI yS <| zX rfl T.b_range (zg (JE.bo (zW yv uC (by rfl) T.b_len PySem.boot_len (zg (kb 0) zj))) zj)) (fun _ _ _ _=>(wG zJ <| zk (i:=0) (show (["_law_k","_law_one","_law_other"]:List Str).Nodup by decide +kernel) rfl (Or.inl rfl))) (fun _ _ _ _=>(xP (wT zl <| zC zeZ znu (JE.bo (ui yo xA (kb 1) (kb 0) (fun _ _=>rfl))) (JE.bo (ui yo xA (kb 2) (kb 0) (fun _ _=>rfl))) (zx _)))) (fun _ _ _ _=>(kv 0)))) (JE.bo zi) (fun _ _=>rfl)))
   (zd (wS zu <| zA (i:=3) uR.nd rfl (Or.inl rfl) (yf zM xU (by rfl) T.b_tuple PyProof.Rows.boot_tuple (zg (JE.bo (y4 (N:=["_law_k","_law_one","_law_box"]) (cix:=[none,some 0,some 2]) rfl ⟨rfl,by decide +kernel,rfl⟩ (wI yS <| zX rfl T.b_range (zg (JE.bo (zW yv uC (by rfl) T.b_len PySem.boot_len (zg (kb 0) zj))) zj)) (fun _ _ _ _=>(wG zJ <| zk (i:=0) (show (["_law_k","_law_one","_law_box"]:List Str).Nodup by decide +kernel) rfl (Or.inl rfl))) (fun _ _ _ _=>(xP (wT zl <| zC zeZ znu (kb 0) (kb 2) (zx _)))) (fun _ _ _ _=>(yJ (za (kv 0) (za (ui yo xA (kb 1) (kb 0) (fun _ _=>rfl)) ze)))))) zj)))
   (zh (zD (yJ (za (kv 3) (za (kv 2) (za (ui yo xA (kb 1) (kb 2) (fun _ _=>rfl)) (za (ui yo xA (kb 0) (kb 2) (fun _ _=>rfl)) ze))))))))),fun ws n R hF=>?_⟩
 obtain ⟨rm,a,b,rfl,hR,ha,hb,c,r⟩:=hF
 walk_at "st"
 have e:=ha.len
 have f:=hb.len
 have h8:=hR.few
 rw [List.length_map]
 refine ⟨⟨by lia,by lia⟩,?_⟩
 rw [Int.toNat_natCast,xH]
 refine zam (List.range a.length) (fun k:Nat=>W.d (.int (k:Int))) rfl (fun ρ=>∃ v,ρ=[v,some (.d (stD a)),some (.d (stD b))]) (fun k=>!decide (a.getD k 0=b.getD k 0)) (fun k=>.int (k:Int)) (by rw [List.length_range];exact Nat.le_trans (by lia:a.length<=8) (by decide)) ⟨_,rfl⟩ ?_ ?_
 ·rintro k hk ρ' ⟨v,rfl⟩ C hY hN
  have m:=List.mem_range.mp hk
  walk_at "st"
  refine onA (by lia) (by lia) ?_
  walk_at "st"
  refine onA (by lia) (by lia) ?_
  walk_at "st"
  rw [zU,zU]
  refine zf5 (fun h=>?_) (fun h=>?_)
  ·exact hY (by rw [decide_eq_false h];rfl) ⟨_,rfl⟩
  ·exact hN (by rw [decide_eq_true h];rfl) ⟨_,rfl⟩
 ·obtain ⟨k,z6,hk,g,j⟩:=zgR (e.trans f.symm) c
  rw [hk]
  walk_at "st"
  refine zbq (zfj (i:=0) rfl) ?_
  walk_at "st"
  rw [List.length_map]
  refine ⟨⟨by lia,by lia⟩,?_⟩
  rw [Int.toNat_natCast,xH]
  refine zam (List.range a.length) (fun k:Nat=>W.d (.int (k:Int))) rfl (fun ρ=>∃ v,ρ=[v,some (.d (stD a)),some (.d (.int (k:Int)))]) (fun i=>!decide (i=k)) (fun i=>u9 ((i:Int),a.getD i 0)) (by rw [List.length_range];exact Nat.le_trans (by lia:a.length<=8) (by decide)) ⟨_,rfl⟩ ?_ ?_
  ·rintro i hi ρ' ⟨v,rfl⟩ C hY hN
   have o:=List.mem_range.mp hi
   walk_at "st"
   refine zf5 (fun h=>?_) (fun h=>?_)
   ·walk_at "st"
    refine onA (by lia) (by lia) ?_
    walk_at "st"
    rw [zU]
    exact hY (by rw [decide_eq_false (by lia)];rfl) ⟨_,rfl⟩
   ·exact hN (by rw [decide_eq_true (by lia)];rfl) ⟨_,rfl⟩
  ·walk_at "st"
   refine onA (by lia) (by lia) ?_
   walk_at "st"
   refine onA (by lia) (by lia) ?_
   walk_at "st"
   have:=r _ (zjf ha hb g j)
   unfold zof zaV at this
   rw [List.map_map] at this
   rw [zU,zU]
   exact this
def zcI  : FV:=fun Pn ws n R=>∃ (rm:List Int),ws=[.d (stD rm)]/\(RoomOk rm)/\(yb rm<=256)/\(∀ sts:List (List Int),sts.Nodup->(∀ st∈sts,StOk rm st)->(sts.length:Int)=yb rm->R (.d (uA sts)) n)
theorem zcI.i  {Pn:Option zr} {n:Nat} {R:W->Nat->Prop} {rm:List Int} (hR:RoomOk rm) (hp:yb rm<=256) (h:∀ sts:List (List Int),sts.Nodup->(∀ st∈sts,StOk rm st)->(sts.length:Int)=yb rm->R (.d (uA sts)) n)  : zcI Pn [.d (stD rm)] n R:=⟨rm,rfl,hR,hp,h⟩
theorem zch (T:Txt K mg t):FnOk P w K mg base CX0 1 t.f16 t.d16 ["_law_room_here"] (spV 1 false zcI):=by
 refine Fun.okW (k:=0) (fr:=false) [3] 5 T.q16.F ya rfl (by decide) rfl fun p A outer s H E Pn hr=>⟨_,(zd (wS zu <| zA (i:=1) ya.nd rfl (Or.inr rfl) (uG (za (yJ ze) ze)))
   (zd (x3 PassesOwn.never rfl (wI xx <| uI K rfl (kv 0)) (wG zJ <| zk (i:=2) ya.nd rfl (Or.inl rfl)) (zd (wS xR <| zbe (i:=3) ya.nd rfl (Or.inl rfl) (uG ze))
   (zd (x3 PassesOwn.never rfl (wI yS <| zX rfl T.b_range (zg (JE.bo (zW yv uC (by rfl) T.b_len PySem.boot_len (zg (kb 1) zj))) zj)) (wG zJ <| zk (i:=4) ya.nd rfl (Or.inr rfl)) (zd (wS zu <| zhm (i:=5) (zbx (ix:=5) ya.nd rfl rfl (N:=["_law_worth","_law_found","_law_k"]) (cix:=[none,some 1,some 4]) rfl ⟨rfl,by decide +kernel,rfl⟩ (wI yS <| zX rfl T.b_range (zg (kb 2) zj)) (fun _ _ _ _=>(wG zJ <| zk (i:=0) (show (["_law_worth","_law_found","_law_k"]:List Str).Nodup by decide +kernel) rfl (Or.inl rfl))) (fun _ _ _ _=>xg) (fun _ _ _ _=>(x2 xy zak (JE.bo (ui yn zaa (kb 1) (kb 2) (fun _ _=>rfl))) (JE.bo (yJ (za (kv 0) ze)))))))
   (zh (wS zhF <| zkF 3 (ui yn zaa (JE.bo (uG (za (kv 5) (za (wE zfA <| zkC (kb 5)) ze)))) (JE.bo (x2 uO znt (kb 4) (JE.bo zi))) (fun _ _=>rfl))))))
   (zh (wS zjB <| zlQ (i:=1) 3 ya.nd rfl (Or.inr rfl))))))
   (zh (zD (kv 1))))),fun ws n R hF=>?_⟩
 obtain ⟨rm,rfl,hR,hp,r⟩:=hF
 walk_at "st"
 have h8:=hR.few
 have c:∀ i,yb (rm.take i)<=65536:=fun i=>by
  rw [<- zal _ fun n hn=>by have:=hR.box n (List.mem_of_mem_take hn);lia]
  have:=zfi h8 hR.box i
  lia
 refine xD rm (fun i=>.d (.int i)) (by rw [List.map_map];rfl) (fun i ρ m=>m=n/\∃ (sts:List (List Int)) (v2 v3 v4 v5:Option W),ρ=[some (.d (stD rm)),some (.d (uA sts)),v2,v3,v4,v5]/\sts.Nodup/\(∀ st∈sts,StOk (rm.take i) st)/\(sts.length:Int)=yb (rm.take i)) ⟨rfl,[[]],_,_,_,_,rfl,by decide,fun st f=>?_,rfl⟩ ?_ ?_
 ·rw [List.mem_singleton.mp f]
  exact ⟨rfl,fun b b0 b1=>absurd b1 (by simp;lia)⟩
 ·rintro i a ρ m ha ⟨rfl,sts,v2,v3,v4,v5,rfl,hN,hok,hlen⟩ C B E hC _ _
  have hm:=hR.box a (List.mem_of_getElem? ha)
  have hf:=c i
  have q:=c (i+1)
  have j:yb (rm.take (i+1))=yb (rm.take i) * a:=by rw [zn ha,xm]
  obtain ⟨w,rfl⟩:∃ w:Nat,a=(w:Int):=⟨a.toNat,by lia⟩
  have y:sts.length * w<=65536:=by
   have:((sts.length * w:Nat):Int)=yb (rm.take (i+1)):=by rw [j,<- hlen,Int.natCast_mul]
   lia
  walk_at "st"
  rw [List.length_map]
  refine ⟨⟨by lia,by lia⟩,?_⟩
  rw [Int.toNat_natCast]
  refine zdQ (fun k ρ m'=>m'=m/\∃ (lg:List (List Int)) (v4 v5:Option W),ρ=[some (.d (stD rm)),some (.d (uA sts)),some (.d (.int (w:Int))),some (.d (.lst (lg.map stD))),v4,v5]/\lg.Nodup/\(∀ x∈lg,∃ b∈sts.take k,∃ v:Int,0<=v/\v<w/\x=b++[v])/\lg.length=k * w) ⟨rfl,[],_,_,rfl,.nil,by simp,by simp⟩ ?_ ?_
  ·rintro k ρ m' hk ⟨rfl,lg,v4,v5,rfl,g,hle,h⟩ C B E hC _ _
   walk_at "st"
   refine ⟨⟨by lia,by lia⟩,?_⟩
   rw [Int.toNat_natCast,xH]
   have o:=(hok _ (x0 hk)).len
   rw [List.length_take] at o
   have z:(k+1) * w<=sts.length * w:=Nat.mul_le_mul_right _ hk
   refine zbd (List.range w) (fun v:Nat=>W.d (.int (v:Int))) rfl (fun ρ=>∃ v,ρ=[v,some (.d (uA sts)),some (.d (.int (k:Int)))]) (fun v=>stD (sts.getD k []++[(v:Int)])) (by rw [List.length_range];exact Nat.le_trans (by lia:w<=4) (by decide)) ⟨_,rfl⟩ ?_ ?_
   ·rintro v hv ρ' ⟨u,rfl⟩ C hC
    walk_at "st"
    refine zbq (zcq hk) ?_
    walk_at "st"
    refine ⟨zqp (by lia),?_⟩
    rw [znU]
    exact hC ⟨_,rfl⟩
   ·have l:(List.range w).map (fun v:Nat=>stD (sts.getD k []++[(v:Int)]))=((List.range w).map fun v:Nat=>sts.getD k []++[(v:Int)]).map stD:=by rw [List.map_map];rfl
    rw [l]
    have fin:∀ B:List (List Int),B.Perm ((List.range w).map fun v:Nat=>sts.getD k []++[(v:Int)])->∀ v4 v5,(lg.map stD).length+(B.map stD).length<=lim/\C [some (.d (stD rm)),some (.d (uA sts)),some (.d (.int (w:Int))),some (.d (.lst (lg.map stD++B.map stD))),v4,v5] m':=fun B hB v4 v5=>by
     obtain ⟨q1,q2,q3⟩:=zgh hk hN g hle h hB
     refine ⟨?_,hC ⟨rfl,lg++B,_,_,by rw [List.map_append],q1,q2,q3⟩⟩
     rw [List.length_map,List.length_map,<- List.length_append,q3]
     exact Nat.le_trans (by lia:_<=65536) (by decide)
    generalize ((List.range w).map fun v:Nat=>sts.getD k []++[(v:Int)])=blk at fin
    walk_at "st"
    have h2:(k:Int) % 2=0\/(k:Int) % 2=1:=by lia
    refine ⟨by lia,?_⟩
    walk_at "st"
    rcases h2 with e | e
    ·rw [e]
     with_reducible refine zbq zqP ?_
     exact fin blk (.refl _) _ _
    ·rw [e]
     with_reducible refine zbq zqQ ?_
     have:=fin blk.reverse (List.reverse_perm _) (some (.d (.int (k:Int)))) (some (.d (.lst (blk.map stD))))
     rw [List.map_reverse] at this
     exact this
  ·rintro ρ m' ⟨rfl,lg,v4,v5,rfl,g,hle,h⟩
   walk_at "st"
   refine hC ⟨rfl,lg,_,_,_,_,rfl,g,fun st f=>?_,?_⟩
   ·obtain ⟨b,hb,v,v0,v1,rfl⟩:=hle st f
    rw [List.take_length] at hb
    rw [zn ha]
    exact (hok b hb).snoc v0 v1
   ·rw [h,j,<- hlen,Int.natCast_mul]
 ·rintro ρ m ⟨rfl,sts,v2,v3,v4,v5,rfl,hN,hok,hlen⟩
  rw [List.take_length] at hlen hok
  walk_at "st"
  exact r sts hN hok hlen
def zcn (K:PySem.W.Frag):FV:=fun Pn ws n R=>∃ (p:Addr) (rm:List Int),ws=[.pen p,.d (stD rm)]/\(xM K Pn p)/\(n+5000<=1000000)/\(RoomOk rm)/\(yb rm<=256)/\(∀ bk m,u4 rm bk->bk.length<=1000->m<=n+4000->R (.d (ue bk)) m)
theorem zcn.i {K:PySem.W.Frag}{Pn:Option zr}{n:Nat}{R:W->Nat->Prop}{p:Addr}{rm:List Int}(hP:xM K Pn p)(hR:RoomOk rm)(hp:yb rm<=256)(h:∀ bk m,u4 rm bk->bk.length<=1000->m<=n+4000->R (.d (ue bk)) m)(hn:n+5000<=1000000:=by lia):zcn K Pn [.pen p,.d (stD rm)] n R:=⟨p,rm,rfl,hP,hn,hR,hp,h⟩
theorem za5 (T:Txt K mg t):FnOk P w K mg base CX0 4 t.f17 t.d17 ["_law_pen_here","_law_room_here"] (spV 2 false (zcn K)):=by
 have G1:=zB (P:=P) (w:=w) (base:=base) T
 have G13:=zaJ (P:=P) (w:=w) (base:=base) T
 have G16:=zch (P:=P) (w:=w) (base:=base) T
 have G15:=zdf (P:=P) (w:=w) (base:=base) T
 refine Fun.okW (k:=3) (fr:=false) [3] 4 T.q17.F zI rfl (by decide) rfl fun h A outer s H E Pn hr=>⟨_,(zd (wS zu <| zA (i:=2) zI.nd rfl (Or.inr rfl) (wE zm <| yz T.q16 G16 hr (za (kv 1) ze)))
   (zd (wS zH <| xf (wT zl <| zC zau zfb (JE.bo (wE zm <| yz T.q1 G1 hr (za (kv 0) (za zi ze)))) (JE.bo zi) (zx _)) (zh (wS zu <| zA (i:=2) zI.nd rfl (Or.inr rfl) (wE zfA <| zkC (kb 2)))) zG)
   (zd (wS xR <| zhl (i:=3) (zbx (ix:=3) zI.nd rfl rfl (N:=["_law_k","_law_row"]) (cix:=[none,some 2]) rfl ⟨rfl,by decide +kernel,rfl⟩ (wI yS <| zX rfl T.b_range (zg (JE.bo (x2 zh1 znx (JE.bo (zW yv uC (by rfl) T.b_len PySem.boot_len (zg (kb 2) zj))) (JE.bo zi))) zj)) (fun _ _ _ _=>(wG zJ <| zk (i:=0) (show (["_law_k","_law_row"]:List Str).Nodup by decide +kernel) rfl (Or.inl rfl))) (fun _ _ _ _=>xg) (fun _ _ _ _=>(wE zm <| yz T.q15 G15 hr (za (ui yn zaa (kb 1) (kb 0) (fun _ _=>rfl)) (za (ui yn zaa (kb 1) (JE.bo (x2 yj uT (kb 0) (JE.bo zi))) (fun _ _=>rfl)) ze))))))
   (zd (wS zu <| zA (i:=4) zI.nd rfl (Or.inl rfl) (wE zm <| yz T.q1 G1 hr (za (kv 0) (za (zW yv uC (by rfl) T.b_len PySem.boot_len (zg (kb 3) zj)) ze))))
   (zd (wS zu <| zA (i:=5) zI.nd rfl (Or.inl rfl) (wE zm <| yz T.q1 G1 hr (za (kv 0) (za zi ze))))
   (zd (wS zH <| xf (wT zl <| zC zau zfb (kb 5) (JE.bo zi) (zx _)) (zh (wS xR <| zbe (i:=3) zI.nd rfl (Or.inl rfl) (x2 zhZ zk6 (JE.bo (wE za3 <| zf1 (kb 3) xb (wO yA <| xc (kb 4)))) (JE.bo (wE za3 <| zf1 (kb 3) (wO yA <| xc (JE.bo (x2 yj uT (kb 4) (JE.bo zi)))) xb))))) zG)
   (zd (wS zH <| xf (wT zl <| zC zau zfb (kb 5) (JE.bo zi) (zx _)) (zh (wS zhJ <| zkH 3 (kb 4) (wE zm <| yz T.q15 G15 hr (za (ui yn zaa (kb 2) (JE.bo (x2 yj uT (kb 4) (JE.bo zi))) (fun _ _=>rfl)) (za (ui yn zaa (kb 2) (kb 4) (fun _ _=>rfl)) ze))))) zG)
   (zd (wS zH <| xf (wT zl <| zC zau zfb (kb 5) (JE.bo zi) (zx _)) (zh (wS zhG <| zkG 3 (kv 4) (wE zm <| yz T.q13 G13 hr (za (kv 0) (za (kv 1) (za zi ze)))))) zG)
   (zh (zD (yf zM xU (by rfl) T.b_tuple PyProof.Rows.boot_tuple (zg (kb 3) zj)))))))))))),fun ws n R hF=>?_⟩
 obtain ⟨p,rm,rfl,hP,hn,hR,hp,r⟩:=hF
 walk_at "st"
 refine zcI.i hR hp fun sts hN hok hlen=>?_
 walk_at "st"
 refine dr hP fun c c0 c1=>?_
 have h2:=zh8 hR.ne fun n hn=>(hR.box n hn).1
 walk_at "st"
 refine' zoB (fun sts:List (List Int)=>sts.Nodup/\(∀ st∈sts,StOk rm st)/\(sts.length:Int)=yb rm) _ (fun z6=>?_) ?_
 rotate_left
 ·refine xS (fun _=>?_) (fun _=>?_)
  ·walk_at "st"
   rw [<- List.map_reverse]
   have q:sts.reverse.Nodup/\(∀ st∈sts.reverse,StOk rm st)/\(sts.reverse.length:Int)=yb rm:=⟨(List.reverse_perm sts).nodup_iff.mpr hN,fun st g=>hok st (List.mem_reverse.mp g),by rw [List.length_reverse];exact hlen⟩
   generalize sts.reverse=s2 at q ⊢
   exact z6 s2 q
  ·walk_at "st"
   exact z6 sts ⟨hN,hok,hlen⟩
 rintro sts ⟨hN,hok,hlen⟩
 walk_at "st"
 have l:sts.length<=256:=by lia
 have o:2<=sts.length:=by lia
 rw [List.length_map]
 refine ⟨⟨by lia,by lia⟩,?_⟩
 have e1:((sts.length:Int) - 1).toNat=sts.length - 1:=by lia
 rw [e1,xH]
 refine zfo (List.range (sts.length - 1)) (fun k:Nat=>W.d (.int (k:Int))) rfl (by rw [List.length_range];exact Nat.le_trans (by lia:_<=256) (by decide)) (fun i ρ' n' acc=>n'=n+1/\i<=sts.length - 1/\∃ (v:Option W) (bk:List Wi),ρ'=[v,some (.d (uA sts))]/\acc=bk.map zaV/\u4 rm bk/\bk.length=i) ⟨rfl,Nat.zero_le _,none,[],rfl,rfl,by intro x hx;simp at hx,rfl⟩ ?_ ?_
 ·rintro i k ρ' n' acc hk ⟨rfl,hi,v,bk,rfl,rfl,hB,a⟩ C hC
  obtain ⟨b,e⟩:=List.getElem?_eq_some_iff.mp hk
  rw [List.length_range] at b
  rw [List.getElem_range] at e
  subst e
  walk_at "st"
  refine zbq (zcq (by lia)) ?_
  walk_at "st"
  rw [show ((i:Int)+1)=((i+1:Nat):Int) from rfl]
  refine zbq (zcq (by lia)) ?_
  walk_at "st"
  refine zdB.i hR (hok _ (x0 (by lia))) (hok _ (x0 (by lia))) (zcz hN (by lia)) fun x hx=>?_
  exact hC ⟨rfl,b,_,bk++[x],rfl,by rw [List.map_append];rfl,hB.app (fun y hy=>by rw [List.mem_singleton.mp hy];exact hx),by rw [List.length_append,a];rfl⟩
 ·rintro ρ' n' acc ⟨rfl,hi,v,bk,rfl,rfl,hB,a⟩
  rw [List.length_range] at a
  walk_at "st"
  rw [List.length_map]
  refine dr hP fun at' a0 a1=>?_
  walk_at "st"
  refine dr hP fun way w0 w1=>?_
  have f:way=0\/way=1\/way=2\/way=3:=by lia
  obtain ⟨j,rfl⟩:∃ j:Nat,at'=(j:Int):=⟨at'.toNat,by lia⟩
  walk_at "st"
  rcases f with rfl | rfl | rfl | rfl
  ·walk_at "ct"
   rw [xN,xN]
   have c1:=ug bk none (some (j:Int))
   have c2:=ug bk (some ((j:Int)+1)) none
   refine ⟨by rw [List.length_map,List.length_map];exact Nat.le_trans (by lia:_<=1000) (by decide),?_⟩
   rw [<- List.map_append]
   walk_at "st"
   walk_at "cf"
   walk_at "cf"
   exact r _ _ ((hB.cut _ _).app (hB.cut _ _)) (by rw [List.length_append];lia) (by lia)
  ·walk_at "cf"
   walk_at "ct"
   rw [show ((j:Int)+1)=((j+1:Nat):Int) from rfl]
   refine zbq (zcq (by lia)) ?_
   walk_at "st"
   refine zbq (zcq (by lia)) ?_
   walk_at "st"
   refine zdB.i hR (hok _ (x0 (by lia))) (hok _ (x0 (by lia))) (Ne.symm (zcz hN (by lia))) fun x hx=>?_
   walk_at "st"
   refine ⟨⟨by lia,by rw [List.length_map];lia⟩,?_⟩
   rw [Int.toNat_natCast,<- List.map_set]
   walk_at "st"
   walk_at "cf"
   exact r _ _ (hB.set hx j) (by rw [List.length_set];lia) (by lia)
  ·walk_at "cf"
   walk_at "cf"
   walk_at "ct"
   refine zcp.i hP hR fun x m hx hm=>?_
   walk_at "st"
   refine ⟨⟨by lia,by rw [List.length_map];lia,by rw [List.length_map];exact Nat.lt_of_le_of_lt (by lia:_<=1000) (by decide)⟩,?_⟩
   rw [Int.toNat_natCast,zlI]
   walk_at "st"
   exact r _ _ (hB.ins hx j) (by rw [zlH];lia) (by lia)
  ·walk_at "cf"
   walk_at "cf"
   walk_at "cf"
   exact r _ _ hB (by lia) (by lia)
theorem zea {rm qs:List Int}(ok:∀ q∈qs,0<=q/\q<rm.length)(hl:qs.length<=100){Q:W->Nat->Prop}{m:Nat}(h:Q (.d (lsD (qs.map (zK rm)))) m):zcS (eN 0) zqw (zhC znJ (zct 1) (zct 0)) [none,some (.d (stD rm))] Q ((qs.map Dt.int).map W.d) m:=by
 refine zbd qs (fun q=>W.d (.int q)) (by rw [List.map_map];rfl) (fun ρ=>∃ v,ρ=[v,some (.d (stD rm))]) (fun q=>.int (zK rm q)) (Nat.le_trans hl (by decide)) ⟨_,rfl⟩ ?_ ?_
 ·rintro q hq ρ' ⟨v,rfl⟩ C hC
  have hb:=ok q hq
  walk_at "st"
  refine onA hb.1 hb.2 ?_
  exact hC ⟨_,rfl⟩
 ·have:qs.map (fun q=>Dt.int (zK rm q))=(qs.map (zK rm)).map Dt.int:=by rw [List.map_map];rfl
  rw [this]
  exact h
theorem zbV (T:Txt K mg t):FnOk P w K mg base CX0 3 t.f18 t.d18 ["_law_pen_here","_law_room_here"] (spV 2 false (zcn K)):=by
 have G1:=zB (P:=P) (w:=w) (base:=base) T
 have G8:=uk (P:=P) (w:=w) (base:=base) T
 have G9:=zbf (P:=P) (w:=w) (base:=base) T
 have G14:=zbW (P:=P) (w:=w) (base:=base) T
 refine Fun.okW (k:=2) (fr:=false) [3] 8 T.q18.F zz rfl (by decide) rfl fun cdv A outer s H E Pn hr=>⟨_,(zd (wS zu <| zA (i:=2) zz.nd rfl (Or.inl rfl) (wE zm <| yz T.q14 G14 hr (za (kv 0) (za (wE zar <| zbM T.b_list T.b_range (zg (JE.bo (zW yv uC (by rfl) T.b_len PySem.boot_len (zg (kb 1) zj))) zj)) ze))))
   (zd (wS xR <| zbe (i:=3) zz.nd rfl (Or.inl rfl) (uG ze))
   (zd (x3 PassesOwn.never rfl (wI yS <| zX rfl T.b_range (zg (JE.bo (zW yv uC (by rfl) T.b_len PySem.boot_len (zg (kb 2) zj))) zj)) (wG zJ <| zk (i:=4) zz.nd rfl (Or.inl rfl)) (zd (wS zu <| zA (i:=5) zz.nd rfl (Or.inr rfl) (ui yn zaa (kb 2) (kb 4) (fun _ _=>rfl)))
   (zd (wS zu <| zA (i:=6) zz.nd rfl (Or.inl rfl) (zW zi1 znv (by rfl) T.b_sorted PyProof.Rows.boot_sorted (zg (JE.bo (wE za3 <| zf1 (JE.bo (wE zm <| yz T.q14 G14 hr (za (kv 0) (za (wE za3 <| zf1 (kb 2) xb (wO yA <| xc (kb 4))) ze)))) xb (wO yA <| xc (JE.bo (wE zm <| yz T.q1 G1 hr (za (kv 0) (za zi ze))))))) zj)))
   (zd (wS zH <| xf (wT zl <| zC zf6 zqF (JE.bo (wE zm <| yz T.q8 G8 hr (za (y4 (N:=["_law_at","_law_room_here"]) (cix:=[none,some 1]) rfl ⟨rfl,by decide +kernel,rfl⟩ (wI uL <| uH K rfl (kv 6)) (fun _ _ _ _=>(wG zJ <| zk (i:=0) (show (["_law_at","_law_room_here"]:List Str).Nodup by decide +kernel) rfl (Or.inl rfl))) (fun _ _ _ _=>xg) (fun _ _ _ _=>(ui yo xA (kb 1) (kb 0) (fun _ _=>rfl)))) ze))) (JE.bo zi) (zx _)) (zh (wS zu <| zA (i:=6) zz.nd rfl (Or.inl rfl) (wE za3 <| zf1 (kb 6) xb (wO yA <| xc (JE.bo zi))))) zG)
   (zh (x3 PassesOwn.never rfl (wI uL <| uH K rfl (wE zm <| yz T.q9 G9 hr (za (y4 (N:=["_law_at","_law_room_here"]) (cix:=[none,some 1]) rfl ⟨rfl,by decide +kernel,rfl⟩ (wI uL <| uH K rfl (kv 6)) (fun _ _ _ _=>(wG zJ <| zk (i:=0) (show (["_law_at","_law_room_here"]:List Str).Nodup by decide +kernel) rfl (Or.inl rfl))) (fun _ _ _ _=>xg) (fun _ _ _ _=>(ui yo xA (kb 1) (kb 0) (fun _ _=>rfl)))) ze))) (wG zJ <| zk (i:=7) zz.nd rfl (Or.inl rfl)) (zd (wS zu <| zA (i:=8) zz.nd rfl (Or.inr rfl) (wE zm <| yz T.q14 G14 hr (za (kv 0) (za (wE zar <| zbM T.b_list T.b_range (zg (JE.bo (ui yo xA (kb 1) (kb 5) (fun _ _=>rfl))) zj)) ze))))
   (zd (wS zu <| zA (i:=9) zz.nd rfl (Or.inr rfl) (yf zM xU (by rfl) T.b_tuple PyProof.Rows.boot_tuple (zg (JE.bo (y4 (N:=["_law_at","_law_worth"]) (cix:=[none,none]) rfl ⟨rfl,by decide +kernel,rfl⟩ (wI zjA <| zlP rfl T.b_zip (za (kv 6) (za (kv 7) ze))) (fun _ _ _ _=>(wG zad <| zae (n:=2) K rfl rfl (wH ye <| zy (wG zJ <| zk (i:=0) (show (["_law_at","_law_worth"]:List Str).Nodup by decide +kernel) rfl (Or.inl rfl)) (wH ye <| zy (wG zJ <| zk (i:=1) (show (["_law_at","_law_worth"]:List Str).Nodup by decide +kernel) rfl (Or.inl rfl)) (wH zac xO))))) (fun _ _ _ _=>xg) (fun _ _ _ _=>(yJ (za (kv 0) (za (kv 1) ze)))))) zj)))
   (zh (wS zhF <| zkF 3 (y4 (N:=["_law_j","_law_given_here","_law_box","_law_rank"]) (cix:=[none,some 9,some 5,some 8]) rfl ⟨rfl,by decide +kernel,rfl⟩ (wI yS <| zX rfl T.b_range (zg (JE.bo (x2 zh1 znx (JE.bo (ui yo xA (kb 1) (kb 5) (fun _ _=>rfl))) (JE.bo zi))) zj)) (fun _ _ _ _=>(wG zJ <| zk (i:=0) (show (["_law_j","_law_given_here","_law_box","_law_rank"]:List Str).Nodup by decide +kernel) rfl (Or.inl rfl))) (fun _ _ _ _=>xg) (fun _ _ _ _=>(yJ (za (kv 1) (za (kv 2) (za (ui yn zaa (kb 3) (JE.bo (x2 yj uT (kb 0) (JE.bo zi))) (fun _ _=>rfl)) (za (ui yn zaa (kb 3) (kb 0) (fun _ _=>rfl)) ze)))))))))))))))))
   (zh (zD (yf zM xU (by rfl) T.b_tuple PyProof.Rows.boot_tuple (zg (kb 3) zj))))))),fun ws n R hF=>?_⟩
 obtain ⟨p,rm,rfl,hP,hn,hR,hp,r⟩:=hF
 walk_at "st"
 have h8:=hR.few
 rw [List.length_map]
 refine ⟨⟨by lia,by lia⟩,?_⟩
 rw [Int.toNat_natCast,zd9]
 refine uV.i hP (by rw [List.length_map,y3];lia) (fun l Z=>?_) (by rw [List.length_map,y3];lia)
 obtain ⟨bs,rfl,y⟩:=zb0 Z
 have va:=y.length_eq
 rw [List.length_map,y3]
 rw [y3] at va
 walk_at "st"
 rw [List.length_map]
 refine ⟨⟨by lia,by lia⟩,?_⟩
 rw [Int.toNat_natCast]
 refine zdQ (fun k ρ m=>m<=n+8+50 * k/\∃ (bk:List Wi) (v4 v5 v6 v7 v8 v9:Option W),ρ=[some (.pen p),some (.d (stD rm)),some (.d (.lst (bs.map Dt.int))),some (.d (.lst (bk.map zaV))),v4,v5,v6,v7,v8,v9]/\u4 rm bk/\bk.length<=27 * k) ⟨by lia,[],_,_,_,_,_,_,rfl,by intro x hx;simp at hx,Nat.zero_le _⟩ ?_ ?_
 ·rintro k ρ m hk ⟨hm,bk,v4,v5,v6,v7,v8,v9,rfl,hB,I⟩ C B E hC _ _
  walk_at "st"
  refine onA (by lia) (by lia) ?_
  walk_at "st"
  rw [zU,xN,zfr]
  refine uV.i hP (by rw [List.length_map,List.length_take];lia) (fun l2 vb=>?_) (by rw [List.length_map,List.length_take];lia)
  obtain ⟨ps,rfl,J⟩:=zb0 vb
  have vc:=J.length_eq
  rw [List.length_take] at vc
  rw [List.length_map,List.length_take]
  walk_at "st"
  refine dr hP fun t t0 t1=>?_
  walk_at "st"
  rw [xN]
  have L:=ug ps none (some t)
  refine ⟨_,rfl,by lia,fun qs M vd=>?_⟩
  have e:=zoV y (by lia) J M vd
  have hql:=M.length_eq
  have ve:bs.getD k 0∈bs:=by
   rw [List.getD_eq_getElem?_getD,List.getElem?_eq_getElem hk]
   exact List.getElem_mem _
  obtain ⟨g,h⟩:=zbI (y.mem_iff.mp ve)
  have O:=yN hR.box g h
  generalize bs.getD k 0=box at e g h O
  generalize hm1:m+min k bs.length+1=m1
  have vo:m1<=m+9:=by lia
  have o:∀ q1,ParOk rm box q1->∀ x∈q1.map (zK rm),2<=x/\x<=4:=fun q1 h1 x hx=>by
   obtain ⟨q,hq,rfl⟩:=List.mem_map.mp hx
   have:=h1.ok q hq
   exact yN hR.box this.1 this.2.1
  walk_at "st"
  refine zea (fun q hq=>⟨(e.ok q hq).1,(e.ok q hq).2.1⟩) (by lia) ?_
  walk_at "st"
  refine zbc.i (.inr rfl) (o _ e) ?_
  walk_at "st"
  refine' zoB (fun q1:List Int=>ParOk rm box q1/\q1.length<=8/\yb (q1.map (zK rm))<=9) _ (fun z6=>?_) ?_
  rotate_left
  ·refine xS (fun h9=>?_) (fun h9=>?_)
   ·walk_at "st"
    rw [xN]
    have c:=e.cut none (some 1)
    have u:(uu qs none (some 1)).length<=1:=by rw [show (1:Int)=((1:Nat):Int) from rfl,zfr,List.length_take];lia
    generalize uu qs none (some 1)=q1 at c u
    refine z6 q1 ⟨c,by lia,?_⟩
    match q1,u,c with
    | [],_,_=>show (1:Int)<=9;decide
    | [q],_,hq=>
     have:=hq.ok q (by simp)
     have:=yN hR.box this.1 this.2.1
     show 1 * zK rm q<=9
     lia
   ·walk_at "st"
    exact z6 qs ⟨e,by lia,by lia⟩
  rintro q1 ⟨c,hq8,hpr⟩
  have Q:=o q1 c
  walk_at "st"
  refine zea (fun q hq=>⟨(c.ok q hq).1,(c.ok q hq).2.1⟩) (by lia) ?_
  walk_at "st"
  refine zdA.i (.inr rfl) Q (by rw [List.length_map];lia) ?_
  walk_at "st"
  have L:=zal (q1.map (zK rm)) fun x hx=>by have:=Q x hx;lia
  have S:=zk9 (q1.map (zK rm))
  generalize ud ((q1.map (zK rm)).map zE)=cs at L S
  refine xD cs (fun st=>W.d (stD st)) (by rw [List.map_map];rfl) (fun i ρ m'=>m'<=m1+4 * i/\i<=cs.length/\∃ (f:List Wi) (v7 v8 v9:Option W),ρ=[some (.pen p),some (.d (stD rm)),some (.d (.lst (bs.map Dt.int))),some (.d (.lst (f.map zaV))),some (.d (.int (k:Int))),some (.d (.int box)),some (.d (.lst (q1.map Dt.int))),v7,v8,v9]/\u4 rm f/\f.length<=27 * k+3 * i) ⟨by lia,Nat.zero_le _,bk,_,_,_,rfl,hB,by lia⟩ ?_ ?_
  ·rintro i st ρ m' U ⟨vf,vg,f,v7,v8,v9,rfl,D,V⟩ C B E hC _ _
   have hi:=(List.getElem?_eq_some_iff.mp U).1
   have X:=S st (List.mem_of_getElem? U)
   have vh:=X.len
   rw [List.length_map] at vh
   obtain ⟨hG,vi⟩:=zlA c X
   obtain ⟨w,hw⟩:∃ w:Nat,zK rm box=(w:Int):=⟨(zK rm box).toNat,by lia⟩
   have hw2:2<=w/\w<=4:=by lia
   walk_at "st"
   refine onA g h ?_
   walk_at "st"
   rw [hw]
   refine ⟨⟨by lia,by lia⟩,?_⟩
   rw [Int.toNat_natCast,zd9]
   refine uV.i hP (by rw [List.length_map,y3];lia) (fun l3 vj=>?_) (by rw [List.length_map,y3];lia)
   obtain ⟨rs,rfl,G⟩:=zb0 vj
   have vk:=G.length_eq
   rw [y3] at vk
   rw [show (List.map Dt.int (zc0 w)).length=w by rw [List.length_map,y3]]
   walk_at "st"
   refine ⟨by rw [List.length_map,List.length_map];lia,?_⟩
   rw [zfR]
   refine zbd (q1.zip st) (fun q=>W.d (u9 q)) rfl (fun ρ=>∃ a b,ρ=[a,b]) u9 (by rw [List.length_zip];exact Nat.le_trans (by lia:_<=8) (by decide)) ⟨_,_,rfl⟩ ?_ ?_
   ·rintro q hq ρ' ⟨a,b,rfl⟩ C hC
    exact hC ⟨_,_,rfl⟩
   ·walk_at "st"
    refine onA g h ?_
    walk_at "st"
    rw [hw]
    refine ⟨⟨by lia,by lia⟩,?_⟩
    have e3:((w:Int) - 1).toNat=w - 1:=by lia
    rw [e3,xH]
    have vl:rs.Nodup:=G.nodup_iff.mpr (zbJ _)
    have Y:∀ j:Nat,j<w->0<=rs.getD j 0/\rs.getD j 0<zK rm box:=fun j hj=>by
     have h1:rs.getD j 0∈rs:=by
      rw [List.getD_eq_getElem?_getD,List.getElem?_eq_getElem (by lia)]
      exact List.getElem_mem _
     have:=zbI (G.mem_iff.mp h1)
     lia
    refine zbd (List.range (w - 1)) (fun j:Nat=>W.d (.int (j:Int))) rfl (fun ρ=>∃ v,ρ=[v,some (.d (.tup ((q1.zip st).map u9))),some (.d (.int box)),some (.d (.lst (rs.map Dt.int)))]) (fun j=>zaV ⟨q1.zip st,box,rs.getD (j+1) 0,rs.getD j 0⟩) (by rw [List.length_range];exact Nat.le_trans (by lia:_<=4) (by decide)) ⟨_,rfl⟩ ?_ ?_
    ·rintro j hj ρ' ⟨v,rfl⟩ C hC
     have vm:=List.mem_range.mp hj
     walk_at "st"
     rw [show ((j:Int)+1)=((j+1:Nat):Int) from rfl]
     refine onA (by lia) (by lia) ?_
     walk_at "st"
     refine onA (by lia) (by lia) ?_
     rw [zU,zU]
     exact hC ⟨_,rfl⟩
    ·walk_at "st"
     refine ⟨by rw [List.length_map,List.length_map,List.length_range];exact Nat.le_trans (by lia:_<=1000) (by decide),hC ⟨by lia,hi,f++(List.range (w - 1)).map (fun j=>⟨q1.zip st,box,rs.getD (j+1) 0,rs.getD j 0⟩),_,_,_,by rw [List.map_append,List.map_map];rfl,D.app fun x hx=>?_,by rw [List.length_append,List.length_map,List.length_range];lia⟩⟩
     obtain ⟨j,hj,rfl⟩:=List.mem_map.mp hx
     have vm:=List.mem_range.mp hj
     have h1:=Y j (by lia)
     have h2:=Y (j+1) (by lia)
     have vn:rs.getD (j+1) 0≠rs.getD j 0:=by
      have:=List.pairwise_iff_getElem.mp vl j (j+1) (by lia) (by lia) (by lia)
      intro z
      apply this
      simpa [show j<rs.length by lia,show j+1<rs.length by lia] using z.symm
     exact ⟨hG,g,h,vi,h2.1,h2.2,h1.1,h1.2,vn⟩
  ·rintro ρ m' ⟨vf,vg,f,v7,v8,v9,rfl,D,V⟩
   exact hC ⟨by lia,f,_,_,_,_,_,_,rfl,D,by lia⟩
 ·rintro ρ m ⟨hm,bk,v4,v5,v6,v7,v8,v9,rfl,hB,I⟩
  walk_at "st"
  exact r bk m hB (by lia) (by lia)
def zfd (K:PySem.W.Frag):FV:=fun Pn ws n R=>∃ (p:Addr) (rm:List Int),ws=[.pen p,.d (stD rm)]/\(xM K Pn p)/\(n+7000<=1000000)/\(RoomOk rm)/\(yb rm<=256)/\(∀ bk m,u4 rm bk->bk.length<=1100->m<=n+5000->R (.d (ue bk)) m)
theorem zfd.i {K:PySem.W.Frag}{Pn:Option zr}{n:Nat}{R:W->Nat->Prop}{p:Addr}{rm:List Int}(hP:xM K Pn p)(hR:RoomOk rm)(hp:yb rm<=256)(h:∀ bk m,u4 rm bk->bk.length<=1100->m<=n+5000->R (.d (ue bk)) m)(hn:n+7000<=1000000:=by lia):zfd K Pn [.pen p,.d (stD rm)] n R:=⟨p,rm,rfl,hP,hn,hR,hp,h⟩
theorem zde (T:Txt K mg t):FnOk P w K mg base CX0 5 t.f19 t.d19 ["_law_pen_here","_law_room_here"] (spV 2 false (zfd K)):=by
 have G1:=zB (P:=P) (w:=w) (base:=base) T
 have G13:=zaJ (P:=P) (w:=w) (base:=base) T
 have G17:=za5 (P:=P) (w:=w) (base:=base) T
 have G18:=zbV (P:=P) (w:=w) (base:=base) T
 refine Fun.okW (k:=4) (fr:=false) [3] 2 T.q19.F xI rfl (by decide) rfl fun g A outer s H E Pn hr=>⟨_,(zd (wS zu <| zA (i:=2) xI.nd rfl (Or.inr rfl) (wE zm <| yz T.q1 G1 hr (za (kv 0) (za zi ze))))
   (zd (wS zH <| xf (wT zl <| zC zau zfb (kb 2) (JE.bo zi) (zx _)) (zh (zD (yJ ze))) zG)
   (zd (wS zH <| xf (wT zl <| zC zau zfb (kb 2) (JE.bo zi) (zx _)) (zh (zD (wE zm <| yz T.q17 G17 hr (za (kv 0) (za (kv 1) ze))))) zG)
   (zd (wS zH <| xf (wT zl <| zC zf6 zqF (kb 2) (JE.bo zi) (zx _)) (zd (wS xR <| zbe (i:=3) xI.nd rfl (Or.inl rfl) (yf zev zp5 (by rfl) T.b_list PyProof.Rows.boot_list (zg (JE.bo (wE zm <| yz T.q18 G18 hr (za (kv 0) (za (kv 1) ze)))) zj)))
   (zd (wS zH <| xf (JW.t (wW xQ <| zaf (wT zl <| zC zau zfb (kb 2) (JE.bo zi) (zx _)) (uJ (.inl rfl) (wT zl <| zC zf6 zqF (JE.bo (zW yv uC (by rfl) T.b_len PySem.boot_len (zg (kb 3) zj))) (JE.bo zi) (zx _))))) (zh (wS zhJ <| zkH 3 (JE.bo (wE zm <| yz T.q1 G1 hr (za (kv 0) (za (zW yv uC (by rfl) T.b_len PySem.boot_len (zg (kb 3) zj)) ze)))) (wE zm <| yz T.q13 G13 hr (za (kv 0) (za (kv 1) (za zi ze)))))) zG)
   (zh (zD (yf zM xU (by rfl) T.b_tuple PyProof.Rows.boot_tuple (zg (kb 3) zj)))))) zG)
   (zd (wS xR <| zhl (i:=3) (zbx (ix:=3) xI.nd rfl rfl (N:=["_law_k","_law_pen_here","_law_room_here","_law_way"]) (cix:=[none,some 0,some 1,some 2]) rfl ⟨rfl,by decide +kernel,rfl⟩ (wI yS <| zX rfl T.b_range (zg (JE.bo (x2 yj uT (JE.bo zi) (JE.bo (wE zm <| yz T.q1 G1 hr (za (kv 0) (za zi ze)))))) zj)) (fun _ _ _ _=>(wG zJ <| zk (i:=0) (show (["_law_k","_law_pen_here","_law_room_here","_law_way"]:List Str).Nodup by decide +kernel) rfl (Or.inl rfl))) (fun _ _ _ _=>xg) (fun _ _ _ _=>(wE zm <| yz T.q13 G13 hr (za (kv 1) (za (kv 2) (za (kv 3) ze)))))))
   (zh (zD (yf zM xU (by rfl) T.b_tuple PyProof.Rows.boot_tuple (zg (JE.bo (x2 zhZ zk6 (kb 3) (JE.bo (wE za3 <| zf1 (kb 3) xb (wO yA <| xc (JE.bo (wE zm <| yz T.q1 G1 hr (za (kv 0) (za zi ze))))))))) zj))))))))),fun ws n R hF=>?_⟩
 obtain ⟨p,rm,rfl,hP,hn,hR,hp,r⟩:=hF
 walk_at "st"
 refine dr hP fun way w0 w1=>?_
 walk_at "st"
 refine xS (fun h6=>?_) (fun h6=>?_)
 ·walk_at "st"
  exact r [] _ (by intro x hx;simp at hx) (by decide) (by lia)
 walk_at "st"
 refine xS (fun h5=>?_) (fun h5=>?_)
 ·walk_at "st"
  exact zcn.i hP hR hp fun bk m hB hl hm=>r bk m hB (by lia) (by lia)
 walk_at "st"
 refine xS (fun h2=>?_) (fun h2=>?_)
 ·walk_at "st"
  refine zcn.i hP hR hp fun bk m hB hl hm=>?_
  walk_at "st"
  refine xS (fun h4=>?_) (fun h4=>?_)
  ·walk_at "st"
   rw [List.length_map]
   refine xS (fun hz=>?_) (fun hz=>?_)
   ·walk_at "st"
    refine zcp.i hP hR fun x m2 hx h=>?_
    walk_at "st"
    rw [List.length_map]
    refine dr hP fun a a0 a1=>?_
    walk_at "st"
    refine ⟨⟨a0,a1⟩,?_⟩
    rw [<- List.map_set]
    walk_at "st"
    exact r _ _ (hB.set hx _) (by rw [List.length_set];lia) (by lia)
   ·walk_at "st"
    exact r bk m hB (by lia) (by lia)
  ·walk_at "st"
   exact r bk m hB (by lia) (by lia)
 walk_at "st"
 refine dr hP fun t t0 t1=>?_
 walk_at "st"
 refine ⟨⟨by lia,by lia⟩,?_⟩
 rw [xH]
 refine zfo (List.range (1+t).toNat) (fun k:Nat=>W.d (.int (k:Int))) rfl (by rw [List.length_range];exact Nat.le_trans (by lia:_<=14) (by decide)) (fun i ρ' n' acc=>n'<=n+2+30 * i/\i<=(1+t).toNat/\∃ (v:Option W) (bk:List Wi),ρ'=[v,some (.pen p),some (.d (stD rm)),some (.d (.int way))]/\acc=bk.map zaV/\u4 rm bk/\bk.length=i) ⟨by lia,Nat.zero_le _,none,[],rfl,rfl,by intro x hx;simp at hx,rfl⟩ ?_ ?_
 ·rintro i k ρ' n' acc hk ⟨e,hi,v,bk,rfl,rfl,hB,c⟩ C hC
  have f:=(List.getElem?_eq_some_iff.mp hk).1
  rw [List.length_range] at f
  walk_at "st"
  refine zcp.i hP hR fun x m hx hm=>?_
  exact hC ⟨by lia,f,_,bk++[x],rfl,by rw [List.map_append];rfl,hB.app (fun y hy=>by rw [List.mem_singleton.mp hy];exact hx),by rw [List.length_append,c];rfl⟩
 ·rintro ρ' n' acc ⟨e,hi,v,bk,rfl,rfl,hB,c⟩
  rw [List.length_range] at c e
  walk_at "st"
  refine dr hP fun b b0 b1=>?_
  walk_at "st"
  rw [xN]
  have hc:=ug bk none (some b)
  refine ⟨by rw [List.length_map,List.length_map];exact Nat.le_trans (by lia:_<=100) (by decide),?_⟩
  rw [<- List.map_append]
  walk_at "st"
  exact r _ _ (hB.app (hB.cut _ _)) (by rw [List.length_append];lia) (by lia)
theorem zfM {st:List Int}{g:List (Int×Int)}(hg:∀ q∈g,0<=q.1/\q.1<st.length)(hl:g.length<=100){Q:W->Nat->Prop}{n:Nat}(h:∀ L:List Int,((Dt.lst (L.map Dt.int) = .lst [])↔yL st g=true)->Q (.d (.lst (L.map Dt.int))) n):zcS (eTp 2 (eCn (eN 0) (eCn (eN 1) eNl))) (zlm (zhC dNe (zhC znJ (zct 2) (zct 0)) (zct 1))) (zct 0) [none,none,some (.d (stD st))] Q ((g.map u9).map W.d) n:=by
 refine zam g (fun q=>.d (u9 q)) (by rw [List.map_map];rfl) (fun ρ=>∃ a b,ρ=[a,b,some (.d (stD st))]) (fun q=>!decide (zK st q.1=q.2)) (fun q=>.int q.1) (Nat.le_trans hl (by decide)) ⟨_,_,rfl⟩ ?_ ?_
 ·rintro q hq ρ' ⟨a,b,rfl⟩ C hY hN
  have hb:=hg q hq
  walk_at "st"
  refine onA hb.1 hb.2 ?_
  walk_at "st"
  refine zf5 (fun h=>?_) (fun h=>?_)
  ·exact hY (by rw [decide_eq_false h];rfl) ⟨_,_,rfl⟩
  ·exact hN (by rw [decide_eq_true h];rfl) ⟨_,_,rfl⟩
 ·have e1:(g.filter fun q=>!decide (zK st q.1=q.2)).map (fun q=>Dt.int q.1)=((g.filter fun q=>!decide (zK st q.1=q.2)).map (·.1)).map Dt.int:=by rw [List.map_map];rfl
  rw [e1]
  refine h _ ?_
  rw [yL,List.all_eq_true]
  constructor
  ·intro z q hq
   apply Classical.byContradiction
   intro hn
   have:q∈g.filter (fun q=>!decide (zK st q.1=q.2)):=List.mem_filter.mpr ⟨hq,by simpa using hn⟩
   have z':=List.map_eq_nil_iff.mp (List.map_eq_nil_iff.mp (Dt.lst.inj z))
   rw [z'] at this
   simp at this
  ·intro z
   have:g.filter (fun q=>!decide (zK st q.1=q.2))=[]:=List.filter_eq_nil_iff.mpr fun q hq=>by simpa using z q hq
   rw [this]
   rfl
def zcJ  : FV:=fun Pn ws n R=>∃ (rm:List Int) (bk:List Wi) (st hs:List Int),ws=[.d (ue bk),.d (stD st),.d (lsD hs)]/\(RoomOk rm)/\(u4 rm bk)/\(bk.length<=10000)/\(st.length=rm.length)/\(∀ l:List (List Int),(l=[]↔xa bk st hs=[])->R (.d (uA l)) n)
theorem zcJ.i  {Pn:Option zr} {n:Nat} {R:W->Nat->Prop} {rm:List Int} {bk:List Wi} {st hs:List Int} (hR:RoomOk rm) (hB:u4 rm bk) (hbl:bk.length<=10000) (hst:st.length=rm.length) (h:∀ l:List (List Int),(l=[]↔xa bk st hs=[])->R (.d (uA l)) n)  : zcJ Pn [.d (ue bk),.d (stD st),.d (lsD hs)] n R:=⟨rm,bk,st,hs,rfl,hR,hB,hbl,hst,h⟩
theorem zci (T:Txt K mg t):FnOk P w K mg base CX0 1 t.f20 t.d20 ["_law_book_here","_law_standing_here","_law_held"] (spV 3 true zcJ):=by
 refine Fun.okW (k:=0) (fr:=true) [3] 5 T.q20.F yt rfl (by decide) rfl fun v A outer s H E Pn hr=>⟨_,(zd (wS xR <| zbe (i:=3) yt.nd rfl (Or.inl rfl) zlM)
   (zd (x3 PassesOwn.never rfl (wI xx <| uI K rfl (kv 0)) (wG zad <| zae (n:=4) K rfl rfl (wH ye <| zy (wG zJ <| zk (i:=4) yt.nd rfl (Or.inl rfl)) (wH ye <| zy (wG zJ <| zk (i:=5) yt.nd rfl (Or.inl rfl)) (wH ye <| zy (wG zJ <| zk (i:=6) yt.nd rfl (Or.inl rfl)) (wH ye <| zy (wG zJ <| zk (i:=7) yt.nd rfl (Or.inl rfl)) (wH zac xO)))))) (zh (wS zH <| xf (JW.t (wW xQ <| zaf (wT zl <| zC zbi zfL (kb 5) (kb 2) (by with_unfolding_all rfl)) (uJ (.inl rfl) (wT zl <| zC zau zfb (JE.bo (ui yo xA (kb 1) (kb 5) (fun _ _=>rfl))) (kb 7) (zx _))))) (zh (wS zH <| xf (wT zl <| zC (zh0 hr.units) znr (JE.bo (y4 (N:=["_law_at","_law_worth","_law_standing_here"]) (cix:=[none,none,some 1]) rfl ⟨rfl,by decide +kernel,rfl⟩ (wI xx <| uI K rfl (kv 4)) (fun _ _ _ _=>(wG zad <| zae (n:=2) K rfl rfl (wH ye <| zy (wG zJ <| zk (i:=0) (show (["_law_at","_law_worth","_law_standing_here"]:List Str).Nodup by decide +kernel) rfl (Or.inl rfl)) (wH ye <| zy (wG zJ <| zk (i:=1) (show (["_law_at","_law_worth","_law_standing_here"]:List Str).Nodup by decide +kernel) rfl (Or.inl rfl)) (wH zac xO))))) (fun _ _ _ _=>(xP (wT zl <| zC zeZ znu (JE.bo (ui yo xA (kb 2) (kb 0) (fun _ _=>rfl))) (kb 1) (zx _)))) (fun _ _ _ _=>(kv 0)))) (JE.bo (uG ze)) (zx _)) (zh (wS zhE <| zjr 3 (zg9 hr) (JE.bo (x2 xy zak (JE.bo (x2 xy zak (JE.bo (wE za4 <| zf2 (kb 1) xb (wO yA <| xc (kb 5)))) (JE.bo (yJ (za (kv 6) ze))))) (JE.bo (wE za4 <| zf2 (kb 1) (wO yA <| xc (JE.bo (x2 yj uT (kb 5) (JE.bo zi)))) xb)))) zhk)) zG)) zG)))
   (zh (zD (zW zli znw (by rfl) T.b_sorted PyProof.Rows.boot_sorted (zg (JE.bo (yf (ziZ rfl) zns (by rfl) T.b_list PyProof.Rows.boot_list (zg (kb 3) zj))) zj)))))),fun ws n R hF=>?_⟩
 obtain ⟨rm,bk,st,hs,rfl,hR,hB,y,j,r⟩:=hF
 walk_at "st"
 have h8:=hR.few
 refine xD bk (fun x=>W.d (zaV x)) (by rw [List.map_map];rfl) (fun i ρ m=>m=n/\∃ (a:List (List Int×Dt)) (v4 v5 v6 v7:Option W),ρ=[some (.d (ue bk)),some (.d (stD st)),some (.d (lsD hs)),some (.dt a),v4,v5,v6,v7]/\(a=[]↔xa (bk.take i) st hs=[])/\(∀ z∈a.map (·.1),z∈xa (bk.take i) st hs)/\a.length<=i) ⟨rfl,[],_,_,_,_,rfl,by simp [xa],by simp,Nat.zero_le _⟩ ?_ ?_
 ·rintro i x ρ m hx ⟨rfl,a,v4,v5,v6,v7,rfl,c,f,p⟩ C B E hC _ _
  have hW:=hB x (List.mem_of_getElem? hx)
  have hi:=(List.getElem?_eq_some_iff.mp hx).1
  have l:=hW.b0
  have D:=hW.b1
  have h:(za2 st x&&!hs.contains x.b)=false->∀ v4 v5 v6 v7,C [some (.d (ue bk)),some (.d (stD st)),some (.d (lsD hs)),some (.dt a),v4,v5,v6,v7] m:=fun hg v4 v5 v6 v7=>by
   have e:xa (bk.take (i+1)) st hs=xa (bk.take i) st hs:=by rw [zn hx,zcu,hg];simp
   exact hC ⟨rfl,a,_,_,_,_,rfl,by rw [e];exact c,by rw [e];exact f,by lia⟩
  have u:∀ q∈x.g,0<=q.1/\q.1<st.length:=fun q hq=>by
   have:=hW.giv.ok q hq
   rw [j]
   exact ⟨this.1,this.2.1⟩
  walk_at "st"
  refine ⟨hs,rfl,?_⟩
  walk_at "st"
  refine zhX (fun hh=>?_) (fun hh=>⟨h (by rw [hh];simp) _ _ _ _⟩)
  walk_at "st"
  refine onA l (by lia) ?_
  walk_at "st"
  refine xS (fun hw=>?_) (fun hw=>⟨h ?_ _ _ _ _⟩)
  ·walk_at "st"
   refine zfM u (zcX hW.giv h8) fun L hL=>?_
   walk_at "st"
   refine ⟨xl,xl (ns:=[]),fun b hb=>?_⟩
   walk_at "st"
   refine zjH (fun hk=>?_) (fun hk=>⟨h ?_ _ _ _ _⟩)
   ·have hk:=hL.mp (hb.mp hk)
    walk_at "st"
    have hg:(za2 st x&&!hs.contains x.b)=true:=by
     unfold za2
     rw [decide_eq_true hw,hk,hh];rfl
    have e:xa (bk.take (i+1)) st hs=xa (bk.take i) st hs++[chg st x.b x.r]:=by rw [zn hx,zcu,if_pos hg]
    refine ⟨zcQ (by lia),?_⟩
    walk_at "st"
    refine ⟨zcR (by lia),?_⟩
    rw [zeu l (by lia)]
    refine ⟨_,rfl,Nat.lt_of_le_of_lt (by lia:_<=10000) (by decide),hC ⟨rfl,_,_,_,_,_,rfl,?_,fun z hz=>?_,?_⟩⟩
    ·rw [e]
     constructor
     ·intro z;exact absurd z (zpi _ _ _)
     ·intro z;simp at z
    ·rw [e]
     rcases zjZ hz with rfl | z
     ·exact List.mem_append_right _ (by simp)
     ·exact List.mem_append_left _ (f _ z)
    ·have:=zmH a (chg st x.b x.r) (.bl true)
     lia
   ·have hk:yL st x.g=false:=by
     cases hz:yL st x.g with
     | false=>rfl
     | true=>rw [hb.mpr (hL.mpr hz)] at hk;cases hk
    unfold za2
    rw [hk]
    simp
  ·unfold za2
   rw [decide_eq_false hw]
   simp
 ·rintro ρ m ⟨rfl,a,v4,v5,v6,v7,rfl,c,f,p⟩
  rw [List.take_length] at c f
  walk_at "st"
  intro nd
  walk_at "st"
  refine ⟨a.map (·.1),rm.length,rfl,?_,hR.pos,fun z hz=>zbH hB j z (f z hz),nd,fun o hp _=>r o ?_⟩
  ·have:=zdS (st:=st) (hs:=hs) hB h8 hR.box nd f
   lia
  ·rw [<- c]
   constructor
   ·intro z;rw [z] at hp;exact List.map_eq_nil_iff.mp (List.nil_perm.mp hp)
   ·intro z;rw [z] at hp;exact List.perm_nil.mp hp
def ziN (K:PySem.W.Frag):FV:=fun Pn ws n R=>∃ (p:Addr) (rm:List Int),ws=[.pen p,.d (stD rm)]/\(xM K Pn p)/\(n+40<=1000000)/\(RoomOk rm)/\(∀ g m,Giv rm g->m<=n+20->R (.d (zcW g)) m)
theorem ziN.i {K:PySem.W.Frag}{Pn:Option zr}{n:Nat}{R:W->Nat->Prop}{p:Addr}{rm:List Int}(hP:xM K Pn p)(hR:RoomOk rm)(h:∀ g m,Giv rm g->m<=n+20->R (.d (zcW g)) m)(hn:n+40<=1000000:=by lia):ziN K Pn [.pen p,.d (stD rm)] n R:=⟨p,rm,rfl,hP,hn,hR,h⟩
theorem zat (T:Txt K mg t):FnOk P w K mg base CX0 2 t.f21 t.d21 ["_law_pen_here","_law_room_here"] (spV 2 false (ziN K)):=by
 have G1:=zB (P:=P) (w:=w) (base:=base) T
 refine Fun.okW (k:=1) (fr:=false) [] 1 T.q21.F xK rfl (by decide) rfl fun j A outer s H E Pn hr=>⟨_,(zd (wS zu <| zA (i:=2) xK.nd rfl (Or.inr rfl) (ui yn zaa (JE.bo (uG (za zi (za zi (za zi (za zi (za zi ze))))))) (JE.bo (wE zm <| yz T.q1 G1 hr (za (kv 0) (za zi ze)))) (fun _ _=>rfl)))
   (zh (zD (yf zM xU (by rfl) T.b_tuple PyProof.Rows.boot_tuple (zg (JE.bo (y4 (N:=["_law_box","_law_pen_here","_law_room_here","_law_rare"]) (cix:=[none,some 0,some 1,some 2]) rfl ⟨rfl,by decide +kernel,rfl⟩ (wI yS <| zX rfl T.b_range (zg (JE.bo (zW yv uC (by rfl) T.b_len PySem.boot_len (zg (kb 1) zj))) zj)) (fun _ _ _ _=>(wG zJ <| zk (i:=0) (show (["_law_box","_law_pen_here","_law_room_here","_law_rare"]:List Str).Nodup by decide +kernel) rfl (Or.inl rfl))) (fun _ _ _ _=>(xP (wT zl <| zC zau zfb (JE.bo (wE zm <| yz T.q1 G1 hr (za (kv 1) (za (kv 3) ze)))) (JE.bo zi) (zx _)))) (fun _ _ _ _=>(yJ (za (kv 0) (za (wE zm <| yz T.q1 G1 hr (za (kv 1) (za (ui yo xA (kb 2) (kb 0) (fun _ _=>rfl)) ze))) ze)))))) zj))))),fun ws n R hF=>?_⟩
 obtain ⟨p,rm,rfl,hP,hn,hR,r⟩:=hF
 walk_at "st"
 have h8:=hR.few
 refine dr hP fun a a0 a1=>?_
 walk_at "st"
 refine zhW a0 a1 fun x hx=>?_
 obtain ⟨ra,rfl,l,m⟩:∃ ra:Int,x = .int ra/\1<=ra/\ra<=9:=by
  simp only [List.mem_cons,List.not_mem_nil,or_false] at hx
  rcases hx with rfl | rfl | rfl | rfl | rfl <;> exact ⟨_,rfl,by decide,by decide⟩
 walk_at "st"
 rw [List.length_map]
 refine ⟨⟨by lia,by lia⟩,?_⟩
 rw [Int.toNat_natCast,xH]
 refine zfo (List.range rm.length) (fun k:Nat=>W.d (.int (k:Int))) rfl (by rw [List.length_range];exact Nat.le_trans h8 (by decide)) (fun i ρ' n' acc=>n'<=n+1+2 * i/\i<=rm.length/\∃ (v:Option W) (g:List (Int×Int)),ρ'=[v,some (.pen p),some (.d (stD rm)),some (.d (.int ra))]/\acc=g.map u9/\Giv rm g/\(∀ q∈g,q.1<(i:Int))) ⟨by lia,Nat.zero_le _,none,[],rfl,rfl,⟨by simp,.nil⟩,by simp⟩ ?_ ?_
 ·rintro i k ρ' n' acc hk ⟨f,hi,v,g,rfl,rfl,hG,c⟩ C hC
  obtain ⟨e,h⟩:=List.getElem?_eq_some_iff.mp hk
  rw [List.length_range] at e
  rw [List.getElem_range] at h
  subst h
  have o:=yN hR.box (b:=(i:Int)) (by lia) (by lia)
  walk_at "st"
  refine dr hP fun t t0 t1=>?_
  walk_at "st"
  refine xS (fun hc=>?_) (fun hc=>?_)
  ·walk_at "st"
   refine onA (by lia) (by lia) ?_
   walk_at "st"
   refine dr hP fun u u0 u1=>?_
   refine hC ⟨by lia,e,_,g++[((i:Int),u)],rfl,by rw [List.map_append];rfl,hG.snoc c (by lia) (by lia) u0 u1,fun q hq=>?_⟩
   rcases List.mem_append.mp hq with z | z
   ·have:=c q z;lia
   ·rw [List.mem_singleton.mp z];show (i:Int)<((i+1:Nat):Int);lia
  ·exact hC ⟨by lia,e,_,g,rfl,rfl,hG,fun q hq=>by have:=c q hq;lia⟩
 ·rintro ρ' n' acc ⟨f,hi,v,g,rfl,rfl,hG,c⟩
  rw [List.length_range] at f
  exact r g n' hG (by lia)
def zbt  : FV:=fun Pn ws n R=>∃ (st:List Int) (g:List (Int×Int)),ws=[.d (stD st),.d (zcW g)]/\(∀ q∈g,0<=q.1/\q.1<st.length)/\(g.length<=100)/\(R (.d (.bl (yL st g))) n)
theorem zbt.i  {Pn:Option zr} {n:Nat} {R:W->Nat->Prop} {st:List Int} {g:List (Int×Int)} (hg:∀ q∈g,0<=q.1/\q.1<st.length) (hl:g.length<=100) (h:R (.d (.bl (yL st g))) n)  : zbt Pn [.d (stD st),.d (zcW g)] n R:=⟨st,g,rfl,hg,hl,h⟩
theorem zcg (T:Txt K mg t):FnOk P w K mg base CX0 1 t.f22 t.d22 ["_law_standing_here","_law_given_here"] (spV 2 false zbt):=by
 refine Fun.okW (k:=0) (fr:=false) [] 0 T.q22.F zdp rfl (by decide) rfl fun a A outer s H E Pn hr=>⟨_,(zh (zD (zom (zh0 hr.units) znr (JE.bo (y4 (N:=["_law_box","_law_worth","_law_standing_here"]) (cix:=[none,none,some 0]) rfl ⟨rfl,by decide +kernel,rfl⟩ (wI xx <| uI K rfl (kv 1)) (fun _ _ _ _=>(wG zad <| zae (n:=2) K rfl rfl (wH ye <| zy (wG zJ <| zk (i:=0) (show (["_law_box","_law_worth","_law_standing_here"]:List Str).Nodup by decide +kernel) rfl (Or.inl rfl)) (wH ye <| zy (wG zJ <| zk (i:=1) (show (["_law_box","_law_worth","_law_standing_here"]:List Str).Nodup by decide +kernel) rfl (Or.inl rfl)) (wH zac xO))))) (fun _ _ _ _=>(xP (wT zl <| zC zeZ znu (JE.bo (ui yo xA (kb 2) (kb 0) (fun _ _=>rfl))) (kb 1) (zx _)))) (fun _ _ _ _=>(kv 0)))) (JE.bo (uG ze)) (zx _)))),fun ws n R hF=>?_⟩
 obtain ⟨st,g,rfl,hg,hl,r⟩:=hF
 walk_at "st"
 refine zfM hg hl fun L hL=>?_
 walk_at "st"
 refine ⟨xl,xl (ns:=[]),fun b hb=>?_⟩
 rw [show b=yL st g from Bool.eq_iff_iff.mpr (hb.trans hL)]
 exact r
def zav  : FV:=fun Pn ws n R=>∃ (rm:List Int) (bk:List Wi) (g:List (Int×Int)),ws=[.d (stD rm),.d (ue bk),.d (zcW g)]/\(RoomOk rm)/\(u4 rm bk)/\(bk.length<=10000)/\(Giv rm g)/\(R (.d (uA (zdE rm bk g))) n)
theorem zav.i  {Pn:Option zr} {n:Nat} {R:W->Nat->Prop} {rm:List Int} {bk:List Wi} {g:List (Int×Int)} (hR:RoomOk rm) (hB:u4 rm bk) (hbl:bk.length<=10000) (hG:Giv rm g) (h:R (.d (uA (zdE rm bk g))) n)  : zav Pn [.d (stD rm),.d (ue bk),.d (zcW g)] n R:=⟨rm,bk,g,rfl,hR,hB,hbl,hG,h⟩
theorem zce (T:Txt K mg t):FnOk P w K mg base CX0 2 t.f23 t.d23 ["_law_room_here","_law_book_here","_law_given_here"] (spV 3 true zav):=by
 have G9:=zbf (P:=P) (w:=w) (base:=base) T
 have G20:=zci (P:=P) (w:=w) (base:=base) T
 have G22:=zcg (P:=P) (w:=w) (base:=base) T
 refine Fun.okW (k:=1) (fr:=true) [] 2 T.q23.F uq rfl (by decide) rfl fun u A outer s H E Pn hr=>⟨_,(zd (wS zu <| zA (i:=3) uq.nd rfl (Or.inr rfl) (y4 (N:=["_law_box","_law_worth"]) (cix:=[none,none]) rfl ⟨rfl,by decide +kernel,rfl⟩ (wI xx <| uI K rfl (kv 2)) (fun _ _ _ _=>(wG zad <| zae (n:=2) K rfl rfl (wH ye <| zy (wG zJ <| zk (i:=0) (show (["_law_box","_law_worth"]:List Str).Nodup by decide +kernel) rfl (Or.inl rfl)) (wH ye <| zy (wG zJ <| zk (i:=1) (show (["_law_box","_law_worth"]:List Str).Nodup by decide +kernel) rfl (Or.inl rfl)) (wH zac xO))))) (fun _ _ _ _=>xg) (fun _ _ _ _=>(kv 0))))
   (zd (wS zu <| zhm (i:=4) (zbx (ix:=4) uq.nd rfl rfl (N:=["_law_one","_law_given_here"]) (cix:=[none,some 2]) rfl ⟨rfl,by decide +kernel,rfl⟩ (wI uL <| uH K rfl (wE zm <| yz T.q9 G9 hr (za (kv 0) ze))) (fun _ _ _ _=>(wG zJ <| zk (i:=0) (show (["_law_one","_law_given_here"]:List Str).Nodup by decide +kernel) rfl (Or.inl rfl))) (fun _ _ _ _=>(xP (wT zl <| zaD (JE.bo (wE zm <| yz T.q22 G22 hr (za (kv 0) (za (kv 1) ze))))))) (fun _ _ _ _=>(kv 0))))
   (zh (zD (y4 (N:=["_law_one","_law_book_here","_law_held"]) (cix:=[none,some 1,some 3]) rfl ⟨rfl,by decide +kernel,rfl⟩ (wI uL <| uH K rfl (kv 4)) (fun _ _ _ _=>(wG zJ <| zk (i:=0) (show (["_law_one","_law_book_here","_law_held"]:List Str).Nodup by decide +kernel) rfl (Or.inl rfl))) (fun _ _ _ _=>(xP (wT zl <| zC (zh0 hr.units) znr (JE.bo (wE zm <| yz T.q20 G20 hr (za (kv 1) (za (kv 0) (za (kv 2) ze))))) (JE.bo (uG ze)) (zx _)))) (fun _ _ _ _=>(kv 0))))))),fun ws n R hF=>?_⟩
 obtain ⟨rm,bk,g,rfl,hR,hB,o,hG,r⟩:=hF
 walk_at "st"
 have h8:=hR.few
 have f:=zcX hG h8
 refine zbd g (fun q=>.d (u9 q)) (by rw [List.map_map];rfl) (fun ρ=>∃ a b,ρ=[a,b]) (fun q=>.int q.1) (Nat.le_trans f (by decide)) ⟨_,_,rfl⟩ ?_ ?_
 ·rintro q hq ρ' ⟨a,b,rfl⟩ C hC
  exact hC ⟨_,_,rfl⟩
 ·walk_at "st"
  refine zdA.i (.inl rfl) hR.box h8 ?_
  walk_at "st"
  have j:(ud (rm.map zE)).length<=65536:=by rw [<- zho];exact zaE hR
  have m:∀ st∈ud (rm.map zE),st.length=rm.length:=fun st c=>by rw [zax _ _ c,List.length_map]
  refine zam (ud (rm.map zE)) (fun st=>.d (stD st)) (by rw [List.map_map];rfl) (fun ρ=>∃ v,ρ=[v,some (.d (zcW g))]) (fun st=>yL st g) stD (Nat.le_trans j (by decide)) ⟨_,rfl⟩ ?_ ?_
  ·rintro st c ρ' ⟨v,rfl⟩ C hY hN
   walk_at "st"
   refine zbt.i (fun q hq=>?_) f ?_
   ·have:=hG.ok q hq
    rw [m st c]
    exact ⟨this.1,this.2.1⟩
   ·walk_at "st"
    exact zjH (fun h=>hY h ⟨_,rfl⟩) (fun h=>hN h ⟨_,rfl⟩)
  ·rw [zbQ hG]
   walk_at "st"
   have hlen:=zbP hG
   refine zam (zbO rm g) (fun st=>.d (stD st)) (by rw [List.map_map];rfl) (fun ρ=>∃ v,ρ=[v,some (.d (ue bk)),some (.d (.lst (g.map fun q=>Dt.int q.1)))]) (fun st=>decide (xa bk st (g.map (·.1))=[])) stD (Nat.le_trans (zaE hR) (by decide)) ⟨_,rfl⟩ ?_ ?_
   ·rintro st c ρ' ⟨v,rfl⟩ C hY hN
    walk_at "st"
    have e0:(Dt.lst (g.map fun q=>Dt.int q.1))=lsD (g.map (·.1)):=by unfold lsD;rw [List.map_map];rfl
    rw [e0] at hY hN ⊢
    refine zcJ.i hR hB o (hlen st c) fun l p=>?_
    walk_at "st"
    refine ⟨zht l,zht [],fun b hb=>?_⟩
    walk_at "st"
    have e:b=decide (xa bk st (g.map (·.1))=[]):=by
     rw [Bool.eq_iff_iff,hb,decide_eq_true_iff,<- p]
     constructor
     ·intro z;exact List.map_eq_nil_iff.mp (Dt.lst.inj z)
     ·intro z;rw [z];rfl
    rw [e]
    exact zjH (fun h=>hY h ⟨_,rfl⟩) (fun h=>hN h ⟨_,rfl⟩)
   ·exact r
def zfT  : FV:=fun Pn ws n R=>∃ (sts:List (List Int)),ws=[.d (uA sts),.d (uA sts)]/\(∀ st∈sts,st.length<=8)/\(R (.d (.bl true)) n)
theorem zfT.i  {Pn:Option zr} {n:Nat} {R:W->Nat->Prop} {sts:List (List Int)} (h8:∀ st∈sts,st.length<=8) (h:R (.d (.bl true)) n)  : zfT Pn [.d (uA sts),.d (uA sts)] n R:=⟨sts,rfl,h8,h⟩
theorem zbp (T:Txt K mg t):FnOk P w K mg base CX0 1 t.f24 t.d24 ["_law_found","_law_due"] (spV 2 false zfT):=by
 refine Fun.okW (k:=0) (fr:=false) [] 2 T.q24.F xz rfl (by decide) rfl fun e A outer s H E Pn hr=>⟨_,(zd (wS zH <| xf (JW.t (wW zhI <| zlS (wT zas <| zbN (wT zl <| zaD (JE.bo (wE zc9 <| zc4 (by rfl) T.b_isinstance T.b_list (kb 0))))) (uJ (.inr rfl) (wT zl <| zC zeZ znu (JE.bo (zW yv uC (by rfl) T.b_len PySem.boot_len (zg (kb 0) zj))) (JE.bo (zW yv uC (by rfl) T.b_len PySem.boot_len (zg (kb 1) zj))) (zx _))))) (zh (zD zhk)) zG)
   (zd (x3 PassesOwn.never rfl (wI zjz <| zlO rfl T.b_zip (za (kv 0) (za (kv 1) ze))) (wG zad <| zae (n:=2) K rfl rfl (wH ye <| zy (wG zJ <| zk (i:=2) xz.nd rfl (Or.inl rfl)) (wH ye <| zy (wG zJ <| zk (i:=3) xz.nd rfl (Or.inl rfl)) (wH zac xO)))) (zd (wS zH <| xf (JW.t (wW zhI <| zlS (wT zas <| zbN (wT zl <| zaD (JE.bo (wE zc9 <| zcc (by rfl) T.b_isinstance T.b_tuple (kb 2))))) (uJ (.inr rfl) (wT zl <| zC (zkQ hr.units) zp6 (kb 2) (kb 3) (zx _))))) (zh (zD zhk)) zG)
   (zh (wS zH <| xf (wT zl <| zC (zkQ hr.units) zp6 (JE.bo (y4 (N:=["_law_worth"]) (cix:=[none]) rfl ⟨rfl,by decide +kernel,rfl⟩ (wI xx <| uI K rfl (kv 2)) (fun _ _ _ _=>(wG zJ <| zk (i:=0) (show (["_law_worth"]:List Str).Nodup by decide +kernel) rfl (Or.inl rfl))) (fun _ _ _ _=>(xP (JW.t (wW zhI <| zlS (wT zas <| zbN (wT zl <| zaD (JE.bo (wE zc9 <| zdW (by rfl) T.b_isinstance T.b_int (kb 0))))) (uJ (.inr rfl) (wT zl <| zaD (JE.bo (wE zc9 <| zc3 (by rfl) T.b_isinstance T.b_bool (kb 0))))))))) (fun _ _ _ _=>(kv 0)))) (JE.bo (uG ze)) (zx _)) (zh (zD zhk)) zG))))
   (zh (zD zhk)))),fun ws n R hF=>?_⟩
 obtain ⟨sts,rfl,h8,r⟩:=hF
 walk_at "st"
 refine zf5 (fun h=>absurd rfl h) (fun _=>?_)
 walk_at "st"
 rw [ziK]
 refine xD sts (fun st=>W.d (.tup [stD st,stD st])) rfl (fun i ρ m=>m=n/\∃ v2 v3,ρ=[some (.d (uA sts)),some (.d (uA sts)),v2,v3]) ⟨rfl,_,_,rfl⟩ ?_ ?_
 ·rintro i st ρ m c ⟨rfl,v2,v3,rfl⟩ C B E hC _ _
  have hl:=h8 st (List.mem_of_getElem? c)
  walk_at "st"
  refine ⟨zbG,zbG,fun b hb=>?_⟩
  rw [hb.mpr rfl]
  walk_at "st"
  walk_at "cf"
  refine zam st (fun i=>.d (.int i)) (by rw [List.map_map];rfl) (fun ρ=>∃ v,ρ=[v]) (fun _=>false) (fun i=>.int i) (Nat.le_trans hl (by decide)) ⟨_,rfl⟩ ?_ ?_
  ·rintro a ha ρ' ⟨v,rfl⟩ C hY hN
   exact hN rfl ⟨_,rfl⟩
  ·rw [List.filter_eq_nil_iff.mpr (fun _ _=>by simp)]
   walk_at "st"
   refine ⟨xl (ns:=[]),xl (ns:=[]),fun b hb=>?_⟩
   rw [hb.mpr rfl]
   walk_at "st"
   walk_at "cf"
   exact hC ⟨rfl,_,_,rfl⟩
 ·rintro ρ m ⟨rfl,v2,v3,rfl⟩
  walk_at "st"
  exact r
def zcK (K:PySem.W.Frag):FV:=fun Pn ws n R=>∃ (p:Addr) (rm:List Int),ws=[.pen p,.d (stD rm)]/\(xM K Pn p)/\(n+10<=1000000)/\(RoomOk rm)/\(∀ rm' m,RoomOk rm'->Wider rm rm'->m<=n+2->R (.d (stD rm')) m)
theorem zcK.i {K:PySem.W.Frag}{Pn:Option zr}{n:Nat}{R:W->Nat->Prop}{p:Addr}{rm:List Int}(hP:xM K Pn p)(hR:RoomOk rm)(h:∀ rm' m,RoomOk rm'->Wider rm rm'->m<=n+2->R (.d (stD rm')) m)(hn:n+10<=1000000:=by lia):zcK K Pn [.pen p,.d (stD rm)] n R:=⟨p,rm,rfl,hP,hn,hR,h⟩
theorem zcj (T:Txt K mg t):FnOk P w K mg base CX0 2 t.f25 t.d25 ["_law_pen_here","_law_room_here"] (spV 2 false (zcK K)):=by
 have G1:=zB (P:=P) (w:=w) (base:=base) T
 have G8:=uk (P:=P) (w:=w) (base:=base) T
 refine Fun.okW (k:=1) (fr:=false) [] 1 T.q25.F zaO rfl (by decide) rfl fun b A outer s H E Pn hr=>⟨_,(zd (wS zu <| zA (i:=2) zaO.nd rfl (Or.inl rfl) (wE zm <| yz T.q1 G1 hr (za (kv 0) (za (zW yv uC (by rfl) T.b_len PySem.boot_len (zg (kb 1) zj)) ze))))
   (zd (wS zH <| xf (JW.t (wW xQ <| zaf (wT zl <| zC zjK zr6 (JE.bo (ui yo xA (kb 1) (kb 2) (fun _ _=>rfl))) (JE.bo zi) (zx _)) (wW xQ <| zaf (wT zl <| zC zjJ zqG (JE.bo (x2 uy zki (JE.bo (x2 zbY zk7 (JE.bo (wE zm <| yz T.q8 G8 hr (za (kv 1) ze))) (JE.bo (ui yo xA (kb 1) (kb 2) (fun _ _=>rfl))))) (JE.bo (x2 yj uT (JE.bo (ui yo xA (kb 1) (kb 2) (fun _ _=>rfl))) (JE.bo zi))))) (JE.bo zi) (zx _)) (uJ (.inl rfl) (wT zl <| zC zf6 zqF (JE.bo (wE zm <| yz T.q1 G1 hr (za (kv 0) (za zi ze)))) (JE.bo zi) (zx _)))))) (zh (zD (x2 xy zak (JE.bo (x2 xy zak (JE.bo (wE za4 <| zf2 (kb 1) xb (wO yA <| xc (kb 2)))) (JE.bo (yJ (za (x2 yj uT (JE.bo (ui yo xA (kb 1) (kb 2) (fun _ _=>rfl))) (JE.bo zi)) ze))))) (JE.bo (wE za4 <| zf2 (kb 1) (wO yA <| xc (JE.bo (x2 yj uT (kb 2) (JE.bo zi)))) xb))))) zG)
   (zd (wS zH <| xf (JW.t (wW xQ <| zaf (wT zl <| zC zjK zr6 (JE.bo (zW yv uC (by rfl) T.b_len PySem.boot_len (zg (kb 1) zj))) (JE.bo zi) (zx _)) (uJ (.inl rfl) (wT zl <| zC zjJ zqG (JE.bo (wE zm <| yz T.q8 G8 hr (za (kv 1) ze))) (JE.bo zi) (zx _))))) (zh (zD (x2 xy zak (kb 1) (JE.bo (yJ (za zi ze)))))) zG)
   (zh (zD (kv 1)))))),fun ws n R hF=>?_⟩
 obtain ⟨p,rm,rfl,hP,hn,hR,r⟩:=hF
 walk_at "st"
 have h8:=hR.few
 have a:=hR.pos
 rw [List.length_map]
 refine dr hP fun box b0 b1=>?_
 have hm:=yN hR.box b0 b1
 walk_at "st"
 refine onA b0 b1 ?_
 walk_at "st"
 refine' zoC (n+2) _ (fun z6=>?_) ?_
 rotate_left
 ·refine xS (fun h4=>?_) (fun h4=>?_)
  ·walk_at "st"
   refine zbc.i (.inl rfl) hR.box ?_
   walk_at "st"
   refine onA b0 b1 ?_
   walk_at "st"
   refine ⟨⟨by lia,by lia⟩,?_⟩
   walk_at "st"
   refine onA b0 b1 ?_
   walk_at "st"
   refine ⟨.inr ⟨by lia,by lia⟩,?_⟩
   walk_at "st"
   refine xS (fun hs=>?_) (fun hs=>?_)
   ·walk_at "st"
    refine dr hP fun t t0 t1=>?_
    walk_at "st"
    refine xS (fun ht=>?_) (fun ht=>?_)
    ·obtain ⟨q1,q2⟩:=ziT hR b0 b1 h4
     walk_at "st"
     refine onA b0 b1 ?_
     walk_at "st"
     refine ⟨zcQ (by lia),?_⟩
     walk_at "st"
     refine ⟨zcR (by lia),?_⟩
     rw [zeu b0 (by lia)]
     exact r _ _ q1 q2 (by lia)
    ·walk_at "st"
     generalize hn1:n+1+1=n1
     exact z6 n1 (by lia)
   ·walk_at "st"
    generalize hn1:n+1=n1
    exact z6 n1 (by lia)
  ·walk_at "st"
   generalize hn1:n+1=n1
   exact z6 n1 (by lia)
 intro n1 h1
 have stay:=r rm n1 hR (Wider.refl rm) h1
 rw [List.length_map]
 refine xS (fun hl=>?_) (fun hl=>?_)
 ·walk_at "st"
  refine zbc.i (.inl rfl) hR.box ?_
  walk_at "st"
  refine xS (fun _=>?_) (fun _=>?_)
  ·obtain ⟨q1,q2⟩:=ziO hR (by lia)
   walk_at "st"
   refine ⟨zqp (by lia),?_⟩
   rw [znU]
   exact r _ _ q1 q2 h1
  ·walk_at "st"
   exact stay
 ·walk_at "st"
  exact stay
theorem zoG (T:Txt K mg t):FnOk P w K mg base CX0 6 t.f26 t.d26 ["_law_script"] (ziv K):=by
 have G7:=zhT (P:=P) (w:=w) (base:=base) T
 have G0:FnOk P w K mg base CX0 1 t.f0 t.d0 ["_law_script"] (zkf K):=zeV T
 have G1:=zB (P:=P) (w:=w) (base:=base) T
 have G10:=zdg (P:=P) (w:=w) (base:=base) T
 have G11:=za6 (P:=P) (w:=w) (base:=base) T
 have G19:=zde (P:=P) (w:=w) (base:=base) T
 have G21:=zat (P:=P) (w:=w) (base:=base) T
 have G23:=zce (P:=P) (w:=w) (base:=base) T
 have G24:=zbp (P:=P) (w:=w) (base:=base) T
 have G25:=zcj (P:=P) (w:=w) (base:=base) T
 refine zrA (k:=5) (r:=8) [8] T.q26.F zaj rfl rfl (by decide) fun z A outer s H E Pn hr=>⟨_,_,_,rfl,(uP (i:=1) zaj.nd rfl (Or.inl rfl) (zmN T.q0 G0 hr (z8 (qv 0) y8))),(zd (wS zu <| zA (i:=2) zaj.nd rfl (Or.inl rfl) (ui yn zaa (JE.bo (uG (za zi (za zi (za zi (za zi (za zi (za zi (za zi (za zi ze)))))))))) (JE.bo (wE zm <| yz T.q1 G1 hr (za (kv 1) (za zi ze)))) (fun _ _=>rfl)))
   (zd (wS zu <| zA (i:=3) zaj.nd rfl (Or.inl rfl) (wE zm <| yz T.q10 G10 hr (za (kv 1) (za (kv 2) ze))))
   (zd (wS zu <| zA (i:=4) zaj.nd rfl (Or.inl rfl) (wE zm <| yz T.q19 G19 hr (za (kv 1) (za (kv 3) ze))))
   (zd (x3 PassesOwn.never rfl (wI yS <| zX rfl T.b_range (zg (JE.bo (ui yn zaa (JE.bo (uG (za zi (za zi ze)))) (JE.bo (yf zlh zp4 (by rfl) T.b_int PyProof.Rows.boot_int (zg (JE.bo (zom zau zfb (kb 2) (JE.bo zi) (zx _))) zj))) (fun _ _=>rfl))) zj)) (wG zJ <| zk (i:=5) zaj.nd rfl (Or.inl rfl)) (zd (wS zu <| zA (i:=6) zaj.nd rfl (Or.inl rfl) (wE zm <| yz T.q21 G21 hr (za (kv 1) (za (kv 3) ze))))
   (zd (wS zu <| zA (i:=7) zaj.nd rfl (Or.inl rfl) (wE zm <| yz T.q23 G23 hr (za (kv 3) (za (kv 4) (za (kv 6) ze)))))
   (zd (wS xR <| zbe (i:=8) zaj.nd rfl (Or.inl rfl) (wE zm <| yz T.q7 G7 hr (za (kv 3) (za (kv 4) (za (kv 6) ze)))))
   (zd (wS zH <| xf (wT zas <| zbN (wT zl <| zaD (JE.bo (wE zl1 <| zrc T.q24 G24 hr (zg (kb 8) (zg (kb 7) zj)))))) (zh (zD zhk)) zG)
   (zd (wS zhB <| zkE 8 (wE zm <| yz T.q11 G11 hr (za (kv 1) (za (kv 3) ze))))
   (zd (wS zu <| zA (i:=9) zaj.nd rfl (Or.inl rfl) (wE zm <| yz T.q25 G25 hr (za (kv 1) (za (kv 3) ze))))
   (zd (wS zH <| xf (wT zas <| zbN (wT zl <| zaD (JE.bo (wE zm <| yz T.q24 G24 hr (za (wE zm <| yz T.q7 G7 hr (za (kv 9) (za (kv 4) (za (kv 6) ze)))) (za (wE zm <| yz T.q23 G23 hr (za (kv 9) (za (kv 4) (za (kv 6) ze)))) ze)))))) (zh (zD zhk)) zG)
   (zh (wS zH <| xf (wT zas <| zbN (wT zl <| zaD (JE.bo (wE zm <| yz T.q24 G24 hr (za (wE zm <| yz T.q7 G7 hr (za (kv 3) (za (kv 4) (za (kv 6) ze)))) (za (kv 7) ze)))))) (zh (zD zhk)) zG))))))))))
   (zh (zD zhk)))))),fun p c ns n o=>?_⟩
 have hP:xM K Pn p:=⟨c,ns,n,o⟩
 refine zpF ?_
 walk_at "st"
 refine dr hP fun a a0 a1=>?_
 walk_at "st"
 refine zhW a0 a1 fun x hx=>?_
 obtain ⟨most,rfl,e⟩:∃ most:Int,x = .int most/\(most=256\/most=64):=by
  simp only [List.mem_cons,List.not_mem_nil,or_false] at hx
  rcases hx with rfl | rfl | rfl | rfl | rfl | rfl | rfl | rfl <;> exact ⟨_,rfl,by decide⟩
 walk_at "st"
 refine zfe.i hP e fun rm m hR hp hm=>?_
 walk_at "st"
 refine zfd.i hP hR hp fun bk m2 hB D G=>?_
 have h8:=hR.few
 walk_at "st"
 refine zhW (by split <;> decide) (by split <;> decide) fun y hy=>?_
 obtain ⟨r,rfl,hr⟩:∃ r:Int,y = .int r/\(r=3\/r=1):=by
  simp only [List.mem_cons,List.not_mem_nil,or_false] at hy
  rcases hy with rfl | rfl <;> exact ⟨_,rfl,by decide⟩
 walk_at "st"
 refine ⟨⟨by lia,by lia⟩,zdQ (fun i ρ m'=>m'<=5100+100 * i/\i<=r.toNat/\∃ v5 v6 v7 v8 v9,ρ=[none,some (.pen p),some (.d (.int most)),some (.d (stD rm)),some (.d (ue bk)),v5,v6,v7,v8,v9]) ⟨by lia,Nat.zero_le _,_,_,_,_,_,rfl⟩ ?_ ?_⟩
 ·rintro i ρ m' hi ⟨q,u,v5,v6,v7,v8,v9,rfl⟩ C B E hC _ _
  walk_at "st"
  refine ziN.i hP hR fun g m3 hG I=>?_
  walk_at "st"
  refine zav.i hR hB (by lia) hG ?_
  walk_at "st"
  refine zaX.i hR hB hG ?_
  walk_at "st"
  have j:∀ st∈zdE rm bk g,st.length<=8:=fun st b=>by rw [zdF hG st b];exact h8
  refine zfT.i j ⟨rfl,?_⟩
  walk_at "st"
  refine zff.i hP hR fun st m4 b J=>?_
  walk_at "st"
  refine ⟨by rw [List.length_map];exact Nat.lt_of_le_of_lt (zgu (bk:=bk) (g:=g) hR) (by decide),?_⟩
  walk_at "st"
  refine zcK.i hP hR fun v m5 f hW L=>?_
  have l:u4 v bk:=fun x hx=>hW.wish (hB x hx)
  have h:=hW.giv hG
  walk_at "st"
  refine zaX.i f l h ?_
  walk_at "st"
  refine zav.i f l (by lia) h ?_
  walk_at "st"
  refine zfT.i (fun st b=>by rw [zdF h st b];exact f.few) ?_
  walk_at "st"
  refine zaX.i hR hB hG ?_
  walk_at "st"
  refine zfT.i j ?_
  walk_at "st"
  exact hC ⟨by lia,hi,_,_,_,_,_,rfl⟩
 ·rintro ρ m' ⟨q,u,v5,v6,v7,v8,v9,rfl⟩
  walk_at "st"
end
theorem znP {l:PySem.W.OpenLaw}{w:World}{K:PySem.W.Frag}{h:Heap}{mg:Str->Option Value}{fa f0 f1 f2 f3 f4 f5 f6 f7 f8 f9 f10 f11 f12 f13 f14 f15 f16 f17 f18 f19 f20 f21 f22 f23 f24 f25 f26:Addr}(X:K.In h)(G:h.Ns mainGlobals mg)(hfa:mg "law" = some (.ref fa))
  {od0 an0 od1 an1 od2 an2 od3 an3 od4 an4 od5 an5 od6 an6 od7 an7 od8 an8 od9 an9 od10 an10 od11 an11 od12 an12 od13 an13 od14 an14 od15 an15 od16 an16 od17 an17 od18 an18 od19 an19 od20 an20 od21 an21 od22 an22 od23 an23 od24 an24 od25 an25 od26 an26:Option Addr} {sl0 sl1 sl2 sl3 sl4 sl5 sl6 sl7 sl8 sl9 sl10 sl11 sl12 sl13 sl14 sl15 sl16 sl17 sl18 sl19 sl20 sl21 sl22 sl23 sl24 sl25 sl26:Array (Option Value)} {oc0 kV0 dc0 pm0 cd0 ct0 oc1 kV1 dc1 pm1 cd1 ct1 oc2 kV2 dc2 pm2 cd2 ct2 oc3 kV3 dc3 pm3 cd3 ct3 oc4 kV4 dc4 pm4 cd4 ct4 oc5 kV5 dc5 pm5 cd5 ct5 oc6 kV6 dc6 pm6 cd6 ct6 oc7 kV7 dc7 pm7 cd7 ct7 oc8 kV8 dc8 pm8 cd8 ct8 oc9 kV9 dc9 pm9 cd9 ct9 oc10 kV10 dc10 pm10 cd10 ct10 oc11 kV11 dc11 pm11 cd11 ct11 oc12 kV12 dc12 pm12 cd12 ct12 oc13 kV13 dc13 pm13 cd13 ct13 oc14 kV14 dc14 pm14 cd14 ct14 oc15 kV15 dc15 pm15 cd15 ct15 oc16 kV16 dc16 pm16 cd16 ct16 oc17 kV17 dc17 pm17 cd17 ct17 oc18 kV18 dc18 pm18 cd18 ct18 oc19 kV19 dc19 pm19 cd19 ct19 oc20 kV20 dc20 pm20 cd20 ct20 oc21 kV21 dc21 pm21 cd21 ct21 oc22 kV22 dc22 pm22 cd22 ct22 oc23 kV23 dc23 pm23 cd23 ct23 oc24 kV24 dc24 pm24 cd24 ct24 oc25 kV25 dc25 pm25 cd25 ct25 oc26 kV26 dc26 pm26 cd26 ct26:Value}
  (a0:PySem.W.nsIn K mainGlobals "_law_pen" = some (some (.ref f0))) (l0:K.lookup f0=some ⟨oc0,od0,.func (PySem.W.fnOf "_law_pen" "_law_pen" (zv xo) (zp xo) (zc xo) .none kV0 dc0 pm0 an0 cd0 ct0),sl0⟩) (c0:PySem.W.codeIn K cd0 "_law_pen" = true) (k0:PySem.W.keepIn K (.ref f0)=true)
  (a1:PySem.W.nsIn K mainGlobals "_law_take" = some (some (.ref f1))) (l1:K.lookup f1=some ⟨oc1,od1,.func (PySem.W.fnOf "_law_take" "_law_take" (zv yX) (zp yX) (zc yX) .none kV1 dc1 pm1 an1 cd1 ct1),sl1⟩) (c1:PySem.W.codeIn K cd1 "_law_take" = true) (k1:PySem.W.keepIn K (.ref f1)=true)
  (a2:PySem.W.nsIn K mainGlobals "combined" = some (some (.ref f2))) (l2:K.lookup f2=some ⟨oc2,od2,.func (PySem.W.fnOf "combined" "combined" (zv xp) (zp xp) (zc xp) .none kV2 dc2 pm2 an2 cd2 ct2),sl2⟩) (c2:PySem.W.codeIn K cd2 "combined" = true) (k2:PySem.W.keepIn K (.ref f2)=true)
  (a3:PySem.W.nsIn K mainGlobals "changed" = some (some (.ref f3))) (l3:K.lookup f3=some ⟨oc3,od3,.func (PySem.W.fnOf "changed" "changed" (zv x9) (zp x9) (zc x9) .none kV3 dc3 pm3 an3 cd3 ct3),sl3⟩) (c3:PySem.W.codeIn K cd3 "changed" = true) (k3:PySem.W.keepIn K (.ref f3)=true)
  (a4:PySem.W.nsIn K mainGlobals "keeps" = some (some (.ref f4))) (l4:K.lookup f4=some ⟨oc4,od4,.func (PySem.W.fnOf "keeps" "keeps" (zv zba) (zp zba) (zc zba) .none kV4 dc4 pm4 an4 cd4 ct4),sl4⟩) (c4:PySem.W.codeIn K cd4 "keeps" = true) (k4:PySem.W.keepIn K (.ref f4)=true)
  {dT5:Addr}
  (a5:PySem.W.nsIn K mainGlobals "betterings" = some (some (.ref f5))) (l5:K.lookup f5=some ⟨oc5,od5,.func (PySem.W.fnOf "betterings" "betterings" (zv yI) (zp yI) (zc yI) (.ref dT5) kV5 dc5 pm5 an5 cd5 ct5),sl5⟩) (c5:PySem.W.codeIn K cd5 "betterings" = true) (k5:PySem.W.keepIn K (.ref f5)=true)
  {dot5:Value} {dod5:Option Addr} {dn5:Nat} {dsl5:Array (Option Value)} (t5:K.lookup dT5=some ⟨dot5,dod5,.seq #[Value.none] dn5,dsl5⟩)
  (a6:PySem.W.nsIn K mainGlobals "keeping" = some (some (.ref f6))) (l6:K.lookup f6=some ⟨oc6,od6,.func (PySem.W.fnOf "keeping" "keeping" (zv ua) (zp ua) (zc ua) .none kV6 dc6 pm6 an6 cd6 ct6),sl6⟩) (c6:PySem.W.codeIn K cd6 "keeping" = true) (k6:PySem.W.keepIn K (.ref f6)=true)
  (a7:PySem.W.nsIn K mainGlobals "bests" = some (some (.ref f7))) (l7:K.lookup f7=some ⟨oc7,od7,.func (PySem.W.fnOf "bests" "bests" (zv za9) (zp za9) (zc za9) .none kV7 dc7 pm7 an7 cd7 ct7),sl7⟩) (c7:PySem.W.codeIn K cd7 "bests" = true) (k7:PySem.W.keepIn K (.ref f7)=true)
  (a8:PySem.W.nsIn K mainGlobals "_law_size" = some (some (.ref f8))) (l8:K.lookup f8=some ⟨oc8,od8,.func (PySem.W.fnOf "_law_size" "_law_size" (zv yW) (zp yW) (zc yW) .none kV8 dc8 pm8 an8 cd8 ct8),sl8⟩) (c8:PySem.W.codeIn K cd8 "_law_size" = true) (k8:PySem.W.keepIn K (.ref f8)=true)
  (a9:PySem.W.nsIn K mainGlobals "_law_all" = some (some (.ref f9))) (l9:K.lookup f9=some ⟨oc9,od9,.func (PySem.W.fnOf "_law_all" "_law_all" (zv xn) (zp xn) (zc xn) .none kV9 dc9 pm9 an9 cd9 ct9),sl9⟩) (c9:PySem.W.codeIn K cd9 "_law_all" = true) (k9:PySem.W.keepIn K (.ref f9)=true)
  (a10:PySem.W.nsIn K mainGlobals "_law_room" = some (some (.ref f10))) (l10:K.lookup f10=some ⟨oc10,od10,.func (PySem.W.fnOf "_law_room" "_law_room" (zv yV) (zp yV) (zc yV) .none kV10 dc10 pm10 an10 cd10 ct10),sl10⟩) (c10:PySem.W.codeIn K cd10 "_law_room" = true) (k10:PySem.W.keepIn K (.ref f10)=true)
  (a11:PySem.W.nsIn K mainGlobals "_law_standing" = some (some (.ref f11))) (l11:K.lookup f11=some ⟨oc11,od11,.func (PySem.W.fnOf "_law_standing" "_law_standing" (zv zZ) (zp zZ) (zc zZ) .none kV11 dc11 pm11 an11 cd11 ct11),sl11⟩) (c11:PySem.W.codeIn K cd11 "_law_standing" = true) (k11:PySem.W.keepIn K (.ref f11)=true)
  (a12:PySem.W.nsIn K mainGlobals "_law_given" = some (some (.ref f12))) (l12:K.lookup f12=some ⟨oc12,od12,.func (PySem.W.fnOf "_law_given" "_law_given" (zv yD) (zp yD) (zc yD) .none kV12 dc12 pm12 an12 cd12 ct12),sl12⟩) (c12:PySem.W.codeIn K cd12 "_law_given" = true) (k12:PySem.W.keepIn K (.ref f12)=true)
  (a13:PySem.W.nsIn K mainGlobals "_law_wish" = some (some (.ref f13))) (l13:K.lookup f13=some ⟨oc13,od13,.func (PySem.W.fnOf "_law_wish" "_law_wish" (zv yY) (zp yY) (zc yY) .none kV13 dc13 pm13 an13 cd13 ct13),sl13⟩) (c13:PySem.W.codeIn K cd13 "_law_wish" = true) (k13:PySem.W.keepIn K (.ref f13)=true)
  (a14:PySem.W.nsIn K mainGlobals "_law_turned" = some (some (.ref f14))) (l14:K.lookup f14=some ⟨oc14,od14,.func (PySem.W.fnOf "_law_turned" "_law_turned" (zv yr) (zp yr) (zc yr) .none kV14 dc14 pm14 an14 cd14 ct14),sl14⟩) (c14:PySem.W.codeIn K cd14 "_law_turned" = true) (k14:PySem.W.keepIn K (.ref f14)=true)
  (a15:PySem.W.nsIn K mainGlobals "_law_full" = some (some (.ref f15))) (l15:K.lookup f15=some ⟨oc15,od15,.func (PySem.W.fnOf "_law_full" "_law_full" (zv yU) (zp yU) (zc yU) .none kV15 dc15 pm15 an15 cd15 ct15),sl15⟩) (c15:PySem.W.codeIn K cd15 "_law_full" = true) (k15:PySem.W.keepIn K (.ref f15)=true)
  (a16:PySem.W.nsIn K mainGlobals "_law_snake" = some (some (.ref f16))) (l16:K.lookup f16=some ⟨oc16,od16,.func (PySem.W.fnOf "_law_snake" "_law_snake" (zv yF) (zp yF) (zc yF) .none kV16 dc16 pm16 an16 cd16 ct16),sl16⟩) (c16:PySem.W.codeIn K cd16 "_law_snake" = true) (k16:PySem.W.keepIn K (.ref f16)=true)
  (a17:PySem.W.nsIn K mainGlobals "_law_row_book" = some (some (.ref f17))) (l17:K.lookup f17=some ⟨oc17,od17,.func (PySem.W.fnOf "_law_row_book" "_law_row_book" (zv zY) (zp zY) (zc zY) .none kV17 dc17 pm17 an17 cd17 ct17),sl17⟩) (c17:PySem.W.codeIn K cd17 "_law_row_book" = true) (k17:PySem.W.keepIn K (.ref f17)=true)
  (a18:PySem.W.nsIn K mainGlobals "_law_ranked" = some (some (.ref f18))) (l18:K.lookup f18=some ⟨oc18,od18,.func (PySem.W.fnOf "_law_ranked" "_law_ranked" (zv yq) (zp yq) (zc yq) .none kV18 dc18 pm18 an18 cd18 ct18),sl18⟩) (c18:PySem.W.codeIn K cd18 "_law_ranked" = true) (k18:PySem.W.keepIn K (.ref f18)=true)
  (a19:PySem.W.nsIn K mainGlobals "_law_book" = some (some (.ref f19))) (l19:K.lookup f19=some ⟨oc19,od19,.func (PySem.W.fnOf "_law_book" "_law_book" (zv yT) (zp yT) (zc yT) .none kV19 dc19 pm19 an19 cd19 ct19),sl19⟩) (c19:PySem.W.codeIn K cd19 "_law_book" = true) (k19:PySem.W.keepIn K (.ref f19)=true)
  (a20:PySem.W.nsIn K mainGlobals "_law_steps" = some (some (.ref f20))) (l20:K.lookup f20=some ⟨oc20,od20,.func (PySem.W.fnOf "_law_steps" "_law_steps" (zv yG) (zp yG) (zc yG) .none kV20 dc20 pm20 an20 cd20 ct20),sl20⟩) (c20:PySem.W.codeIn K cd20 "_law_steps" = true) (k20:PySem.W.keepIn K (.ref f20)=true)
  (a21:PySem.W.nsIn K mainGlobals "_law_some_given" = some (some (.ref f21))) (l21:K.lookup f21=some ⟨oc21,od21,.func (PySem.W.fnOf "_law_some_given" "_law_some_given" (zv zO) (zp zO) (zc zO) .none kV21 dc21 pm21 an21 cd21 ct21),sl21⟩) (c21:PySem.W.codeIn K cd21 "_law_some_given" = true) (k21:PySem.W.keepIn K (.ref f21)=true)
  (a22:PySem.W.nsIn K mainGlobals "_law_keeps" = some (some (.ref f22))) (l22:K.lookup f22=some ⟨oc22,od22,.func (PySem.W.fnOf "_law_keeps" "_law_keeps" (zv yE) (zp yE) (zc yE) .none kV22 dc22 pm22 an22 cd22 ct22),sl22⟩) (c22:PySem.W.codeIn K cd22 "_law_keeps" = true) (k22:PySem.W.keepIn K (.ref f22)=true)
  (a23:PySem.W.nsIn K mainGlobals "_law_bests" = some (some (.ref f23))) (l23:K.lookup f23=some ⟨oc23,od23,.func (PySem.W.fnOf "_law_bests" "_law_bests" (zv yC) (zp yC) (zc yC) .none kV23 dc23 pm23 an23 cd23 ct23),sl23⟩) (c23:PySem.W.codeIn K cd23 "_law_bests" = true) (k23:PySem.W.keepIn K (.ref f23)=true)
  (a24:PySem.W.nsIn K mainGlobals "_law_is_list" = some (some (.ref f24))) (l24:K.lookup f24=some ⟨oc24,od24,.func (PySem.W.fnOf "_law_is_list" "_law_is_list" (zv yc) (zp yc) (zc yc) .none kV24 dc24 pm24 an24 cd24 ct24),sl24⟩) (c24:PySem.W.codeIn K cd24 "_law_is_list" = true) (k24:PySem.W.keepIn K (.ref f24)=true)
  (a25:PySem.W.nsIn K mainGlobals "_law_wider" = some (some (.ref f25))) (l25:K.lookup f25=some ⟨oc25,od25,.func (PySem.W.fnOf "_law_wider" "_law_wider" (zv yH) (zp yH) (zc yH) .none kV25 dc25 pm25 an25 cd25 ct25),sl25⟩) (c25:PySem.W.codeIn K cd25 "_law_wider" = true) (k25:PySem.W.keepIn K (.ref f25)=true)
  (a26:PySem.W.nsIn K mainGlobals "law" = some (some (.ref f26))) (l26:K.lookup f26=some ⟨oc26,od26,.func (PySem.W.fnOf "law" "law" (zv zgd) (zp zgd) (zc zgd) .none kV26 dc26 pm26 an26 cd26 ct26),sl26⟩) (c26:PySem.W.codeIn K cd26 "law" = true) (k26:PySem.W.keepIn K (.ref f26)=true)
  (z_dict:PySem.W.nsIn K mainGlobals "dict" = some none)
  (z_sorted:PySem.W.nsIn K mainGlobals "sorted" = some none)
  (z_tuple:PySem.W.nsIn K mainGlobals "tuple" = some none)
  (z_range:PySem.W.nsIn K mainGlobals "range" = some none)
  (z_zip:PySem.W.nsIn K mainGlobals "zip" = some none)
  (z_len:PySem.W.nsIn K mainGlobals "len" = some none)
  (z_list:PySem.W.nsIn K mainGlobals "list" = some none)
  (z_abs:PySem.W.nsIn K mainGlobals "abs" = some none)
  (z_isinstance:PySem.W.nsIn K mainGlobals "isinstance" = some none)
  (z_int:PySem.W.nsIn K mainGlobals "int" = some none)
  (z_enumerate:PySem.W.nsIn K mainGlobals "enumerate" = some none)
  (z_bool:PySem.W.nsIn K mainGlobals "bool" = some none)
  : ∃ fd:FuncData,(∀ (s:Shared) (v:Value),BindsTo s fd ⟨[v],[]⟩ [("_law_script",v)])/\∀ base:Heap,K.In base->base.Ns mainGlobals mg->FnOk l.prog w K mg base CX0 6 fa fd ["_law_script"] (ziv K):=by
 have e:=hfa.symm.trans (PySem.W.mg_of X G a26)
 cases e
 have F0:=z5 (st:=xo) l0 c0 k0
 have b0:=F0.binds (ps:=["_law_script"]) fun _ _ _ _ _ _ us hl=>match us,hl with | [_],_=>rfl
 have F1:=z5 (st:=yX) l1 c1 k1
 have b1:=F1.binds (ps:=["_law_pen_here","_law_most"]) fun _ _ _ _ _ _ us hl=>match us,hl with | [_,_],_=>rfl
 have F2:=z5 (st:=xp) l2 c2 k2
 have b2:=F2.binds (ps:=["choices"]) fun _ _ _ _ _ _ us hl=>match us,hl with | [_],_=>rfl
 have F3:=z5 (st:=x9) l3 c3 k3
 have b3:=F3.binds (ps:=["standing","box","worth"]) fun _ _ _ _ _ _ us hl=>match us,hl with | [_,_,_],_=>rfl
 have F4:=z5 (st:=zba) l4 c4 k4
 have b4:=F4.binds (ps:=["standing","given"]) fun _ _ _ _ _ _ us hl=>match us,hl with | [_,_],_=>rfl
 have F5:=zly (st:=yI) l5 c5 k5
 have b5:=zko l5 (ps:=["room","book","standing","held"]) (ds:=[]) rfl t5 fun us hl=>match us,hl with | [_,_,_,_],_=>⟨_,rfl,rfl⟩
 have e5:=zko l5 (ps:=["room","book","standing","held"]) (ds:=[Value.none]) rfl t5 fun us hl=>match us,(show us.length=3 by rw [List.length_append] at hl;exact Nat.succ.inj hl) with | [_,_,_],_=>⟨_,rfl,rfl⟩
 have F6:=z5 (st:=ua) l6 c6 k6
 have b6:=F6.binds (ps:=["room","given"]) fun _ _ _ _ _ _ us hl=>match us,hl with | [_,_],_=>rfl
 have F7:=z5 (st:=za9) l7 c7 k7
 have b7:=F7.binds (ps:=["room","book","given"]) fun _ _ _ _ _ _ us hl=>match us,hl with | [_,_,_],_=>rfl
 have F8:=z5 (st:=yW) l8 c8 k8
 have b8:=F8.binds (ps:=["_law_room_here"]) fun _ _ _ _ _ _ us hl=>match us,hl with | [_],_=>rfl
 have F9:=z5 (st:=xn) l9 c9 k9
 have b9:=F9.binds (ps:=["_law_room_here"]) fun _ _ _ _ _ _ us hl=>match us,hl with | [_],_=>rfl
 have F10:=z5 (st:=yV) l10 c10 k10
 have a:=F10.binds (ps:=["_law_pen_here","_law_most"]) fun _ _ _ _ _ _ us hl=>match us,hl with | [_,_],_=>rfl
 have F11:=z5 (st:=zZ) l11 c11 k11
 have b:=F11.binds (ps:=["_law_pen_here","_law_room_here"]) fun _ _ _ _ _ _ us hl=>match us,hl with | [_,_],_=>rfl
 have F12:=z5 (st:=yD) l12 c12 k12
 have c:=F12.binds (ps:=["_law_pen_here","_law_room_here","_law_box"]) fun _ _ _ _ _ _ us hl=>match us,hl with | [_,_,_],_=>rfl
 have F13:=z5 (st:=yY) l13 c13 k13
 have d:=F13.binds (ps:=["_law_pen_here","_law_room_here","_law_way"]) fun _ _ _ _ _ _ us hl=>match us,hl with | [_,_,_],_=>rfl
 have F14:=z5 (st:=yr) l14 c14 k14
 have f:=F14.binds (ps:=["_law_pen_here","_law_some"]) fun _ _ _ _ _ _ us hl=>match us,hl with | [_,_],_=>rfl
 have F15:=z5 (st:=yU) l15 c15 k15
 have g:=F15.binds (ps:=["_law_one","_law_other"]) fun _ _ _ _ _ _ us hl=>match us,hl with | [_,_],_=>rfl
 have F16:=z5 (st:=yF) l16 c16 k16
 have i:=F16.binds (ps:=["_law_room_here"]) fun _ _ _ _ _ _ us hl=>match us,hl with | [_],_=>rfl
 have F17:=z5 (st:=zY) l17 c17 k17
 have j:=F17.binds (ps:=["_law_pen_here","_law_room_here"]) fun _ _ _ _ _ _ us hl=>match us,hl with | [_,_],_=>rfl
 have F18:=z5 (st:=yq) l18 c18 k18
 have k:=F18.binds (ps:=["_law_pen_here","_law_room_here"]) fun _ _ _ _ _ _ us hl=>match us,hl with | [_,_],_=>rfl
 have F19:=z5 (st:=yT) l19 c19 k19
 have m:=F19.binds (ps:=["_law_pen_here","_law_room_here"]) fun _ _ _ _ _ _ us hl=>match us,hl with | [_,_],_=>rfl
 have F20:=z5 (st:=yG) l20 c20 k20
 have n:=F20.binds (ps:=["_law_book_here","_law_standing_here","_law_held"]) fun _ _ _ _ _ _ us hl=>match us,hl with | [_,_,_],_=>rfl
 have F21:=z5 (st:=zO) l21 c21 k21
 have o:=F21.binds (ps:=["_law_pen_here","_law_room_here"]) fun _ _ _ _ _ _ us hl=>match us,hl with | [_,_],_=>rfl
 have F22:=z5 (st:=yE) l22 c22 k22
 have p:=F22.binds (ps:=["_law_standing_here","_law_given_here"]) fun _ _ _ _ _ _ us hl=>match us,hl with | [_,_],_=>rfl
 have F23:=z5 (st:=yC) l23 c23 k23
 have q:=F23.binds (ps:=["_law_room_here","_law_book_here","_law_given_here"]) fun _ _ _ _ _ _ us hl=>match us,hl with | [_,_,_],_=>rfl
 have F24:=z5 (st:=yc) l24 c24 k24
 have r:=F24.binds (ps:=["_law_found","_law_due"]) fun _ _ _ _ _ _ us hl=>match us,hl with | [_,_],_=>rfl
 have F25:=z5 (st:=yH) l25 c25 k25
 have t:=F25.binds (ps:=["_law_pen_here","_law_room_here"]) fun _ _ _ _ _ _ us hl=>match us,hl with | [_,_],_=>rfl
 have F26:=z5 (st:=zgd) l26 c26 k26
 have u:=F26.binds (ps:=["_law_script"]) fun _ _ _ _ _ _ us hl=>match us,hl with | [_],_=>rfl
 have T:Txt K mg ⟨f0,_,f1,_,f2,_,f3,_,f4,_,f5,_,f6,_,f7,_,f8,_,f9,_,f10,_,f11,_,f12,_,f13,_,f14,_,f15,_,f16,_,f17,_,f18,_,f19,_,f20,_,f21,_,f22,_,f23,_,f24,_,f25,_,fa,_⟩:=⟨⟨F0,b0,PySem.W.mg_of X G a0⟩,⟨F1,b1,PySem.W.mg_of X G a1⟩,⟨F2,b2,PySem.W.mg_of X G a2⟩,⟨F3,b3,PySem.W.mg_of X G a3⟩,⟨F4,b4,PySem.W.mg_of X G a4⟩,⟨F5,b5,e5,PySem.W.mg_of X G a5⟩,⟨F6,b6,PySem.W.mg_of X G a6⟩,⟨F7,b7,PySem.W.mg_of X G a7⟩,⟨F8,b8,PySem.W.mg_of X G a8⟩,⟨F9,b9,PySem.W.mg_of X G a9⟩,⟨F10,a,PySem.W.mg_of X G a10⟩,⟨F11,b,PySem.W.mg_of X G a11⟩,⟨F12,c,PySem.W.mg_of X G a12⟩,⟨F13,d,PySem.W.mg_of X G a13⟩,⟨F14,f,PySem.W.mg_of X G a14⟩,⟨F15,g,PySem.W.mg_of X G a15⟩,⟨F16,i,PySem.W.mg_of X G a16⟩,⟨F17,j,PySem.W.mg_of X G a17⟩,⟨F18,k,PySem.W.mg_of X G a18⟩,⟨F19,m,PySem.W.mg_of X G a19⟩,⟨F20,n,PySem.W.mg_of X G a20⟩,⟨F21,o,PySem.W.mg_of X G a21⟩,⟨F22,p,PySem.W.mg_of X G a22⟩,⟨F23,q,PySem.W.mg_of X G a23⟩,⟨F24,r,PySem.W.mg_of X G a24⟩,⟨F25,t,PySem.W.mg_of X G a25⟩,⟨F26,u,PySem.W.mg_of X G a26⟩,PySem.W.mg_none_of X G z_dict,PySem.W.mg_none_of X G z_sorted,PySem.W.mg_none_of X G z_tuple,PySem.W.mg_none_of X G z_range,PySem.W.mg_none_of X G z_zip,PySem.W.mg_none_of X G z_len,PySem.W.mg_none_of X G z_list,PySem.W.mg_none_of X G z_abs,PySem.W.mg_none_of X G z_isinstance,PySem.W.mg_none_of X G z_int,PySem.W.mg_none_of X G z_enumerate,PySem.W.mg_none_of X G z_bool⟩
 exact ⟨_,fun s v=>.of_eq rfl,fun base _ _=>zoG T⟩
theorem walk {l:PySem.W.OpenLaw}{q:Program}{loose:List Str}{XP:(Str->Option Value)->Heap->Prop}{YP:World->Heap->Prop}{d:DefRec}{K:Params->PySem.W.Frag}(hn:l.most=some 63)(hdf:d.params.defaults=[])
  (hY:∀ (w:World) (h:Heap),YP w h->(K w.params).In h)
  (F:∀ (w:World) (mg:Str->Option Value) (fa:Addr) (h:Heap),(K w.params).In h->h.Ns mainGlobals mg->mg d.name=some (.ref fa)->
   ∃ fd:FuncData,(∀ (s:Shared) (u:Value),BindsTo s fd ⟨[u],[]⟩ [("_law_script",u)])/\∀ base:Heap,(K w.params).In base->base.Ns mainGlobals mg->FnOk l.prog w (K w.params) mg base CX0 6 fa fd ["_law_script"] (ziv (K w.params))) :
  PySem.W.WalkO q loose XP YP l.row.toRowW d [] (fun f vs=>PySem.call f vs):=
 L2.znG (n:=63) (k:=6) (x := "_law_script") (CX:=fun _=>CX0) (sp:=fun w=>ziv (K w.params)) hn (by decide) hdf ⟨rfl,by decide,by decide⟩ hY F (fun _ _ a ns hl _ hS=>⟨a,ns,rfl,hS,hl,fun _=>rfl⟩) fun _ _ _ _ _ z=>z
end Law
open PySem PySem.W PyProof.Rows
set_option maxRecDepth 100000 in
set_option maxHeartbeats 0 in
theorem PySem.Challenge.cw_allelse_k34_bests_of_any_book_holds : PySem.Challenge.rw_allelse_k34_bests_of_any_book.Holds := by
 w_on;o_law;k_head;(case hw=>w_witness2)
 k_fill
 refine Law.walk (l:=PySem.Challenge.rw_allelse_k34_bests_of_any_book) rfl rfl (fun w h Y=>PySem.W.kIn_of Y) ?F
 case F=>
  intro w mg fa h KX G a
  refine' Law.znP KX G a ?a0 ?l0 ?c0 ?k0 ?a1 ?l1 ?c1 ?k1 ?a2 ?l2 ?c2 ?k2 ?a3 ?l3 ?c3 ?k3 ?a4 ?l4 ?c4 ?k4 ?a5 ?l5 ?c5 ?k5 ?t5 ?a6 ?l6 ?c6 ?k6 ?a7 ?l7 ?c7 ?k7 ?a8 ?l8 ?c8 ?k8 ?a9 ?l9 ?c9 ?k9 ?a10 ?l10 ?c10 ?k10 ?a11 ?l11 ?c11 ?k11 ?a12 ?l12 ?c12 ?k12 ?a13 ?l13 ?c13 ?k13 ?a14 ?l14 ?c14 ?k14 ?a15 ?l15 ?c15 ?k15 ?a16 ?l16 ?c16 ?k16 ?a17 ?l17 ?c17 ?k17 ?a18 ?l18 ?c18 ?k18 ?a19 ?l19 ?c19 ?k19 ?a20 ?l20 ?c20 ?k20 ?a21 ?l21 ?c21 ?k21 ?a22 ?l22 ?c22 ?k22 ?a23 ?l23 ?c23 ?k23 ?a24 ?l24 ?c24 ?k24 ?a25 ?l25 ?c25 ?k25 ?a26 ?l26 ?c26 ?k26 ?z_dict ?z_sorted ?z_tuple ?z_range ?z_zip ?z_len ?z_list ?z_abs ?z_isinstance ?z_int ?z_enumerate ?z_bool
  (case a0=>k_is);(case l0=>k_is);(case c0=>k_is);(case k0=>k_is)
  (case a1=>k_is);(case l1=>k_is);(case c1=>k_is);(case k1=>k_is)
  (case a2=>k_is);(case l2=>k_is);(case c2=>k_is);(case k2=>k_is)
  (case a3=>k_is);(case l3=>k_is);(case c3=>k_is);(case k3=>k_is)
  (case a4=>k_is);(case l4=>k_is);(case c4=>k_is);(case k4=>k_is)
  (case a5=>k_is);(case l5=>k_is);(case c5=>k_is);(case k5=>k_is);(case t5=>k_is)
  (case a6=>k_is);(case l6=>k_is);(case c6=>k_is);(case k6=>k_is)
  (case a7=>k_is);(case l7=>k_is);(case c7=>k_is);(case k7=>k_is)
  (case a8=>k_is);(case l8=>k_is);(case c8=>k_is);(case k8=>k_is)
  (case a9=>k_is);(case l9=>k_is);(case c9=>k_is);(case k9=>k_is)
  (case a10=>k_is);(case l10=>k_is);(case c10=>k_is);(case k10=>k_is)
  (case a11=>k_is);(case l11=>k_is);(case c11=>k_is);(case k11=>k_is)
  (case a12=>k_is);(case l12=>k_is);(case c12=>k_is);(case k12=>k_is)
  (case a13=>k_is);(case l13=>k_is);(case c13=>k_is);(case k13=>k_is)
  (case a14=>k_is);(case l14=>k_is);(case c14=>k_is);(case k14=>k_is)
  (case a15=>k_is);(case l15=>k_is);(case c15=>k_is);(case k15=>k_is)
  (case a16=>k_is);(case l16=>k_is);(case c16=>k_is);(case k16=>k_is)
  (case a17=>k_is);(case l17=>k_is);(case c17=>k_is);(case k17=>k_is)
  (case a18=>k_is);(case l18=>k_is);(case c18=>k_is);(case k18=>k_is)
  (case a19=>k_is);(case l19=>k_is);(case c19=>k_is);(case k19=>k_is)
  (case a20=>k_is);(case l20=>k_is);(case c20=>k_is);(case k20=>k_is)
  (case a21=>k_is);(case l21=>k_is);(case c21=>k_is);(case k21=>k_is)
  (case a22=>k_is);(case l22=>k_is);(case c22=>k_is);(case k22=>k_is)
  (case a23=>k_is);(case l23=>k_is);(case c23=>k_is);(case k23=>k_is)
  (case a24=>k_is);(case l24=>k_is);(case c24=>k_is);(case k24=>k_is)
  (case a25=>k_is);(case l25=>k_is);(case c25=>k_is);(case k25=>k_is)
  (case a26=>k_is);(case l26=>k_is);(case c26=>k_is);(case k26=>k_is)
  (case z_dict=>k_is)
  (case z_sorted=>k_is)
  (case z_tuple=>k_is)
  (case z_range=>k_is)
  (case z_zip=>k_is)
  (case z_len=>k_is)
  (case z_list=>k_is)
  (case z_abs=>k_is)
  (case z_isinstance=>k_is)
  (case z_int=>k_is)
  (case z_enumerate=>k_is)
  (case z_bool=>k_is)
