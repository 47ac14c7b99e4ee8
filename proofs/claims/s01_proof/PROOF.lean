import PyProof.Rows.All
import Wide.All
import OpenK.AllK
import Wide.FinOn
import PyProof.EqAt
import PyProof.EqKinds
import PyProof.TupleCall
import KE.BitLaws
import Open.SpecLaws
import KE.OsHead
import KE.OsGo
import KE.SpHead
import KE.OsShapes
import KE.KTryDeep
import KE.KDictList
import PyVacfaa
import PyProof.AutoSeq1
import PyProof.SetRoads
import PyProof.Rows.SetFrom
import PySem.Challenge.RW_funsasvalues_s01_answers
set_option Elab.async false
set_option linter.all false
set_option maxRecDepth 100000
set_option maxHeartbeats 2000000
section
namespace L2
open PySem PySem.Spec PyProof.Rows
abbrev Key:=Sum Int Str
def keyIs:Key->Value->Bool
 |.inl k,v=>Value.isInt k v
 |.inr x,v=>Value.isStrOf x v
def keyH (w:World):Key->Int
 |.inl k=>hashInt k
 |.inr x=>hashStr w x
theorem keyIs_shape:∀{k:Key} {v:Value},keyIs k v=true->(∃i t,k=Sum.inl i/\v=Value.int i t)\/(∃x t,k=Sum.inr x/\v=Value.str x t)
 |.inl i,v,h=>by
  obtain⟨t,e⟩:=Value.isInt_shape (k:=i) (v:=v) h
  exact .inl ⟨i,t,rfl,e⟩
 |.inr x,v,h=>by
  obtain⟨t,e⟩:=Value.isStrOf_shape (x:=x) (v:=v) h
  exact .inr ⟨x,t,rfl,e⟩
theorem keyIs_int (i:Int) (t:Tok):keyIs (.inl i) (.int i t)=true:=by simp[keyIs,Value.isInt]
theorem keyIs_str (x:Str) (t:Tok):keyIs (.inr x) (.str x t)=true:=by simp[keyIs,Value.isStrOf]
theorem key_ll (a b:Int):decide ((Sum.inl a:Key)=Sum.inl b)=(a==b):=by
 by_cases e:a=b
 ·subst e;simp
 ·have h:¬ (Sum.inl a:Key)=Sum.inl b:=fun q=>e (Sum.inl.inj q)
  rw[decide_eq_false h]
  exact(beq_eq_false_iff_ne.mpr e).symm
theorem key_rr (a b:Str):decide ((Sum.inr a:Key)=Sum.inr b)=decide (a=b):=by
 by_cases e:a=b
 ·subst e;simp
 ·have h:¬ (Sum.inr a:Key)=Sum.inr b:=fun q=>e (Sum.inr.inj q)
  rw[decide_eq_false h,decide_eq_false e]
theorem key_lr (a:Int) (b:Str):decide ((Sum.inl a:Key)=Sum.inr b)=false:=decide_eq_false (fun q=>nomatch q)
theorem key_rl (a:Str) (b:Int):decide ((Sum.inr a:Key)=Sum.inl b)=false:=decide_eq_false (fun q=>nomatch q)
def mixKind (prog:Program) (w:World):PySem.KeyKind prog w Key where
 is:=keyIs
 hash:=keyH w
 inj:=fun v a b ha hb=>by
  rcases keyIs_shape ha with⟨i,t,rfl,rfl⟩|⟨x,t,rfl,rfl⟩
  ·rcases keyIs_shape hb with⟨j,u,rfl,e⟩|⟨y,u,rfl,e⟩
   ·injection e with e1 _;rw[e1]
   ·exact nomatch e
  ·rcases keyIs_shape hb with⟨j,u,rfl,e⟩|⟨y,u,rfl,e⟩
   ·exact nomatch e
   ·injection e with e1 _;rw[e1]
 byValue:=fun k v h=>by
  rcases keyIs_shape h with⟨i,t,rfl,rfl⟩|⟨x,t,rfl,rfl⟩<;>rfl
 pyHash:=fun hv h=>by
  rcases keyIs_shape hv with⟨i,t,rfl,rfl⟩|⟨x,t,rfl,rfl⟩
  ·exact wpAny_pyHash_int h
  ·exact wpAny_pyHash_str h
 eqBool:=fun hu hv h=>by
  rcases keyIs_shape hu with⟨i,t,rfl,rfl⟩|⟨x,t,rfl,rfl⟩
  ·rcases keyIs_shape hv with⟨j,u,rfl,rfl⟩|⟨y,u,rfl,rfl⟩
   ·rw[key_ll]at h;exact wpAny_eqBool_int h
   ·rw[key_lr]at h;exact SeqAt.EqAt.int_str i t y u _ _ _ _ h
  ·rcases keyIs_shape hv with⟨j,u,rfl,rfl⟩|⟨y,u,rfl,rfl⟩
   ·rw[key_rl]at h;exact SeqAt.EqAt.str_int x t j u _ _ _ _ h
   ·rw[key_rr]at h;exact wpAny_eqBool_str h
 «strs»:=fun k x t v h=>by
  rcases keyIs_shape h with⟨i,u,rfl,e⟩|⟨y,u,rfl,e⟩
  ·exact nomatch e
  ·injection e with e1 _
   subst e1
   cases v<;>rfl
theorem mixKind_int (prog:Program) (w:World) (i:Int) (t:Tok):(mixKind prog w).is (.inl i) (.int i t)=true:=keyIs_int i t
theorem mixKind_str (prog:Program) (w:World) (x:Str) (t:Tok):(mixKind prog w).is (.inr x) (.str x t)=true:=keyIs_str x t
end L2
namespace L2
open PySem PySem.Spec PyProof.Rows
inductive V where
 |non|bl (b:Bool)|int (i:Int)|str (x:Str)|byt (b:Array UInt8)|flt (b:UInt64)|ref (a:Addr)|ty (n:String)
 deriving DecidableEq
def RelV:V->Value->Prop
 |.non,u=>u=Value.none
 |.bl b,u=>u=Value.bool b
 |.int i,u=>∃t,u=Value.int i t
 |.str x,u=>∃t,u=Value.str x t
 |.byt b,u=>∃t,u=Value.bytes b t
 |.flt b,u=>∃t,u=Value.float b t
 |.ref a,u=>u=Value.ref a
 |.ty n,u=>u=Value.type n
abbrev Vals:List V->List Value->Prop:=Paired RelV
theorem Vals.length {xs:List V} {us:List Value} (r:Vals xs us):xs.length=us.length:=Paired.length r
theorem Vals.get:∀{xs:List V} {us:List Value} {i:Nat} {x:V},Vals xs us->xs[i]?=some x->∃u,us[i]?=some u/\RelV x u
 |_,_,_,_,.nil,e=>by simp at e
 |_,_,0,_,.cons r _,e=>by simp at e;subst e;exact⟨_,rfl,r⟩
 |_,_,i+1,x,.cons _ t,e=>by
  obtain⟨u,h1,h2⟩:=Vals.get (i:=i) (x:=x) t (by simpa using e)
  exact⟨u,by simpa using h1,h2⟩
theorem Vals.append:∀{xs ys:List V} {us ws:List Value},Vals xs us->Vals ys ws->Vals (xs++ys) (us++ws)
 |_,_,_,_,.nil,s=>s
 |_,_,_,_,.cons r t,s=>.cons r (Vals.append t s)
theorem Vals.take:∀{xs:List V} {us:List Value} (n:Nat),Vals xs us->Vals (xs.take n) (us.take n)
 |_,_,0,_=>.nil
 |_,_,_+1,.nil=>.nil
 |_,_,n+1,.cons r t=>.cons r (Vals.take n t)
theorem Vals.drop:∀{xs:List V} {us:List Value} (n:Nat),Vals xs us->Vals (xs.drop n) (us.drop n)
 |_,_,0,r=>r
 |_,_,_+1,.nil=>.nil
 |_,_,n+1,.cons _ t=>Vals.drop n t
def RelO:Option V->Option Value->Prop
 |some v,some u=>RelV v u
 |none,none=>True
 |_,_=>False
def KV {κ:Type}:List (κ×V)->List (κ×Value)->Prop:=Paired fun(p:κ×V) (q:κ×Value)=>p.1=q.1/\RelV p.2 q.2
def kV:Key->V
 |.inl i=>.int i
 |.inr x=>.str x
inductive HO where
 |lst (xs:List V)
 |tup (xs:List V)
 |dK (kvs:List (Key×V))|dT (kvs:List (List Key×V))
 |set (S:Int->Bool) (n:Nat)
 |ins (C dx:Addr) (fs:List (Str×V))
 |own (x:Addr)
 |xd (fs:List (Str×V))
 |met (f x:Addr)
 |rng (lo hi:Int)
 |frz (o:Obj) (u:HO)
 |tbl (ps:Array Value)
 |ext (φ:Heap->Prop)
abbrev Hp:=Addr->Option HO
def upd (H:Hp) (a:Addr) (o:HO):Hp:=fun b=>if b=a then some o else H b
theorem upd_same {H:Hp} {a:Addr} {o:HO}:upd H a o a=some o:=by unfold upd;rw[if_pos rfl]
theorem upd_ne {H:Hp} {a b:Addr} {o:HO} (h:b≠a):upd H a o b=H b:=by unfold upd;rw[if_neg h]
theorem upd_upd {H:Hp} {a:Addr} {o u:HO}:upd (upd H a o) a u=upd H a u:=by
 funext b;unfold upd;split<;>rfl
theorem ne_of {H:Hp} {a b:Addr} {o u:HO} (h:H a=some o) (h':H b=some u) (d:o≠u):a≠b:=by
 intro e;subst e;rw[h]at h';exact d (Option.some.inj h')
theorem ne_of_none {H:Hp} {a b:Addr} {o:HO} (h:H a=some o) (h':H b=none):a≠b:=by
 intro e;subst e;rw[h]at h';cases h'
section
variable (P:Program) (w:World)
def ObjOk (H:Hp) (h:Heap) (a:Addr):HO->Prop
 |.lst xs=>xs.length<=sizeLine/\∃(its:List Value) (n:Nat),Vals xs its/\h.get? a=some {cls:=.type "list",data:=.seq its.toArray n}
 |.tup xs=>xs.length<=sizeLine/\∃its:List Value,Vals xs its/\IsTup h a its.toArray
 |.dK kvs=>kvs.length<=sizeLine/\(a==sysModules)=false/\∃vs,KV kvs vs/\h.DictOf (mixKind P w) a vs
 |.dT kvs=>kvs.length<=sizeLine/\(a==sysModules)=false/\∃xs:List (List Key×Addr×Value),
   Paired (fun(p:List Key×V) (q:List Key×Addr×Value)=>p.1=q.1/\H q.2.1=some (.tup (p.1.map kV))/\RelV p.2 q.2.2) kvs xs /\
   ∃o es ep,h.get? a=some o/\o.ExactDict/\o.data=.dict es ep/\es.toList=xs.map (entryOfKey (tupleKind (mixKind P w)))/\(xs.map (·.1)).Nodup
 |.set S n=>h.SetOf (intKind P w) a S n
 |.ins C dx fs=>H dx=some (.own a)/\fs.length<=1000/\dx≠a/\h.get? a=some (PySem.W.instObj C dx) /\
   ∃mA,h.Ns1 dx mA/\(∀f,RelO (fs.lookup f) (mA f))/\PySem.Within mA (fs.map (·.1))
 |.own _=>∃o,h.get? a=some o
 |.xd fs=>∃mA,h.Ns1 a mA/\∀f,RelO (fs.lookup f) (mA f)
 |.rng lo hi=>∃t u v,h.get? a=some {cls:=.type "range",data:=.fields #[.int lo t,.int hi u,.int 1 v]}
 |.frz o u=>h.get? a=some o/\ObjOk H h a u
 |.tbl ps=>h.get? a=some {cls:=.none,data:=.fields ps}
 |.met f x=>h.get? a=some (PySem.W.methodObj (.ref f) (.ref x))
 |.ext φ=>φ h/\(∃o,h.get? a=some o)/\∀h1 h2:Heap,φ h1->(∀o,h1.get? a=some o->h2.get? a=some o)->φ h2
def HOk (H:Hp) (h:Heap):Prop:=∀a o,H a=some o->ObjOk P w H h a o
end
section
variable {P:Program} {w:World} {H H':Hp} {h h':Heap} {a:Addr} {o:HO}
theorem ObjOk.lt (x:ObjOk P w H h a o):a<h.objs.size:=by
 cases o with
 |lst xs=>obtain⟨_,_,_,_,e⟩:=x;exact Heap.lt_size e
 |tup xs=>obtain⟨_,_,_,p⟩:=x;exact p.lt
 |dK kvs=>obtain⟨_,_,_,_,o,_,_,e,_⟩:=x;exact Heap.lt_size e
 |dT kvs=>obtain⟨_,_,_,_,o,_,_,e,_⟩:=x;exact Heap.lt_size e
 |set S n=>obtain⟨o,_,_,_,e,_⟩:=x;exact Heap.lt_size e
 |ins C dx fs=>obtain⟨_,_,_,e,_⟩:=x;exact Heap.lt_size e
 |own y=>obtain⟨_,e⟩:=x;exact Heap.lt_size e
 |xd fs=>obtain⟨_,⟨_,_,_,e,_⟩,_⟩:=x;exact Heap.lt_size e
 |rng lo hi=>obtain⟨_,_,_,e⟩:=x;exact Heap.lt_size e
 |frz ob u=>obtain⟨e,_⟩:=x;exact Heap.lt_size e
 |tbl ps=>exact Heap.lt_size (show h.get? a=some _ from x)
 |met f y=>exact Heap.lt_size (show h.get? a=some _ from x)
 |ext φ=>obtain⟨_,⟨_,e⟩,_⟩:=x;exact Heap.lt_size e
theorem Paired.mapP {α β:Type} {F G:α->β->Prop}:∀{l₁:List α} {l₂:List β},Paired F l₁ l₂->(∀a b,F a b->G a b)->Paired G l₁ l₂
 |_,_,.nil,_=>.nil
 |_,_,.cons r t,f=>.cons (f _ _ r) (Paired.mapP t f)
theorem ObjOk.stay (x:ObjOk P w H h a o) (k:∀b u,(b=a\/H b=some (.own a))->h.get? b=some u->h'.get? b=some u)
  (ho:∀b,H b=some (.own a)->H' b=some (.own a)) (ht:∀b xs,H b=some (.tup xs)->H' b=some (.tup xs)):ObjOk P w H' h' a o:=by
 induction o with
 |lst xs=>obtain⟨z,its,n,r,e⟩:=x;exact⟨z,its,n,r,k _ _ (.inl rfl) e⟩
 |tup xs=>obtain⟨z,its,r,ob,e,c⟩:=x;exact⟨z,its,r,ob,k _ _ (.inl rfl) e,c⟩
 |dK kvs=>obtain⟨z,y,vs,r,ob,es,ep,e,c⟩:=x;exact⟨z,y,vs,r,ob,es,ep,k _ _ (.inl rfl) e,c⟩
 |dT kvs=>
  obtain⟨z,y,xs,r,ob,es,ep,e,c⟩:=x
  exact⟨z,y,xs,Paired.mapP r fun p q z=>⟨z.1,ht _ _ z.2.1,z.2.2⟩,ob,es,ep,k _ _ (.inl rfl) e,c⟩
 |set S n=>obtain⟨ob,es,ep,t,e,c⟩:=x;exact⟨ob,es,ep,t,k _ _ (.inl rfl) e,c⟩
 |ins C dx fs=>
  obtain⟨d,z,ne,e,mA,⟨od,es,ep,e2,c⟩,r⟩:=x
  exact⟨ho _ d,z,ne,k _ _ (.inl rfl) e,mA,⟨od,es,ep,k _ _ (.inr d) e2,c⟩,r⟩
 |own y=>obtain⟨ob,e⟩:=x;exact⟨ob,k _ _ (.inl rfl) e⟩
 |xd fs=>obtain⟨mA,⟨od,es,ep,e,c⟩,r⟩:=x;exact⟨mA,⟨od,es,ep,k _ _ (.inl rfl) e,c⟩,r⟩
 |rng lo hi=>obtain⟨t,u,v,e⟩:=x;exact⟨t,u,v,k _ _ (.inl rfl) e⟩
 |frz ob u ih=>obtain⟨e,q⟩:=x;exact⟨k _ _ (.inl rfl) e,ih q⟩
 |tbl ps=>
  have e:h.get? a=some {cls:=.none,data:=.fields ps}:=x
  show h'.get? a=some {cls:=.none,data:=.fields ps}
  exact k a _ (.inl rfl) e
 |met f y=>
  have e:h.get? a=some (PySem.W.methodObj (.ref f) (.ref y)):=x
  show h'.get? a=some (PySem.W.methodObj (.ref f) (.ref y))
  exact k a _ (.inl rfl) e
 |ext φ=>obtain⟨p,⟨o,e⟩,st⟩:=x;exact⟨st _ _ p fun o q=>k _ _ (.inl rfl) q,⟨o,k _ _ (.inl rfl) e⟩,st⟩
theorem HOk.lt (x:HOk P w H h) (e:H a=some o):a<h.objs.size:=(x a o e).lt
theorem HOk.fresh (x:HOk P w H h) (e:h.objs.size<=a):H a=none:=by
 cases q:H a with
 |none=>rfl
 |some u=>exact absurd (Nat.lt_of_lt_of_le (x.lt q) e) (Nat.lt_irrefl _)
theorem HOk.kept (x:HOk P w H h) (k:∀b u,h.get? b=some u->h'.get? b=some u):HOk P w H h':=fun a o e=>
 (x a o e).stay (fun b u _ q=>k b u q) (fun _ q=>q) fun _ _ q=>q
theorem HOk.laid (x:HOk P w H h) (k:∀b u,h.get? b=some u->h'.get? b=some u) (hp:h.objs.size<=a) (new:ObjOk P w (upd H a o) h' a o):HOk P w (upd H a o) h':=fun b u e=>by
 have hn:=x.fresh hp
 by_cases hb:b=a
 ·subst hb;rw[upd_same]at e;cases e;exact new
 ·rw[upd_ne hb]at e
  exact(x b u e).stay (fun c v _ q=>k c v q) (fun c q=>by rw[upd_ne (ne_of_none q hn)];exact q) fun c xs q=>by rw[upd_ne (ne_of_none q hn)];exact q
end
def Rd (H:Hp) (a:Addr) (u:HO):Prop:=H a=some u\/∃o,H a=some (.frz o u)
theorem Rd.ok {P:Program} {w:World} {H:Hp} {h:Heap} {a:Addr} {u:HO} (r:Rd H a u) (x:HOk P w H h):ObjOk P w H h a u:=by
 rcases r with r|⟨o,r⟩
 ·exact x a u r
 ·obtain⟨_,q⟩:=x a _ r
  exact q
def Mut:Option HO->Prop
 |some (.lst _)=>True
 |some (.dK _)=>True
 |some (.dT _)=>True
 |some (.set _ _)=>True
 |some (.ins _ _ _)=>True
 |some (.ext _)=>True
 |_=>False
section
variable {P:Program} {w:World} {H:Hp} {h h':Heap} {x e:Addr} {o':HO}
theorem HOk.write (ok:HOk P w H h) (mu:Mut (H x)) (he:e=x\/H e=some (.own x)) (k:∀b u,b≠e->h.get? b=some u->h'.get? b=some u) (heo:∃u,h'.get? e=some u)
  (new:ObjOk P w (upd H x o') h' x o'):HOk P w (upd H x o') h':=fun b u q=>by
 have nown:∀c y,H c=some (.own y)->c≠x:=fun c y r z=>by subst z;rw[r]at mu;exact mu
 have ntup:∀c xs,H c=some (.tup xs)->c≠x:=fun c xs r z=>by subst z;rw[r]at mu;exact mu
 by_cases hb:b=x
 ·subst hb;rw[upd_same]at q;cases q;exact new
 ·rw[upd_ne hb]at q
  by_cases hbe:b=e
  ·have q':H b=some (.own x):=by
    rcases he with z|z
    ·exact absurd (hbe.trans z) hb
    ·rw[hbe];exact z
   rw[q]at q';cases q'
   obtain⟨v,hv⟩:=heo
   exact⟨v,by rw[hbe];exact hv⟩
  ·refine(ok b u q).stay (fun c v hc r=>k c v ?_ r) (fun c r=>by rw[upd_ne (nown c b r)];exact r) fun c xs r=>by rw[upd_ne (ntup c xs r)];exact r
   rcases hc with rfl|hc
   ·exact hbe
   ·rintro rfl
    rcases he with z|z
    ·exact nown c b hc z
    ·rw[hc]at z;cases z;exact hb rfl
end
structure Un (fs ex:List Addr) (H H':Hp) (h h':Heap):Prop where
 keep:∀b o,h.get? b=some o->H b=none->b ∉ fs->b ∉ ex->h'.get? b=some o
 slot:∀b o,h.get? b=some o->H b=none->b∈fs->b ∉ ex->∃sl,h'.get? b=some {o with slots:=sl}
 free:∀b o,h.get? b=some o->H b=none->b ∉ ex->H' b=none
 there:∀b o,h.get? b=some o->b ∉ ex->∃o',h'.get? b=some o'
 tups:∀b xs,H b=some (.tup xs)->H' b=some (.tup xs)
 frzs:∀b o u,H b=some (.frz o u)->H' b=some (.frz o u)
 tbls:∀b ps,H b=some (.tbl ps)->∃more,H' b=some (.tbl (ps++more))
section
variable {fs fs' ex ex':List Addr} {H H1 H2:Hp} {h h1 h2 h':Heap} {a x e:Addr} {o:HO}
theorem Un.any (u:Un fs ex H H1 h h1) {b:Addr} {ob:Obj} (q:h.get? b=some ob) (n:H b=none) (hx:b ∉ ex):∃sl,h1.get? b=some {ob with slots:=sl}:=by
 by_cases hb:b∈fs
 ·exact u.slot b ob q n hb hx
 ·exact⟨ob.slots,u.keep b ob q n hb hx⟩
theorem Un.kept (k:∀b u,h.get? b=some u->h'.get? b=some u):Un fs ex H H h h':=
 ⟨fun b ob q _ _ _=>k b ob q,fun b ob q _ _ _=>⟨ob.slots,k b ob q⟩,fun _ _ _ n _=>n,fun b ob q _=>⟨ob,k b ob q⟩,fun _ _ q=>q,fun _ _ _ q=>q,fun _ ps q=>⟨#[],by rw[q];simp⟩⟩
theorem Un.refl:Un fs ex H H h h:=Un.kept fun _ _ q=>q
theorem Un.laid (k:∀b u,h.get? b=some u->h'.get? b=some u) (hp:h.objs.size<=a) (hn:H a=none):Un fs ex H (upd H a o) h h' where
 keep:=fun b u q _ _ _=>k b u q
 slot:=fun b u q _ _ _=>⟨u.slots,k b u q⟩
 free:=fun b u q n _=>by rw[upd_ne (Nat.ne_of_lt (Nat.lt_of_lt_of_le (Heap.lt_size q) hp))];exact n
 there:=fun b u q _=>⟨u,k b u q⟩
 tups:=fun b xs q=>by rw[upd_ne (ne_of_none q hn)];exact q
 frzs:=fun b u xs q=>by rw[upd_ne (ne_of_none q hn)];exact q
 tbls:=fun b ps q=>⟨#[],by rw[upd_ne (ne_of_none q hn),q];simp⟩
theorem Un.write (mu:Mut (H x)) (he:e=x\/H e=some (.own x)) (k:∀b u,b≠e->h.get? b=some u->h'.get? b=some u) (heo:∃u,h'.get? e=some u):Un fs ex H (upd H x o) h h':=by
 have hx:∀b,H b=none->b≠x:=fun b n z=>by subst z;rw[n]at mu;exact mu
 have hb:∀b,H b=none->b≠e:=fun b n z=>by
  subst z
  rcases he with r|r
  ·exact hx b n r
  ·rw[n]at r;cases r
 have hm:∀b u,H b=some u->¬ Mut (some u)->b≠x:=fun b u q nm z=>by subst z;rw[q]at mu;exact nm mu
 refine⟨fun b u q n _ _=>k b u (hb b n) q,fun b u q n _ _=>⟨u.slots,k b u (hb b n) q⟩,fun b u q n _=>by rw[upd_ne (hx b n)];exact n,fun b u q _=>?_,
  fun b xs q=>by rw[upd_ne (hm b _ q fun z=>z)];exact q,fun b u xs q=>by rw[upd_ne (hm b _ q fun z=>z)];exact q,fun b ps q=>⟨#[],by rw[upd_ne (hm b _ q fun z=>z),q];simp⟩⟩
 by_cases hbe:b=e
 ·subst hbe;exact heo
 ·exact⟨u,k b u hbe q⟩
end
def trk (h:Heap) (H:Hp):List Addr:=(List.range h.objs.size).filter fun a=>(H a).isSome
def hidT (h:Heap) (H:Hp):Heap:=PySem.W.hideAll h (trk h H)
theorem hidT_size (h:Heap) (H:Hp):(hidT h H).objs.size=h.objs.size:=PySem.W.hideAll_size _ _
theorem hidT_get {h:Heap} {H:Hp} {b:Addr} {o:Obj} (e:h.get? b=some o) (n:H b=none):(hidT h H).get? b=some o:=
 PySem.W.hideAll_get _ e fun hm=>by
  have q:(H b).isSome=true:=(List.mem_filter.mp hm).2
  rw[n]at q;simp at q
theorem of_hidT {h:Heap} {H:Hp} {b:Addr} {o:Obj} (e:(hidT h H).get? b=some o):h.get? b=some o/\H b=none:=by
 have e':h.get? b=some o:=PySem.W.of_hideAll (trk h H) e
 refine⟨e',?_⟩
 cases q:H b with
 |none=>rfl
 |some x=>
  have hm:b∈trk h H:=List.mem_filter.mpr ⟨List.mem_range.mpr (Heap.lt_size e'),by simp[q]⟩
  have z:(hidT h H).get? b=none:=PySem.W.hideAll_none (trk h H) hm
  rw[z]at e;cases e
end L2
namespace L2
open PySem PySem.Spec PyProof.Rows
structure Mod (K:PySem.W.Frag) (mg:Str->Option Value) (base:Heap):Prop where
 kin:K.In base
 glob:base.Ns mainGlobals mg
 blt:∃mb,base.Ns builtinsNs mb/\∀x:Str,x≠"__name__"->mb x=bootBuiltins x
 nolimit:base.NoLimit
structure Cx where
 prog:Program
 w:World
 K:PySem.W.Frag
 mg:Str->Option Value
 base:Heap
 A:Around
 N:List Str
 s_0:Shared
 H_0:Hp
 env:Env
 outer:List Env
 stack:List Env
 ex:List Addr
 fn:Str->Bool
 calm:Bool
 pn:List (Addr×Obj)
 xe:Value->Shared->Prop
def frs (l:List Env):List Addr:=l.filterMap (·.frame)
abbrev Cx.fs (X:Cx):List Addr:=frs X.outer
def Vis (sc:Scope) (x:Str):Prop:=sc.names.lookup x=some .local\/sc.names.lookup x=some .cell\/sc.names.lookup x=some .free
def Loc (sc:Scope) (x:Str):Prop:=sc.names.lookup x=some .local\/sc.names.lookup x=some .cell
def Look (env:Env) (h:Heap) (m:Str->Option Value) (x:Str) (u:Value):Prop:=
 (env.kindOf x=some .local/\m x=some u)\/((env.kindOf x=some .cell\/env.kindOf x=some .free)/\∃c,env.cells.lookup x=some c/\h.IsCell c (some u))
structure Cx.Ok (X:Cx):Prop where
 mod:Mod X.K X.mg X.base
 kind:X.env.scope.kind=.function
 glob:X.env.globals=mainGlobals
 blt:X.env.builtins=builtinsNs
 above:X.s_0.heap.objs.size<=X.env.locals
 inj:∀x y c,X.env.cells.lookup x=some c->X.env.cells.lookup y=some c->x=y
 has:∀x,(X.env.kindOf x=some .cell\/X.env.kindOf x=some .free)->∃c,X.env.cells.lookup x=some c
 cab:∀x c,X.fn x=true->X.env.cells.lookup x=some c->X.s_0.heap.objs.size<=c
 hd:X.calm=true->X.A.handled=none
 frames:X.A.frames=some X.stack
 stk:X.stack=X.outer\/(X.stack=X.env::X.outer/\X.env.frame=some X.env.locals)
 exf:∀b∈X.ex,b≠X.env.locals/\∀x c,X.env.cells.lookup x=some c->c≠b
 bs:∀b o,X.base.get? b=some o->X.s_0.heap.get? b=some o/\X.H_0 b=none
 bsz:X.base.objs.size<=X.s_0.heap.objs.size
 noex:∀b o,X.base.get? b=some o->b ∉ X.ex
 exfs:∀b∈X.ex,b ∉ X.fs
 funs:X.s_0.heap.FunFrames X.base X.outer
 frf:∀b∈X.fs,X.H_0 b=none
structure Inv (X:Cx) (pins:List (Addr×Obj)) (σ:List (Option V)) (H:Hp) (s:Shared):Prop where
 ok:X.Ok
 os:s.os=X.s_0.os
 bare:AllBare s.gens
 base:Un X.fs X.ex X.H_0 H X.s_0.heap s.heap
 loc:∃m,s.heap.Ns X.env.locals m/\∀(i:Nat) (x:Str) (v:V),X.N[i]?=some x->σ[i]?=some (some v)->Vis X.env.scope x->∃u,RelV v u/\Look X.env s.heap m x u
 cell:∀x c,X.env.cells.lookup x=some c->∃v,s.heap.IsCell c v
 free:H X.env.locals=none
 freeC:∀x c,X.env.cells.lookup x=some c->H c=none
 pin:∀p∈X.pn++pins,s.heap.get? p.1=some p.2/\H p.1=none/\p.1≠X.env.locals/\p.1 ∉ X.fs/\∀v,p.2.data≠.cell v
 hok:HOk X.prog X.w H s.heap
 len:σ.length=X.N.length
section
variable {X:Cx} {pins:List (Addr×Obj)} {σ:List (Option V)} {H H':Hp} {s:Shared} {h':Heap}
theorem Cx.Ok.nofr (ok:X.Ok) {b:Addr} {o:Obj} (e:X.base.get? b=some o):b ∉ X.fs:=fun hb=>by
 have:=(ok.funs.mem hb).1
 rw[e]at this;cases this
theorem Inv.bs (I:Inv X pins σ H s):∀b o,X.base.get? b=some o->s.heap.get? b=some o/\H b=none:=fun b o e=>
 ⟨I.base.keep b o (I.ok.bs b o e).1 (I.ok.bs b o e).2 (I.ok.nofr e) (I.ok.noex b o e),I.base.free b o (I.ok.bs b o e).1 (I.ok.bs b o e).2 (I.ok.noex b o e)⟩
theorem Inv.bk (I:Inv X pins σ H s):∀b o,X.base.get? b=some o->s.heap.get? b=some o:=fun b o e=>(I.bs b o e).1
theorem Inv.mod (I:Inv X pins σ H s):Mod X.K X.mg X.base:=I.ok.mod
theorem Inv.kIn (I:Inv X pins σ H s):X.K.In s.heap:=I.ok.mod.kin.keeps I.bk
theorem Inv.fr (I:Inv X pins σ H s):∃m,Fr X.base X.env.locals s.heap m:=
 let⟨m,hn,_⟩:=I.loc
 ⟨m,hn,I.bk,Nat.le_trans I.ok.bsz I.ok.above⟩
theorem Inv.lt (I:Inv X pins σ H s):X.env.locals<s.heap.objs.size:=let⟨_,hn,_⟩:=I.loc;hn.lt
theorem Inv.sz (I:Inv X pins σ H s):X.s_0.heap.objs.size<=s.heap.objs.size:=Nat.le_trans I.ok.above (Nat.le_of_lt I.lt)
theorem Inv.nofs (I:Inv X pins σ H s) {a:Addr} (h:s.heap.objs.size<=a):a ∉ X.fs:=fun hb=>by
 obtain⟨_,o,ho,_⟩:=I.ok.funs.mem hb
 exact absurd (Nat.lt_of_lt_of_le (Heap.lt_size ho) (Nat.le_trans I.sz h)) (Nat.lt_irrefl _)
theorem Inv.cne (I:Inv X pins σ H s):∀x c,X.env.cells.lookup x=some c->c≠X.env.locals:=fun x c e z=>by
 obtain⟨v,o,ho,hd⟩:=I.cell x c e
 obtain⟨m,⟨o',es,ep,ho',hd',_⟩,_⟩:=I.loc
 rw[z,ho']at ho;cases ho;rw[hd']at hd;cases hd
theorem Inv.funs (I:Inv X pins σ H s):s.heap.FunFrames X.base X.outer:=by
 have all:∀(l:List Env),(∀b∈frs l,b∈X.fs)->X.s_0.heap.FunFrames X.base l->s.heap.FunFrames X.base l:=by
  intro l
  induction l with
  |nil=>intro _ _;trivial
  |cons env r ih=>
   intro hs hl
   obtain⟨hk,⟨L,o,hf,hn,ho,hd⟩,hr⟩:=hl
   have hL:L∈X.fs:=hs L (by unfold frs;rw[List.filterMap_cons,hf];exact List.mem_cons_self)
   obtain⟨sl,e⟩:=I.base.slot L o ho (I.ok.frf L hL) hL fun z=>I.ok.exfs L z hL
   exact⟨hk,⟨L,_,hf,hn,e,hd⟩,ih (fun b hb=>hs b (by unfold frs;rw[List.filterMap_cons,hf];exact List.mem_cons_of_mem _ hb)) hr⟩
 exact all X.outer (fun _ hb=>hb) I.ok.funs
theorem Inv.stack (I:Inv X pins σ H s):s.heap.FunFrames X.base X.stack:=by
 rcases I.ok.stk with e|⟨e,hf⟩
 ·rw[e];exact I.funs
 ·rw[e]
  obtain⟨m,hn,_⟩:=I.loc
  refine .cons (by rw[I.ok.kind];decide) hf hn ?_ I.funs
  exact Heap.get?_none_of_le (Nat.le_trans I.ok.bsz I.ok.above)
theorem Inv.stkSub (I:Inv X pins σ H s):∀b∈frs X.stack,b∈X.env.locals::X.fs:=fun b hb=>by
 rcases I.ok.stk with e|⟨e,hf⟩
 ·rw[e]at hb;exact List.mem_cons_of_mem _ hb
 ·rw[e]at hb
  unfold frs at hb
  rw[List.filterMap_cons,hf]at hb
  exact hb
theorem Inv.stkFree (I:Inv X pins σ H s):∀b∈frs X.stack,H b=none:=fun b hb=>by
 rcases List.mem_cons.mp (I.stkSub b hb)with e|hb
 ·rw[e];exact I.free
 ·obtain⟨_,o,ho,_⟩:=I.ok.funs.mem hb
  exact I.base.free b o ho (I.ok.frf b hb) fun z=>I.ok.exfs b z hb
theorem Inv.step {g':Array GenState} {t':Nat} {d':Drawn} {ch:List Addr} (I:Inv X pins σ H s)
  (hch:∀b∈ch,(b∈X.ex\/X.s_0.heap.objs.size<=b)/\b≠X.env.locals/\(∀x c,X.env.cells.lookup x=some c->c≠b)/\∀p∈X.pn++pins,p.1≠b)
  (keep:∀b o,b≠X.env.locals->b ∉ X.fs->b ∉ ch->s.heap.get? b=some o->H b=none->h'.get? b=some o)
  (slot:∀b o,b≠X.env.locals->b∈X.fs->b ∉ ch->s.heap.get? b=some o->H b=none->∃sl,h'.get? b=some {o with slots:=sl}) (free:∀b o,b ∉ ch->s.heap.get? b=some o->H b=none->H' b=none)
  (there:∀b o,b ∉ ch->s.heap.get? b=some o->∃o',h'.get? b=some o')
  (tups:∀b xs,H b=some (.tup xs)->H' b=some (.tup xs)) (frzs:∀b o u,H b=some (.frz o u)->H' b=some (.frz o u)) (tbls:∀b ps,H b=some (.tbl ps)->∃more,H' b=some (.tbl (ps++more)))
  (ns:∀m,s.heap.Ns X.env.locals m->h'.Ns X.env.locals m) (hok:HOk X.prog X.w H' h') (hg:AllBare g') :
  Inv X pins σ H' {s with heap:=h',gens:=g',drawn:=d',toks:=t'}:=by
 have neL:∀b o,X.s_0.heap.get? b=some o->b≠X.env.locals:=fun b o e=>Nat.ne_of_lt (Nat.lt_of_lt_of_le (Heap.lt_size e) I.ok.above)
 have neC:∀b o,X.s_0.heap.get? b=some o->b ∉ X.ex->b ∉ ch:=fun b o e hx hb=>by
  rcases(hch b hb).1 with z|z
  ·exact hx z
  ·exact absurd (Nat.lt_of_lt_of_le (Heap.lt_size e) z) (Nat.lt_irrefl _)
 have cellK:∀x c,X.env.cells.lookup x=some c->∀v,s.heap.IsCell c v->h'.IsCell c v:=fun x c e v ⟨o,ho,hd⟩=>by
  have nch:c ∉ ch:=fun z=>(hch c z).2.2.1 x c e rfl
  by_cases hc:c∈X.fs
  ·obtain⟨sl,q⟩:=slot c o (I.cne x c e) hc nch ho (I.freeC x c e)
   exact⟨_,q,hd⟩
  ·exact⟨o,keep c o (I.cne x c e) hc nch ho (I.freeC x c e),hd⟩
 refine⟨I.ok,I.os,hg,⟨fun b o e n hb hx=>?_,fun b o e n hb hx=>?_,fun b o e n hx=>?_,fun b o e hx=>?_,fun b xs e=>tups b xs (I.base.tups b xs e),fun b o xs e=>frzs b o xs (I.base.frzs b o xs e),fun b ps e=>?_⟩,?_,fun x c e=>?_,?_,fun x c e=>?_,fun p hp=>?_,hok,I.len⟩
 ·exact keep b o (neL b o e) hb (neC b o e hx) (I.base.keep b o e n hb hx) (I.base.free b o e n hx)
 ·obtain⟨sl,e1⟩:=I.base.slot b o e n hb hx
  obtain⟨sl',e2⟩:=slot b _ (neL b o e) hb (neC b o e hx) e1 (I.base.free b o e n hx)
  exact⟨sl',e2⟩
 ·obtain⟨o',e1⟩:=I.base.there b o e hx
  exact free b o' (neC b o e hx) e1 (I.base.free b o e n hx)
 ·obtain⟨o',e1⟩:=I.base.there b o e hx
  exact there b o' (neC b o e hx) e1
 ·obtain⟨m1,e1⟩:=I.base.tbls b ps e
  obtain⟨m2,e2⟩:=tbls b _ e1
  exact⟨m1++m2,by rw[e2,Array.append_assoc]⟩
 ·obtain⟨m,hn,hl⟩:=I.loc
  refine⟨m,ns m hn,fun i x v e1 e2 e3=>?_⟩
  obtain⟨u,r,l⟩:=hl i x v e1 e2 e3
  refine⟨u,r,?_⟩
  rcases l with l|⟨k,c,e,z⟩
  ·exact .inl l
  ·exact .inr ⟨k,c,e,cellK x c e _ z⟩
 ·obtain⟨v,z⟩:=I.cell x c e
  exact⟨v,cellK x c e v z⟩
 ·obtain⟨m,⟨o,_,_,ho,_⟩,_⟩:=I.loc
  exact free _ o (fun z=>(hch _ z).2.1 rfl) ho I.free
 ·obtain⟨v,o,ho,hd⟩:=I.cell x c e
  exact free c o (fun z=>(hch c z).2.2.1 x c e rfl) ho (I.freeC x c e)
 ·obtain⟨e,n,ne,nf,d⟩:=I.pin p hp
  have nch:p.1 ∉ ch:=fun z=>(hch p.1 z).2.2.2 p hp rfl
  exact⟨keep p.1 p.2 ne nf nch e n,free p.1 p.2 nch e n,ne,nf,d⟩
theorem Inv.un {t':Nat} (I:Inv X pins σ H s) (u:Un X.fs [] H H' s.heap h') (hok:HOk X.prog X.w H' h'):Inv X pins σ H' {s with heap:=h',toks:=t'}:=by
 obtain⟨m,⟨o,es,ep,ho,r⟩,_⟩:=id I.loc
 obtain⟨sl,hL⟩:=u.any ho I.free (by simp)
 exact I.step (g':=s.gens) (d':=s.drawn) (ch:=[]) (fun _ z=>nomatch z) (fun b o _ hb _ e n=>u.keep b o e n hb (by simp)) (fun b o _ hb _ e n=>u.slot b o e n hb (by simp)) (fun b o _ e n=>u.free b o e n (by simp)) (fun b o _ e=>u.there b o e (by simp)) u.tups u.frzs u.tbls (fun m' hm=>by
  obtain⟨o',es',ep',ho',r'⟩:=hm
  rw[ho]at ho';cases ho'
  exact⟨_,es',ep',hL,r'⟩) hok I.bare
theorem Inv.call {g':Array GenState} {t':Nat} {d':Drawn} {ch:List Addr} (I:Inv X pins σ H s) (u:Un (frs X.stack) ch H H' s.heap h') (hok:HOk X.prog X.w H' h') (hg:AllBare g')
  (hch:∀b∈ch,(b∈X.ex\/X.s_0.heap.objs.size<=b)/\b≠X.env.locals/\(∀x c,X.env.cells.lookup x=some c->c≠b)/\∀p∈X.pn++pins,p.1≠b) :
  Inv X pins σ H' {s with heap:=h',gens:=g',drawn:=d',toks:=t'}:=by
 obtain⟨m,⟨o,es,ep,ho,r⟩,_⟩:=id I.loc
 obtain⟨sl,hL⟩:=u.any ho I.free fun z=>(hch _ z).2.1 rfl
 exact I.step (ch:=ch) hch (fun b o hL hb hc e n=>u.keep b o e n (fun z=>(List.mem_cons.mp (I.stkSub b z)).elim hL hb) hc) (fun b o _ _ hc e n=>u.any e n hc) (fun b o hc e n=>u.free b o e n hc) (fun b o hc e=>u.there b o e hc) u.tups u.frzs u.tbls (fun m' hm=>by
  obtain⟨o',es',ep',ho',r'⟩:=hm
  rw[ho]at ho';cases ho'
  exact⟨_,es',ep',hL,r'⟩) hok hg
theorem Inv.turned {t':Nat} {it:Addr} (I:Inv X pins σ H s) (k:∀b o,b≠it->s.heap.get? b=some o->h'.get? b=some o) (hn:H it=none) (hL:it≠X.env.locals)
  (h1:it∈X.ex\/X.s_0.heap.objs.size<=it) (h2:∀x c,X.env.cells.lookup x=some c->c≠it) (h3:∀p∈X.pn++pins,p.1≠it):Inv X pins σ H {s with heap:=h',toks:=t'}:=by
 have nit:∀b u,H b=some u->b≠it:=fun b u e z=>by rw[z,hn]at e;cases e
 refine I.step (g':=s.gens) (d':=s.drawn) (ch:=[it]) (fun b hb=>?_) (fun b o _ _ hc e _=>k b o (fun z=>hc (by simp[z])) e) (fun b o _ _ hc e _=>⟨o.slots,k b o (fun z=>hc (by simp[z])) e⟩) (fun _ _ _ _ n=>n)
  (fun b o hc e=>⟨o,k b o (fun z=>hc (by simp[z])) e⟩) (fun _ _ e=>e) (fun _ _ _ e=>e) (fun b ps e=>⟨#[],by rw[e];simp⟩) (fun m hm=>?_) (fun b u e=>?_) I.bare
 ·have e:b=it:=by simpa using hb
  subst e
  exact⟨h1,hL,h2,h3⟩
 ·obtain⟨o,es,ep,ho,r⟩:=hm
  exact⟨o,es,ep,k _ o (Ne.symm hL) ho,r⟩
 ·refine(I.hok b u e).stay (fun c v hc q=>k c v ?_ q) (fun _ q=>q) fun _ _ q=>q
  rcases hc with z|z
  ·rw[z];exact nit b u e
  ·exact nit c _ z
theorem Inv.tok (I:Inv X pins σ H s) (t:Nat):Inv X pins σ H {s with toks:=t}:=I.un (h':=s.heap) (t':=t) Un.refl I.hok
theorem Inv.kept {t':Nat} (I:Inv X pins σ H s) (k:∀b u,s.heap.get? b=some u->h'.get? b=some u):Inv X pins σ H {s with heap:=h',toks:=t'}:=I.un (Un.kept k) (I.hok.kept k)
theorem Inv.laid {a:Addr} {o:HO} {t':Nat} (I:Inv X pins σ H s) (k:∀b u,s.heap.get? b=some u->h'.get? b=some u) (hp:s.heap.objs.size<=a) (new:ObjOk X.prog X.w (upd H a o) h' a o) :
  Inv X pins σ (upd H a o) {s with heap:=h',toks:=t'}:=I.un (Un.laid k hp (I.hok.fresh hp)) (I.hok.laid k hp new)
theorem Inv.write {x e:Addr} {o:HO} {t':Nat} (I:Inv X pins σ H s) (mu:Mut (H x)) (he:e=x\/H e=some (.own x)) (k:∀b u,b≠e->s.heap.get? b=some u->h'.get? b=some u) (heo:∃u,h'.get? e=some u)
  (new:ObjOk X.prog X.w (upd H x o) h' x o):Inv X pins σ (upd H x o) {s with heap:=h',toks:=t'}:=I.un (Un.write mu he k heo) (I.hok.write mu he k heo new)
theorem Inv.weak {σ':List (Option V)} (I:Inv X pins σ H s) (hl:σ'.length=σ.length) (w:∀(i:Nat) v,σ'[i]?=some (some v)->σ[i]?=some (some v)):Inv X pins σ' H s:=
 ⟨I.ok,I.os,I.bare,I.base,let⟨m,hn,hl'⟩:=I.loc;⟨m,hn,fun i x v e1 e2 e3=>hl' i x v e1 (w i v e2) e3⟩,I.cell,I.free,I.freeC,I.pin,I.hok,hl.trans I.len⟩
theorem Inv.pins_of {pins':List (Addr×Obj)} (I:Inv X pins σ H s) (h:∀p∈pins',s.heap.get? p.1=some p.2/\H p.1=none/\p.1≠X.env.locals/\p.1 ∉ X.fs/\∀v,p.2.data≠.cell v):Inv X pins' σ H s:=
 ⟨I.ok,I.os,I.bare,I.base,I.loc,I.cell,I.free,I.freeC,fun p hp=>(List.mem_append.mp hp).elim (fun z=>I.pin p (List.mem_append_left _ z)) (h p),I.hok,I.len⟩
theorem nodup_ix {N:List Str} (hN:N.Nodup) {i j:Nat} {x:Str} (a:N[i]?=some x) (b:N[j]?=some x):i=j:=by
 obtain⟨h1,e1⟩:=List.getElem?_eq_some_iff.mp a
 obtain⟨h2,e2⟩:=List.getElem?_eq_some_iff.mp b
 exact(List.getElem_inj hN).mp (e1.trans e2.symm)
theorem store_ok2 {M:Model} {A:Around} {E:Value->Shared->Prop} {i:Nat} {x:Str} {v:V} {u:Value} {Q:Unit->Shared->Prop} (I:Inv X pins σ H s) (hN:X.N.Nodup) (hi:X.N[i]?=some x) (hx:Loc X.env.scope x) (r:RelV v u)
  (h:∀s',Inv X pins (σ.set i (some v)) H s'->(∃a,Heap.SameBut a s.heap s'.heap/\(a=X.env.locals\/X.env.cells.lookup x=some a))->Q () s') (hf:X.fn x=true\/X.env.scope.names.lookup x=some .local:=by first|exact .inl rfl|exact .inr rfl|assumption):wpAny M A (storeName X.env x u) Q E s:=by
 obtain⟨m,hn,hl⟩:=id I.loc
 have hcls:(X.env.scope.kind==.class || (X.env.scope.kind==.module&&X.env.locals != X.env.globals))=false:=by rw[I.ok.kind];rfl
 have hiσ:i<σ.length:=by rw[I.len];exact(List.getElem?_eq_some_iff.mp hi).1
 have cne:=I.cne
 have tracked:∀{a:Addr} {h':Heap},(∃o,s.heap.get? a=some o/\H a=none)->Heap.SameBut a s.heap h'->HOk X.prog X.w H h':=fun{a h'} ha hs b ob e=>by
  obtain⟨_,_,hfree⟩:=ha
  refine(I.hok b ob e).stay (fun c w' hc q=>(hs.2 c ?_).trans q) (fun _ q=>q) fun _ _ q=>q
  rintro rfl
  rcases hc with rfl|hc
  ·rw[hfree]at e;cases e
  ·rw[hfree]at hc;cases hc
 rcases hx with hk|hk
 ·refine wpAny_storeName_local hk hn (fun h' hn' hs=>?_) hcls
  obtain⟨oL,_,_,hoL,_⟩:=id hn
  refine h _ ⟨I.ok,I.os,I.bare,⟨fun b o e n hb hx=>?_,fun b o e n hb hx=>?_,I.base.free,fun b o e hx=>?_,I.base.tups,I.base.frzs,I.base.tbls⟩,⟨_,hn',fun j y v' e1 e2 e3=>?_⟩,fun y c e=>?_,I.free,I.freeC,fun p hp=>?_,tracked ⟨oL,hoL,I.free⟩ hs,by simpa using I.len⟩ ⟨_,hs,.inl rfl⟩
  ·exact(hs.2 b (Nat.ne_of_lt (Nat.lt_of_lt_of_le (Heap.lt_size e) I.ok.above))).trans (I.base.keep b o e n hb hx)
  ·obtain⟨sl,e1⟩:=I.base.slot b o e n hb hx
   exact⟨sl,(hs.2 b (Nat.ne_of_lt (Nat.lt_of_lt_of_le (Heap.lt_size e) I.ok.above))).trans e1⟩
  ·obtain⟨o',e1⟩:=I.base.there b o e hx
   exact⟨o',(hs.2 b (Nat.ne_of_lt (Nat.lt_of_lt_of_le (Heap.lt_size e) I.ok.above))).trans e1⟩
  ·by_cases hj:j=i
   ·subst hj
    rw[hi]at e1;cases e1
    rw[List.getElem?_set_self hiσ]at e2
    cases e2
    exact⟨u,r,.inl ⟨hk,by simp⟩⟩
   ·rw[List.getElem?_set_ne (Ne.symm hj)]at e2
    obtain⟨u',r',q⟩:=hl j y v' e1 e2 e3
    refine⟨u',r',?_⟩
    rcases q with⟨k,e⟩|⟨k,c,e,z⟩
    ·refine .inl ⟨k,?_⟩
     have:y≠x:=fun e=>hj (nodup_ix hN e1 (e▸hi))
     simp[this,e]
    ·exact .inr ⟨k,c,e,z.sameBut hs (cne y c e)⟩
  ·obtain⟨w',z⟩:=I.cell y c e
   exact⟨w',z.sameBut hs (cne y c e)⟩
  ·obtain⟨e,n,ne,nf,d⟩:=I.pin p hp
   exact⟨(hs.2 p.1 ne).trans e,n,ne,nf,d⟩
 ·have hfn:X.fn x=true:=by
   rcases hf with z|z
   ·exact z
   ·rw[z]at hk;cases hk
  obtain⟨c,hc⟩:=I.ok.has x (.inl hk)
  obtain⟨w',z⟩:=I.cell x c hc
  refine wpAny_storeName_cell I.ok.kind hk hc z (fun h' hc' hs=>?_)
  obtain⟨oc,hoc,hocd⟩:=id z
  refine h {s with heap:=h'} ⟨I.ok,I.os,I.bare,⟨fun b o e n hb hx=>?_,fun b o e n hb hx=>?_,I.base.free,fun b o e hx=>?_,I.base.tups,I.base.frzs,I.base.tbls⟩,⟨m,hn.sameBut hs (Ne.symm (cne x c hc)),fun j y v' e1 e2 e3=>?_⟩,fun y c' e=>?_,I.free,I.freeC,fun p hp=>?_,tracked ⟨oc,hoc,I.freeC x c hc⟩ hs,by simpa using I.len⟩ ⟨c,hs,.inr hc⟩
  ·exact(hs.2 b (Nat.ne_of_lt (Nat.lt_of_lt_of_le (Heap.lt_size e) (I.ok.cab x c hfn hc)))).trans (I.base.keep b o e n hb hx)
  ·obtain⟨sl,e1⟩:=I.base.slot b o e n hb hx
   exact⟨sl,(hs.2 b (Nat.ne_of_lt (Nat.lt_of_lt_of_le (Heap.lt_size e) (I.ok.cab x c hfn hc)))).trans e1⟩
  ·obtain⟨o',e1⟩:=I.base.there b o e hx
   exact⟨o',(hs.2 b (Nat.ne_of_lt (Nat.lt_of_lt_of_le (Heap.lt_size e) (I.ok.cab x c hfn hc)))).trans e1⟩
  ·by_cases hj:j=i
   ·subst hj
    rw[hi]at e1;cases e1
    rw[List.getElem?_set_self hiσ]at e2
    cases e2
    exact⟨u,r,.inr ⟨.inl hk,c,hc,hc'⟩⟩
   ·rw[List.getElem?_set_ne (Ne.symm hj)]at e2
    obtain⟨u',r',q⟩:=hl j y v' e1 e2 e3
    refine⟨u',r',?_⟩
    rcases q with q|⟨k,c',e,z'⟩
    ·exact .inl q
    ·refine .inr ⟨k,c',e,z'.sameBut hs ?_⟩
     rintro rfl
     exact hj (nodup_ix hN e1 (I.ok.inj _ _ _ e hc▸hi))
  ·by_cases hcc:c'=c
   ·subst hcc;exact⟨_,hc'⟩
   ·obtain⟨w2,z2⟩:=I.cell y c' e
    exact⟨w2,z2.sameBut hs hcc⟩
  ·obtain⟨e,n,ne,nf,d⟩:=I.pin p hp
   refine⟨(hs.2 p.1 ?_).trans e,n,ne,nf,d⟩
   intro q
   rw[q,hoc]at e
   have q':oc=p.2:=Option.some.inj e
   exact d w' (by rw[<-q'];exact hocd)
theorem store_ok {M:Model} {A:Around} {E:Value->Shared->Prop} {i:Nat} {x:Str} {v:V} {u:Value} {Q:Unit->Shared->Prop} (I:Inv X pins σ H s) (hN:X.N.Nodup) (hi:X.N[i]?=some x) (hx:Loc X.env.scope x) (r:RelV v u)
  (h:∀s',Inv X pins (σ.set i (some v)) H s'->Q () s') (hf:X.fn x=true\/X.env.scope.names.lookup x=some .local:=by first|exact .inl rfl|exact .inr rfl|assumption):wpAny M A (storeName X.env x u) Q E s:=
 store_ok2 I hN hi hx r (fun s' I' _=>h s' I') hf
theorem Inv.call' {s':Shared} {ch:List Addr} (I:Inv X pins σ H s) (ho:s'.os=s.os) (u:Un (frs X.stack) ch H H' s.heap s'.heap) (hok:HOk X.prog X.w H' s'.heap) (hg:AllBare s'.gens)
  (hch:∀b∈ch,(b∈X.ex\/X.s_0.heap.objs.size<=b)/\b≠X.env.locals/\(∀x c,X.env.cells.lookup x=some c->c≠b)/\∀p∈X.pn++pins,p.1≠b):Inv X pins σ H' s':=by
 obtain⟨h',g',d',t',o'⟩:=s'
 have e:o'=s.os:=ho
 subst e
 exact I.call (g':=g') (t':=t') (d':=d') u hok hg hch
end
abbrev XK:=Value->Option Addr->Hp->Prop
abbrev St:=List (Option V)
abbrev VK:=V->Hp->Prop
abbrev TE:=St->Hp->VK->Prop
abbrev TT:=St->Hp->(Bool->Hp->Prop)->Prop
abbrev TA:=St->Hp->(List V->Hp->Prop)->Prop
structure Ends where
 nx:St->Hp->Prop
 rt:VK
 bk:St->Hp->Prop:=fun _ _=>False
 ct:St->Hp->Prop:=fun _ _=>False
abbrev TS:=Ends->St->Hp->Prop
def EP (X:Cx) (pins:List (Addr×Obj)) (σ:St) (Q:VK) (u:Value) (s':Shared):Prop:=∃v H',Inv X pins σ H' s'/\RelV v u/\Q v H'
def TP (X:Cx) (pins:List (Addr×Obj)) (σ:St) (Q:Bool->Hp->Prop) (b:Bool) (s':Shared):Prop:=∃H',Inv X pins σ H' s'/\Q b H'
def AP (X:Cx) (pins:List (Addr×Obj)) (σ:St) (Q:List V->Hp->Prop) (us:List Value) (s':Shared):Prop:=∃vs H',Inv X pins σ H' s'/\Vals vs us/\Q vs H'
def SP (X:Cx) (pins:List (Addr×Obj)) (D:Ends) (f:Flow) (s':Shared):Prop:=
 match f with
 |.next=>∃σ' H',Inv X pins σ' H' s'/\D.nx σ' H'
 |.brk=>∃σ' H',Inv X pins σ' H' s'/\D.bk σ' H'
 |.cont=>∃σ' H',Inv X pins σ' H' s'/\D.ct σ' H'
 |.ret u=>∃v σ' H',Inv X pins σ' H' s'/\RelV v u/\D.rt v H'
def PE (X:Cx) (e:Expr) (t:TE):Prop:=
 ∀(pins:List (Addr×Obj)) (s:Shared) (σ:St) (H:Hp) (Q:VK),Inv X pins σ H s->t σ H Q->wpAny (model X.prog X.w) X.A (eval e X.env) (EP X pins σ Q) X.xe s
def PT (X:Cx) (e:Expr) (t:TT):Prop:=
 ∀(pins:List (Addr×Obj)) (s:Shared) (σ:St) (H:Hp) (Q:Bool->Hp->Prop),Inv X pins σ H s->t σ H Q->wpAny (model X.prog X.w) X.A (isTrue e X.env (eval e X.env)) (TP X pins σ Q) X.xe s
def PW (X:Cx) (e:Expr) (t:TT):Prop:=
 ∀(whole:Sem Value) (pins:List (Addr×Obj)) (s:Shared) (σ:St) (H:Hp) (Q:Bool->Hp->Prop),Inv X pins σ H s->t σ H Q->wpAny (model X.prog X.w) X.A (isTrue e X.env whole) (TP X pins σ Q) X.xe s
theorem PW.pt {X:Cx} {e:Expr} {t:TT} (h:PW X e t):PT X e t:=h _
def PA (X:Cx) (es:List Expr) (t:TA):Prop:=
 ∀(pos:Pos) (pins:List (Addr×Obj)) (s:Shared) (σ:St) (H:Hp) (Q:List V->Hp->Prop),Inv X pins σ H s->t σ H Q->wpAny (model X.prog X.w) X.A (spliced (backTo pos (starEach es X.env))) (AP X pins σ Q) X.xe s
def PS (X:Cx) (st:Stmt) (t:TS):Prop:=
 ∀(pins:List (Addr×Obj)) (s:Shared) (σ:St) (H:Hp) (D:Ends),Inv X pins σ H s->t D σ H->wpAny (model X.prog X.w) X.A (exec st X.env) (SP X pins D) X.xe s
def PSs (X:Cx) (st:List Stmt) (t:TS):Prop:=
 ∀(pins:List (Addr×Obj)) (s:Shared) (σ:St) (H:Hp) (D:Ends),Inv X pins σ H s->t D σ H->wpAny (model X.prog X.w) X.A (execs st X.env) (SP X pins D) X.xe s
theorem thn {α:Type} {t:Sem α} {Q Q':α->Shared->Prop} {M:Model} {A:Around} {E:Value->Shared->Prop} {s:Shared} (h:wpAny M A t Q E s) (hQ:∀a s,Q a s->Q' a s):wpAny M A t Q' E s:=wpAny_mono h hQ fun _ _ x=>x
end L2
namespace L2
open PySem PySem.Spec PyProof.Rows
section
variable {X:Cx}
theorem bin {a b:Expr} {ta tb:TE} (ha:PE X a ta) (hb:PE X b tb) {pins:List (Addr×Obj)} {s:Shared} {σ:St} {H:Hp} {R:V->V->Hp->Prop} (I:Inv X pins σ H s) (h:ta σ H fun x H1=>tb σ H1 fun y H2=>R x y H2)
  {α:Type} {Q:α->Shared->Prop} {f:Value->Value->Sem α}
  (hf:∀v u s2 x y H2,Inv X pins σ H2 s2->RelV x v->RelV y u->R x y H2->wpAny (model X.prog X.w) X.A (f v u) Q X.xe s2) :
  wpAny (model X.prog X.w) X.A (eval a X.env) (fun v s₁=>wpAny (model X.prog X.w) X.A (eval b X.env) (fun u s₂=>wpAny (model X.prog X.w) X.A (f v u) Q X.xe s₂) X.xe s₁) X.xe s:=by
 refine thn (ha pins s σ H _ I h) fun v s1 ⟨x,H1,I1,r1,q1⟩=>?_
 refine thn (hb pins s1 σ H1 _ I1 q1) fun u s2 ⟨y,H2,I2,r2,q2⟩=>?_
 exact hf v u s2 x y H2 I2 r1 r2 q2
def tVar (i:Nat):TE:=fun σ H Q=>∃v,σ[i]?=some (some v)/\Q v H
def tC (v:V):TE:=fun _ H Q=>Q v H
theorem pe_var {i:Nat} {x:Str} {pos:Pos} (hN:X.N[i]?=some x) (hv:Vis X.env.scope x) (hd:(x==("__debug__":Str))=false:=by decide) (hcd:(x==("__classdict__":Str))=false:=by decide):PE X (.Name x pos) (tVar i):=by
 intro pins s σ H Q I h
 obtain⟨v,e,h⟩:=h
 obtain⟨m,hn,hl⟩:=I.loc
 obtain⟨u,r,l⟩:=hl i x v hN e hv
 have fin:EP X pins σ Q u s:=⟨v,H,I,r,h⟩
 rcases l with⟨hk,hm⟩|⟨hk,c,hc,hcell⟩
 ·exact wpAny_Name (wpAny_loadName_local I.ok.kind hk hn hm fin) hd
 ·rcases hk with hk|hk
  ·exact wpAny_Name (wpAny_loadName_cell I.ok.kind hk hc hcell fin) hd
  ·exact wpAny_Name (wpAny_loadName_free I.ok.kind hk hc hcell fin hcd) hd
theorem pe_int {i j pos}:PE X (.Constant (.int i) j pos) (tC (.int i)):=fun _ _ _ H _ I h=>wpAny_Constant_int ⟨.int i,H,I.tok _,⟨_,rfl⟩,h⟩
theorem pe_bl {b j pos}:PE X (.Constant (.bool b) j pos) (tC (.bl b)):=fun _ _ _ H _ I h=>Constant_bool ⟨.bl b,H,I,rfl,h⟩
theorem pe_non {j pos}:PE X (.Constant .none j pos) (tC .non):=fun _ _ _ H _ I h=>Constant_none ⟨.non,H,I,rfl,h⟩
theorem pe_str {x j pos}:PE X (.Constant (.str x) j pos) (tC (.str x)):=fun _ _ _ H _ I h=>Calls.Constant_str ⟨.str x,H,I.tok _,⟨_,rfl⟩,h⟩
def Gl (X:Cx) (x:Str):Prop:=X.env.kindOf x=some .globalImplicit
theorem ld_glob {E:Value->Shared->Prop} {pins:List (Addr×Obj)} {s:Shared} {σ:St} {H:Hp} {x:Str} {u:Value} {pos:Pos} {Q:Value->Shared->Prop} (I:Inv X pins σ H s) (hg:Gl X x) (hm:X.mg x=some u) (h:Q u s)
  (hd:(x==("__debug__":Str))=false:=by decide):wpAny (model X.prog X.w) X.A (eval (.Name x pos) X.env) Q E s:=
 Calls.Name_function_global I.ok.kind hg (Calls.loadGlobal_global (by rw[I.ok.glob];exact I.mod.glob.keeps I.bk) hm h) hd
theorem ld_blt {E:Value->Shared->Prop} {pins:List (Addr×Obj)} {s:Shared} {σ:St} {H:Hp} {x:Str} {u:Value} {pos:Pos} {Q:Value->Shared->Prop} (I:Inv X pins σ H s) (hg:Gl X x) (hm:X.mg x=none) (hv:bootBuiltins x=some u) (h:Q u s)
  (hn:x≠"__name__":=by decide) (hd:(x==("__debug__":Str))=false:=by decide):wpAny (model X.prog X.w) X.A (eval (.Name x pos) X.env) Q E s:=by
 obtain⟨mb,h1,h2⟩:=I.mod.blt
 exact Calls.Name_function_global I.ok.kind hg (Calls.loadGlobal_builtin (by rw[I.ok.glob];exact I.mod.glob.keeps I.bk) hm (by rw[I.ok.blt];exact h1.keeps I.bk) ((h2 x hn).trans hv) h) hd
theorem pe_glob {x:Str} {v:V} {u:Value} {pos:Pos} (hg:Gl X x) (hm:X.mg x=some u) (r:RelV v u) (hd:(x==("__debug__":Str))=false:=by decide):PE X (.Name x pos) (tC v):=
 fun _ _ _ H _ I h=>ld_glob I hg hm ⟨v,H,I,r,h⟩ hd
theorem pe_bltn {x:Str} {v:V} {u:Value} {pos:Pos} (hg:Gl X x) (hm:X.mg x=none) (hv:bootBuiltins x=some u) (r:RelV v u) (hn:x≠"__name__":=by decide) (hd:(x==("__debug__":Str))=false:=by decide):PE X (.Name x pos) (tC v):=
 fun _ _ _ H _ I h=>ld_blt I hg hm hv ⟨v,H,I,r,h⟩ hn hd
variable {a b:Expr} {ta tb:TE} {pos:Pos}
def PC (X:Cx) (op:CmpOp) (a b:Expr) (t:TE):Prop:=
 ∀(pins:List (Addr×Obj)) (s:Shared) (σ:St) (H:Hp) (Q:VK),Inv X pins σ H s->t σ H Q ->
  wpAny (model X.prog X.w) X.A (eval a X.env) (fun v s₁=>wpAny (model X.prog X.w) X.A (eval b X.env) (fun u s₂=>wpAny (model X.prog X.w) X.A (compareOp op v u) (EP X pins σ Q) X.xe s₂) X.xe s₁) X.xe s
def tB (t:TE):TT:=fun σ H Q=>t σ H fun x H1=>∃c,x=.bl c/\Q c H1
theorem pt_cmp {op:CmpOp} {t:TE} (h:PC X op a b t) (h1:behindInMarks op b=false:=by first|exact nobehind _ (by decide) (by decide)|rfl):PT X (.Compare a [op] [b] pos) (tB t):=by
 intro pins s σ H Q I hw
 refine wpAny_isTrue_Compare1 (thn (h pins s σ H _ I hw) fun v s1 h1=>thn h1 fun u s2 h2=>thn h2 fun c s3 ⟨x,H1,I1,r1,q1⟩=>?_) h1
 obtain⟨d,rfl,q⟩:=q1
 cases r1
 exact wpAny_truthy_bool ⟨H1,I1,q⟩
theorem pt_val {e:Expr} {t:TE} (h:PE X e t) (he:∀whole,isTrue e X.env whole=(do let v<-whole;standAt e.pos;holding [v] (truthy v)):=by intro _;rfl):PT X e (tB t):=by
 intro pins s σ H Q I hw
 refine isTrue_plain (thn (h pins s σ H _ I hw) fun v s1 ⟨x,H1,I1,r1,q1⟩=>?_) (he _)
 obtain⟨d,rfl,q⟩:=q1
 cases r1
 exact wpAny_truthy_bool ⟨H1,I1,q⟩
variable {tA tB':TT} {rest:List Expr}
def tAnd (t u:TT):TT:=fun σ H Q=>t σ H fun c H1=>if c=true then u σ H1 Q else Q false H1
def tOr (t u:TT):TT:=fun σ H Q=>t σ H fun c H1=>if c=true then Q true H1 else u σ H1 Q
def tNot (t:TT):TT:=fun σ H Q=>t σ H fun c H1=>Q (!c) H1
theorem pw_and1 (ha:PT X a tA):PW X (.BoolOp .And [a] pos) tA:=by
 intro wh pins s σ H Q I h
 refine isTrue_and (thn (ha pins s σ H Q I h) fun c s1 e=>?_)
 cases c with
 |true=>exact isTrue_and_nil e
 |false=>exact e
theorem pw_or1 (ha:PT X a tA):PW X (.BoolOp .Or [a] pos) tA:=by
 intro wh pins s σ H Q I h
 refine isTrue_or (thn (ha pins s σ H Q I h) fun c s1 e=>?_)
 cases c with
 |false=>exact isTrue_or_nil e
 |true=>exact e
theorem pw_and (ha:PT X a tA) (hb:PW X (.BoolOp .And (b::rest) pos) tB'):PW X (.BoolOp .And (a::b::rest) pos) (tAnd tA tB'):=by
 intro wh pins s σ H Q I h
 refine isTrue_and (thn (ha pins s σ H _ I h) fun c s1 ⟨H1,I1,q1⟩=>?_)
 cases c with
 |true=>exact hb wh pins s1 σ H1 Q I1 q1
 |false=>exact⟨H1,I1,q1⟩
theorem pw_or (ha:PT X a tA) (hb:PW X (.BoolOp .Or (b::rest) pos) tB'):PW X (.BoolOp .Or (a::b::rest) pos) (tOr tA tB'):=by
 intro wh pins s σ H Q I h
 refine isTrue_or (thn (ha pins s σ H _ I h) fun c s1 ⟨H1,I1,q1⟩=>?_)
 cases c with
 |true=>exact⟨H1,I1,q1⟩
 |false=>exact hb wh pins s1 σ H1 Q I1 q1
theorem pt_not (ha:PT X a tA):PT X (.UnaryOp .Not a pos) (tNot tA):=by
 intro pins s σ H Q I h
 exact isTrue_not (ha pins s σ H (fun c H1=>Q (!c) H1) I h)
def tOrV (ta tb:TE):TE:=fun σ H Q=>ta σ H fun x H1=>∃c,x=.bl c/\if c=true then Q (.bl true) H1 else tb σ H1 Q
theorem pe_one {op} {t:TE} (h:PE X a t):PE X (.BoolOp op [a] pos) t:=fun pins s σ H Q I hw=>BoolOp_one (h pins s σ H Q I hw)
theorem pe_or (ha:PE X a ta) (hb:PE X (.BoolOp .Or (b::rest) pos) tb):PE X (.BoolOp .Or (a::b::rest) pos) (tOrV ta tb):=by
 intro pins s σ H Q I h
 refine BoolOp_or (thn (ha pins s σ H _ I h) fun v s1 ⟨x,H1,I1,r1,q1⟩=>?_)
 obtain⟨c,rfl,q1⟩:=q1
 cases r1
 refine wpAny_truthy_bool ?_
 cases c with
 |false=>exact hb pins s1 σ H1 Q I1 q1
 |true=>exact⟨.bl true,H1,I1,rfl,q1⟩
def tIf (t:TT) (ta tb:TE):TE:=fun σ H Q=>t σ H fun c H1=>if c=true then ta σ H1 Q else tb σ H1 Q
theorem pe_ifExp {c:Expr} (hc:PT X c tA) (ha:PE X a ta) (hb:PE X b tb):PE X (.IfExp c a b pos) (tIf tA ta tb):=by
 intro pins s σ H Q I h
 refine wpAny_IfExp (thn (hc pins s σ H _ I h) fun d s1 ⟨H1,I1,q1⟩=>?_)
 cases d with
 |true=>exact ha pins s1 σ H1 Q I1 q1
 |false=>exact hb pins s1 σ H1 Q I1 q1
end
end L2
namespace L2
open PySem PySem.Spec PyProof.Rows
def SqL (K:PySem.W.Frag) (H:Hp) (a:Addr) (xs:List V):Prop:=
 Rd H a (.lst xs) \/
  ∃(o:Obj) (its:Array Value) (n:Nat),K.lookup a=some o/\o.cls=.type "list"/\o.dict=none/\o.data=.seq its n/\its.size<=sizeLine/\Vals xs its.toList
def SqT (K:PySem.W.Frag) (H:Hp) (a:Addr) (xs:List V):Prop:=
 Rd H a (.tup xs) \/
  ∃(o:Obj) (its:Array Value) (n:Nat),K.lookup a=some o/\o.cls=.type "tuple"/\o.data=.seq its n/\its.size<=sizeLine/\Vals xs its.toList
def absV:Value->Option V
 |.none=>some .non
 |.bool b=>some (.bl b)
 |.int i _=>some (.int i)
 |.str x _=>some (.str x)
 |.bytes b _=>some (.byt b)
 |.float b _=>some (.flt b)
 |.ref a=>some (.ref a)
 |.type n=>some (.ty n)
 |_=>none
theorem RelV.abs {x:V} {u:Value} (r:RelV x u):absV u=some x:=by
 cases x with
 |non=>cases r;rfl
 |bl _=>cases r;rfl
 |int _=>obtain⟨t,rfl⟩:=r;rfl
 |str _=>obtain⟨t,rfl⟩:=r;rfl
 |byt _=>obtain⟨t,rfl⟩:=r;rfl
 |flt _=>obtain⟨t,rfl⟩:=r;rfl
 |ref _=>cases r;rfl
 |ty _=>cases r;rfl
theorem RelV.inj {x y:V} {u:Value} (r:RelV x u) (q:RelV y u):x=y:=Option.some.inj (r.abs.symm.trans q.abs)
theorem Vals.inj:∀{xs ys:List V} {us:List Value},Vals xs us->Vals ys us->xs=ys
 |_,_,_,.nil,.nil=>rfl
 |_,_,_,.cons r t,.cons r' t'=>by rw[r.inj r',Vals.inj t t']
section
variable {X:Cx} {pins:List (Addr×Obj)} {σ:St} {H:Hp} {s:Shared} {a:Addr} {xs ys:List V}
theorem SqL.of {K:PySem.W.Frag} (h:H a=some (.lst xs)):SqL K H a xs:=.inl (.inl h)
theorem SqT.of {K:PySem.W.Frag} (h:H a=some (.tup xs)):SqT K H a xs:=.inl (.inl h)
theorem Inv.list (I:Inv X pins σ H s) (h:SqL X.K H a xs):∃its:List Value,Vals xs its/\PlainL s.heap a its.toArray/\xs.length<=sizeLine:=by
 rcases h with h|⟨o,its,n,hk,hc,hd,hs,hz,r⟩
 ·obtain⟨z,its,n,r,e⟩:=h.ok I.hok
  exact⟨its,r,⟨_,n,e,rfl,rfl,rfl⟩,z⟩
 ·refine⟨its.toList,r,⟨o,n,I.kIn a o hk,hc,hd,by simpa using hs⟩,?_⟩
  have e:=r.length
  simp only[Array.length_toList]at e
  omega
theorem Inv.tuple (I:Inv X pins σ H s) (h:SqT X.K H a xs):∃its:List Value,Vals xs its/\IsTup s.heap a its.toArray/\xs.length<=sizeLine:=by
 rcases h with h|⟨o,its,n,hk,hc,hs,hz,r⟩
 ·obtain⟨z,its,r,p⟩:=h.ok I.hok
  exact⟨its,r,p,z⟩
 ·refine⟨its.toList,r,⟨o,I.kIn a o hk,hc,n,by simpa using hs⟩,?_⟩
  have e:=r.length
  simp only[Array.length_toList]at e
  omega
theorem Inv.list_inj (I:Inv X pins σ H s) (h:SqL X.K H a xs) (h':SqL X.K H a ys):xs=ys:=by
 obtain⟨its,r,⟨o,n,e,_,_,d⟩,_⟩:=I.list h
 obtain⟨its',r',⟨o',n',e',_,_,d'⟩,_⟩:=I.list h'
 rw[e]at e';cases e'
 rw[d]at d'
 injection d' with d1 _
 have:its=its':=by simpa using congrArg Array.toList d1
 subst this
 exact r.inj r'
end
abbrev Cx.wish (X:Cx) (E:Value->Shared->Prop):Cx:={X with xe:=E}
abbrev Cx.nox (X:Cx):Cx:=X.wish fun _ _=>False
theorem Cx.Ok.wish {X:Cx} (ok:X.Ok) (E:Value->Shared->Prop):(X.wish E).Ok:=
 ⟨ok.mod,ok.kind,ok.glob,ok.blt,ok.above,ok.inj,ok.has,ok.cab,ok.hd,ok.frames,ok.stk,ok.exf,ok.bs,ok.bsz,ok.noex,ok.exfs,ok.funs,ok.frf⟩
theorem Cx.Ok.unwish {X:Cx} {E:Value->Shared->Prop} (ok:(X.wish E).Ok):X.Ok:=
 ⟨ok.mod,ok.kind,ok.glob,ok.blt,ok.above,ok.inj,ok.has,ok.cab,ok.hd,ok.frames,ok.stk,ok.exf,ok.bs,ok.bsz,ok.noex,ok.exfs,ok.funs,ok.frf⟩
section
variable {X:Cx} {pins:List (Addr×Obj)} {σ:St} {H:Hp} {s:Shared} {E:Value->Shared->Prop}
theorem Inv.wish (I:Inv X pins σ H s) (E:Value->Shared->Prop):Inv (X.wish E) pins σ H s:=⟨I.ok.wish E,I.os,I.bare,I.base,I.loc,I.cell,I.free,I.freeC,I.pin,I.hok,I.len⟩
theorem Inv.unwish (I:Inv (X.wish E) pins σ H s):Inv X pins σ H s:=⟨I.ok.unwish,I.os,I.bare,I.base,I.loc,I.cell,I.free,I.freeC,I.pin,I.hok,I.len⟩
theorem SP.unwish {D:Ends} {f:Flow} {s':Shared} (h:SP (X.wish E) pins D f s'):SP X pins D f s':=by
 cases f with
 |next=>obtain⟨σ',H',I,q⟩:=h;exact⟨σ',H',I.unwish,q⟩
 |brk=>obtain⟨σ',H',I,q⟩:=h;exact⟨σ',H',I.unwish,q⟩
 |cont=>obtain⟨σ',H',I,q⟩:=h;exact⟨σ',H',I.unwish,q⟩
 |ret u=>obtain⟨v,σ',H',I,r,q⟩:=h;exact⟨v,σ',H',I.unwish,r,q⟩
theorem PSs.nox {st:List Stmt} {t:TS} (h:PSs X.nox st t):PSs X st t:=fun pins s σ H D I hw=>
 wpAny_mono (h pins s σ H D (I.wish _) hw) (fun _ _ q=>q.unwish) fun _ _ z=>False.elim z
end
section
variable {X:Cx} {st:Stmt} {rest:List Stmt} {t u:TS} {e:Expr} {te:TE} {pos:Pos}
def tNext:TS:=fun D σ H=>D.nx σ H
def tSeq (t u:TS):TS:=fun D σ H=>t {D with nx:=u D} σ H
theorem pss_nil:PSs X [] tNext:=fun _ _ σ H _ I h=>wpAny_execs_nil ⟨σ,H,I,h⟩
theorem pss_cons (h1:PS X st t) (h2:PSs X rest u):PSs X (st::rest) (tSeq t u):=by
 intro pins s σ H D I h
 refine wpAny_execs_cons (thn (h1 pins s σ H {D with nx:=u D} I h) fun f s1 q=>?_)
 cases f with
 |next=>
  obtain⟨σ',H',I',q⟩:=q
  exact h2 pins s1 σ' H' D I' q
 |ret v=>exact q
 |brk=>exact q
 |cont=>exact q
theorem pss_one (h1:PS X st t):PSs X [st] t:=by
 intro pins s σ H D I h
 refine wpAny_execs_cons (thn (h1 pins s σ H D I h) fun f s1 q=>?_)
 cases f with
 |next=>exact wpAny_execs_nil q
 |ret v=>exact q
 |brk=>exact q
 |cont=>exact q
theorem Inv.quiet {pins:List (Addr×Obj)} {σ:St} {H:Hp} {s:Shared} (I:Inv X pins σ H s):interactive X.env=false:=by simp[interactive,I.ok.kind]
def tDrop (te:TE):TS:=fun D σ H=>te σ H fun _ H1=>D.nx σ H1
theorem ps_expr (he:PE X e te) (hs:swapsWith e none pos.line X.env=pure false:=by rfl):PS X (.Expr e pos) (tDrop te):=by
 intro pins s σ H D I h
 exact wpAny_Expr_any (thn (he pins s σ H _ I h) fun v s1 ⟨x,H1,I1,r1,q1⟩=>⟨σ,H1,I1,q1⟩) I.quiet hs
def tRet (te:TE):TS:=fun D σ H=>te σ H D.rt
theorem ps_ret (he:PE X e te):PS X (.Return (some e) pos) (tRet te):=by
 intro pins s σ H D I h
 exact wpAny_Return_some (thn (he pins s σ H _ I h) fun v s1 ⟨x,H1,I1,r1,q1⟩=>⟨x,σ,H1,I1,r1,q1⟩)
def tIfS (c:TT) (t u:TS):TS:=fun D σ H=>c σ H fun b H1=>if b=true then t D σ H1 else u D σ H1
theorem ps_if {c:Expr} {a b:List Stmt} {tc:TT} (hc:PT X c tc) (ha:PSs X a t) (hb:PSs X b u):PS X (.If c a b pos) (tIfS tc t u):=by
 intro pins s σ H D I h
 refine wpAny_If (thn (hc pins s σ H _ I h) fun d s1 ⟨H1,I1,q1⟩=>?_)
 cases d with
 |true=>exact ha pins s1 σ H1 D I1 q1
 |false=>exact hb pins s1 σ H1 D I1 q1
end
abbrev TG:=V->St->Hp->(St->Hp->Prop)->Prop
abbrev TGs:=List V->St->Hp->(St->Hp->Prop)->Prop
def PG (X:Cx) (target:Expr) (t:TG):Prop:=
 ∀(pins:List (Addr×Obj)) (s:Shared) (σ:St) (H:Hp) (v:V) (u:Value) (Q:St->Hp->Prop),Inv X pins σ H s->RelV v u->t v σ H Q ->
  wpAny (model X.prog X.w) X.A (assign target X.env u) (fun _ s'=>∃σ' H',Inv X pins σ' H' s'/\Q σ' H') X.xe s
def PGs (X:Cx) (ts:List Expr) (t:TGs):Prop:=
 ∀(pins:List (Addr×Obj)) (s:Shared) (σ:St) (H:Hp) (vs:List V) (us:List Value) (Q:St->Hp->Prop),Inv X pins σ H s->Vals vs us->t vs σ H Q ->
  wpAny (model X.prog X.w) X.A (assignInOrder ((assignEach ts X.env).map (·.2)) us) (fun _ s'=>∃σ' H',Inv X pins σ' H' s'/\Q σ' H') X.xe s
section
variable {X:Cx} {pos:Pos}
def gName (i:Nat):TG:=fun v σ H Q=>Q (σ.set i (some v)) H
theorem pg_name {i:Nat} {x:Str} (hN:X.N.Nodup) (hi:X.N[i]?=some x) (hx:Loc X.env.scope x) (hf:X.fn x=true\/X.env.scope.names.lookup x=some .local:=by first|exact .inl rfl|exact .inr rfl|assumption):PG X (.Name x pos) (gName i):=by
 intro pins s σ H v u Q I r h
 exact wpAny_assign_Name (store_ok I hN hi hx r (fun s' I'=>⟨_,H,I',h⟩) hf)
def gNil:TGs:=fun vs σ H Q=>vs=[]/\Q σ H
def gCons (t:TG) (u:TGs):TGs:=fun vs σ H Q=>∃v r,vs=v::r/\t v σ H fun σ' H'=>u r σ' H' Q
theorem pgs_nil:PGs X [] gNil:=by
 intro pins s σ H vs us Q I r h
 obtain⟨e,h⟩:=h
 subst e
 cases r
 exact assignInOrder_nil ⟨σ,H,I,h⟩
theorem pgs_cons {e:Expr} {es:List Expr} {t:TG} {u:TGs} (h1:PG X e t) (h2:PGs X es u)
  (hs:(assignEach (e::es) X.env).map (·.2)=assign e X.env::(assignEach es X.env).map (·.2):=by rfl):PGs X (e::es) (gCons t u):=by
 intro pins s σ H vs us Q I r h
 obtain⟨v,vr,e1,h⟩:=h
 subst e1
 cases r with
 |cons r rr=>
  rw[hs]
  refine assignInOrder_cons (thn (h1 pins s σ H _ _ _ I r h) fun _ s1 ⟨σ1,H1,I1,q1⟩=>?_)
  exact h2 pins s1 σ1 H1 _ _ Q I1 rr q1
def gTup (K:PySem.W.Frag) (n:Nat) (t:TGs):TG:=fun v σ H Q=>∃a xs,v=.ref a/\SqT K H a xs/\xs.length=n/\t xs σ H Q
theorem pg_tup {es:List Expr} {k:Nat} {t:TGs} {n:Nat} (hc:X.calm=true) (h:PGs X es t)
  (hn:(assignEach es X.env).length=n:=by rfl) (hst:(assignEach es X.env).findIdx? (·.1)=none:=by rfl):PG X (.Tuple es k pos) (gTup X.K n t):=by
 intro pins s σ H v u Q I r hw
 obtain⟨a,xs,e1,hq,hl,hw⟩:=hw
 subst e1
 cases r
 obtain⟨its,rv,ht,hz⟩:=I.tuple hq
 refine assign_Tuple_tuple (I.ok.hd hc) ht (by simp[hn,<-hl,rv.length]) hst fun h' hx=>?_
 have I1:Inv X pins σ H {s with heap:=h'}:=I.kept (t':=s.toks) fun b o e=>hx b o (Nat.ne_of_lt (Heap.lt_size e)) e
 exact h pins _ σ H xs _ Q I1 (by simpa using rv) hw
def tAsg (te:TE) (g:TG):TS:=fun D σ H=>te σ H fun x H1=>g x σ H1 D.nx
theorem ps_set {i:Nat} {x:Str} {e:Expr} {te:TE} {pos':Pos} (hN:X.N.Nodup) (hi:X.N[i]?=some x) (hx:Loc X.env.scope x) (he:PE X e te) (hs:swapsWith e (some (.Name x pos')) pos.line X.env=pure false:=by rfl) (hf:X.fn x=true\/X.env.scope.names.lookup x=some .local:=by first|exact .inl rfl|exact .inr rfl|assumption) :
  PS X (.Assign [.Name x pos'] e pos) (tAsg te (gName i)):=by
 intro pins s σ H D I h
 refine wpAny_Assign_Name (thn (he pins s σ H _ I h) fun v s1 ⟨y,H1,I1,r1,q1⟩=>?_) hs
 exact store_ok I1 hN hi hx r1 (fun s2 I2=>⟨_,H1,I2,q1⟩) hf
end
section
variable {X:Cx} {pos:Pos}
def tWhile (c:TT) (tb:TS):TS:=fun D σ H=>∃W:Nat->St->Hp->Prop,(∃m,W m σ H)/\∀m σ H,W m σ H ->
 c σ H fun b H1=>if b=true then ∃N:St->Hp->Prop,(∀σ' H',N σ' H'->∃m',m'<m/\W m' σ' H')/\tb {D with nx:=N,ct:=N,bk:=D.nx} σ H1 else D.nx σ H1
theorem ps_while {c:Expr} {body:List Stmt} {tc:TT} {tb:TS} (hp:PassesOwn (model X.prog X.w) X.A X.env X.xe) (hc:PT X c tc) (hb:PSs X body tb):PS X (.While c body [] pos) (tWhile tc tb):=by
 intro pins s σ H D I h
 obtain⟨W,⟨m0,w0⟩,turn⟩:=h
 refine wpAny_While (codeAny_whileLoop (fun n s'=>∃σ' H',Inv X pins σ' H' s'/\W n σ' H') ?_ m0 ⟨σ,H,I,w0⟩)
 rintro n s1 ⟨σ1,H1,I1,w1⟩
 refine wpAny_passesOwn hp (thn (hc pins s1 σ1 H1 _ I1 (turn n σ1 H1 w1)) fun b s2 ⟨H2,I2,q2⟩=>?_)
 cases b with
 |true=>
  obtain⟨N,hN,q2⟩:=q2
  rw[if_pos rfl]
  refine wpAny_passesOwn hp (thn (hb pins s2 σ1 H2 _ I2 q2) fun f s3 q3=>?_)
  cases f with
  |next=>
   obtain⟨σ3,H3,I3,n3⟩:=q3
   obtain⟨m',hm,w3⟩:=hN σ3 H3 n3
   exact⟨m',hm,σ3,H3,I3,w3⟩
  |cont=>
   obtain⟨σ3,H3,I3,n3⟩:=q3
   obtain⟨m',hm,w3⟩:=hN σ3 H3 n3
   exact⟨m',hm,σ3,H3,I3,w3⟩
  |brk=>exact q3
  |ret v=>exact q3
 |false=>
  rw[if_neg Bool.false_ne_true]
  exact wpAny_execs_nil ⟨σ1,H2,I2,q2⟩
end
structure It where
 go:Nat->Hp->Prop
 yld:Nat->Hp->V->Hp->Prop
 stop:Nat->Hp->Prop
def FpOk (X:Cx) (pins:List (Addr×Obj)) (H:Hp) (b:Addr):Prop:=
 H b=none/\b≠X.env.locals/\b ∉ X.fs/\(b∈X.ex\/X.s_0.heap.objs.size<=b)/\(∀x c,X.env.cells.lookup x=some c->c≠b)/\∀p∈X.pn++pins,p.1≠b
theorem Inv.fpOk {X:Cx} {pins:List (Addr×Obj)} {σ:St} {H H':Hp} {s:Shared} {b:Addr} (I:Inv X pins σ H s) (hb:s.heap.objs.size<=b) (hn:H' b=none):FpOk X pins H' b:=by
 refine⟨hn,Nat.ne_of_gt (Nat.lt_of_lt_of_le I.lt hb),I.nofs hb,.inr (Nat.le_trans I.sz hb),fun x c e z=>?_,fun p hp z=>?_⟩
 ·obtain⟨v,q⟩:=I.cell x c e
  exact absurd (Nat.lt_of_lt_of_le q.lt (by rw[z];exact hb)) (Nat.lt_irrefl _)
 ·exact absurd (Nat.lt_of_lt_of_le (Heap.lt_size (I.pin p hp).1) (by rw[z];exact hb)) (Nat.lt_irrefl _)
structure Turn (P:Program) (w:World) (K:PySem.W.Frag) (tg:Expr) (J:It) (fp:List Addr) (it:Addr) (tn:Nat->Heap->Prop):Prop where
 mem:it∈fp
 obj:∀i h,tn i h->∀b∈fp,∃o,h.get? b=some o/\∀v,o.data≠.cell v
 keep:∀i h h',tn i h->(∀b∈fp,∀o,h.get? b=some o->h'.get? b=some o)->tn i h'
 item:∀(X:Cx),X.prog=P->X.w=w->X.K=K->X.calm=true->∀(i:Nat) (pins:List (Addr×Obj)) (s:Shared) (σ:St) (H:Hp) (E:Value->Shared->Prop),Inv X pins σ H s->(∀b∈fp,FpOk X pins H b)->tn i s.heap->J.go i H ->
  wpAny (model P w) X.A (pyNext (.ref it)) (fun r s1=>∃u,r=some u /\
   wpAny (model P w) X.A (letOwnedTupleGo tg (.ref it) u) (fun _ s2=>∃x H',Inv X pins σ H' s2/\RelV x u/\J.yld i H x H'/\tn (i+1) s2.heap/\∀b∈fp,H' b=none) E s1) E s
 done:∀(X:Cx),X.prog=P->X.w=w->X.K=K->X.calm=true->∀(i:Nat) (pins:List (Addr×Obj)) (s:Shared) (σ:St) (H:Hp) (E:Value->Shared->Prop),Inv X pins σ H s->(∀b∈fp,FpOk X pins H b)->tn i s.heap->J.stop i H ->
  wpAny (model P w) X.A (pyNext (.ref it)) (fun r s1=>r=none/\Inv X pins σ H s1) E s
 self:∀(A:Around) (i:Nat) (s:Shared) (Q:Value->Shared->Prop) (E:Value->Shared->Prop),tn i s.heap->Q (.ref it) s->wpAny (model P w) A (pyIter (.ref it)) Q E s
abbrev TI:=St->Hp->(It->Hp->Prop)->Prop
def PIE (X:Cx) (pins:List (Addr×Obj)) (σ:St) (tg:Expr) (R:It->Hp->Prop) (itv:Value) (s2:Shared):Prop:=
 ∃(it:Addr) (fp:List Addr) (tn:Nat->Heap->Prop) (J:It) (H':Hp),itv=.ref it/\Inv X pins σ H' s2/\Turn X.prog X.w X.K tg J fp it tn/\tn 0 s2.heap/\(∀b∈fp,FpOk X pins H' b)/\R J H'
def PI (X:Cx) (tg iter:Expr) (wi:TI):Prop:=
 ∀(pins:List (Addr×Obj)) (s:Shared) (σ:St) (H:Hp) (R:It->Hp->Prop),Inv X pins σ H s->wi σ H R ->
  wpAny (model X.prog X.w) X.A (eval iter X.env) (fun v s1=>wpAny (model X.prog X.w) X.A (pyIter v) (PIE X pins σ tg R) X.xe s1) X.xe s
theorem go_of {M:Model} {A:Around} {E:Value->Shared->Prop} {s:Shared} {tg:Expr} {it:Addr} {u:Value} {o:Obj} {n:String} {vs:Array Value} {Q:Unit->Shared->Prop} (ho:s.heap.get? it=some o) (hc:o.cls=.type n) (hd:o.data=.fields vs)
  (hn:["enumerate","zip","dict_itemiterator","dict_reverseitemiterator","odict_iterator","itertools.zip_longest","itertools.pairwise"].contains n=false) (hQ:Q () s):wpAny M A (letOwnedTupleGo tg (.ref it) u) Q E s:=by
 unfold letOwnedTupleGo
 cases tg<;>first
  |exact wpAny_pure hQ
  |(cases u<;>first
    |exact wpAny_pure hQ
    |(refine wpAny_bind (wpAny_load ho ?_)
      rw[hc,hd]
      show wpAny M A (if(["enumerate","zip","dict_itemiterator","dict_reverseitemiterator","odict_iterator","itertools.zip_longest","itertools.pairwise"].contains n&&vs[0]?==some (rawInt _))=true then _ else _) Q E s
      rw[if_neg (by intro h;rw[hn,Bool.false_and]at h;cases h)]
      exact wpAny_pure hQ))
def Itl (K:PySem.W.Frag) (a:Addr):It:=
 ⟨fun i H=>∃xs x,SqL K H a xs/\xs[i]?=some x,fun i H x H'=>H'=H/\∀xs,SqL K H a xs->xs[i]?=some x,fun i H=>∃xs,SqL K H a xs/\xs.length<=i⟩
theorem turn_list {P:Program} {w:World} {K:PySem.W.Frag} {tg:Expr} (a it:Addr):Turn P w K tg (Itl K a) [it] it (fun i h=>h.IsListIter it a i) where
 mem:=by simp
 obj:=fun i h st b hb=>by
  have e:b=it:=by simpa using hb
  subst e
  obtain⟨o,e,c,d⟩:=st
  exact⟨o,e,fun v z=>by rw[d]at z;cases z⟩
 keep:=fun i h h' st k=>st.at fun o e=>k it (by simp) o e
 item:=by
  intro X hP hw hK hc i pins s σ H E I hf st hg
  subst hP hw hK
  obtain⟨xs,x,hq,hx⟩:=hg
  obtain⟨its,rv,p,hz⟩:=I.list hq
  obtain⟨u,hu,ru⟩:=rv.get hx
  obtain⟨f0,f1,f2,f3,f4,f5⟩:=hf it (by simp)
  refine wpAny_pyNext_list_item st p.isList (x:=u) (by simpa using hu) fun h' st' sb=>?_
  have I1:Inv X pins σ H {s with heap:=h'}:=I.turned (t':=s.toks) (fun b o hb e=>(sb.2 b hb).trans e) f0 f1 f3 f4 f5
  obtain⟨o,e,c,d⟩:=id st'
  exact⟨u,rfl,go_of (s:={s with heap:=h'}) e c d (by decide) ⟨x,H,I1,ru,⟨rfl,fun ys hy=>by rw[I.list_inj hy hq];exact hx⟩,st',fun b hb=>(hf b hb).1⟩⟩
 done:=by
  intro X hP hw hK hc i pins s σ H E I hf st hg
  subst hP hw hK
  obtain⟨xs,hq,hx⟩:=hg
  obtain⟨its,rv,p,hz⟩:=I.list hq
  obtain⟨f0,f1,f2,f3,f4,f5⟩:=hf it (by simp)
  have hl:=rv.length
  exact wpAny_pyNext_list_end (I.ok.hd hc) st p.isList (by simp;omega) fun h' eb=>⟨rfl,I.turned (t':=s.toks) (fun b o hb e=>eb b o hb e) f0 f1 f3 f4 f5⟩
 self:=fun _ _ _ _ _ st h=>wpAny_pyIter_listiter st h
end L2
namespace L2
open PySem PySem.Spec PyProof.Rows
section
variable {X:Cx} {tg:Expr}
def iList (K:PySem.W.Frag) (tl:TE):TI:=fun σ H R=>tl σ H fun x H1=>∃a,x=.ref a/\(∃xs,SqL K H1 a xs)/\R (Itl K a) H1
theorem pi_list {l:Expr} {tl:TE} (hl:PE X l tl):PI X tg l (iList X.K tl):=by
 intro pins s σ H R I h
 refine thn (hl pins s σ H _ I h) fun v s1 ⟨x,H1,I1,r1,q1⟩=>?_
 obtain⟨a,e,⟨xs,hq⟩,q⟩:=q1
 subst e
 cases r1
 obtain⟨its,rv,p,hz⟩:=I1.list hq
 refine wpAny_pyIter_list p.isList ?_
 refine⟨s1.heap.objs.size,[s1.heap.objs.size],_,_,H1,rfl,I1.kept (t':=s1.toks) fun b o e=>Heap.get?_push_of_some _ e,turn_list a _,⟨_,Heap.get?_push_size _ rfl,rfl,rfl⟩,fun b hb=>?_,q⟩
 have e:b=s1.heap.objs.size:=by simpa using hb
 subst e
 exact I1.fpOk (Nat.le_refl _) (I1.hok.fresh (Nat.le_refl _))
def tFor (wi:TI) (g:TG) (tb:TS):TS:=fun D σ H=>wi σ H fun J H1=>∃W:Nat->Nat->St->Hp->Prop,(∃m,W 0 m σ H1)/\∀i m σ H,W i m σ H ->
 (J.stop i H/\D.nx σ H)\/(J.go i H/\∃N:St->Hp->Prop,(∀σ' H',N σ' H'->∃m',m'<m/\W (i+1) m' σ' H')/\∀x H',J.yld i H x H'->g x σ H' fun σ2 H2=>tb {D with nx:=N,ct:=N,bk:=D.nx} σ2 H2)
def pinsAt (fp:List Addr) (h:Heap):List (Addr×Obj):=fp.filterMap fun b=>(h.get? b).map fun o=>(b,o)
theorem mem_pinsAt {fp:List Addr} {h:Heap} {b:Addr} {o:Obj} (hb:b∈fp) (e:h.get? b=some o):(b,o)∈pinsAt fp h:=List.mem_filterMap.mpr ⟨b,hb,by rw[e];rfl⟩
theorem of_pinsAt {fp:List Addr} {h:Heap} {p:Addr×Obj} (hp:p∈pinsAt fp h):p.1∈fp/\h.get? p.1=some p.2:=by
 obtain⟨b,hb,e⟩:=List.mem_filterMap.mp hp
 cases q:h.get? b with
 |none=>rw[q]at e;cases e
 |some o=>
  rw[q]at e
  have e':(b,o)=p:=Option.some.inj e
  subst e'
  exact⟨hb,q⟩
theorem Inv.pinned {pins:List (Addr×Obj)} {σ:St} {H:Hp} {s:Shared} {fp:List Addr} (I:Inv X pins σ H s) (hf:∀b∈fp,FpOk X pins H b) (ho:∀b∈fp,∃o,s.heap.get? b=some o/\∀v,o.data≠.cell v):Inv X (pins++pinsAt fp s.heap) σ H s:=
 I.pins_of fun p hp=>(List.mem_append.mp hp).elim (fun z=>I.pin p (List.mem_append_right _ z)) fun z=>by
  obtain⟨hb,e⟩:=of_pinsAt z
  obtain⟨f0,f1,f2,_⟩:=hf p.1 hb
  obtain⟨o,e',d⟩:=ho p.1 hb
  rw[e]at e';cases e'
  exact⟨e,f0,f1,f2,d⟩
theorem Inv.unpinned {pins pl:List (Addr×Obj)} {σ:St} {H:Hp} {s:Shared} (I:Inv X (pins++pl) σ H s):Inv X pins σ H s:=I.pins_of fun p hp=>I.pin p (List.mem_append_right _ (List.mem_append_left _ hp))
theorem ps_for {iter:Expr} {body:List Stmt} {wi:TI} {g:TG} {tb:TS} {pos:Pos} (hp:PassesOwn (model X.prog X.w) X.A X.env X.xe) (hc:X.calm=true) (hi:PI X tg iter wi) (hg:PG X tg g) (hb:PSs X body tb)
  (hs:∀x,foldedSetIterable iter X.env x=pure x:=by intro _;rfl):PS X (.For tg iter body [] pos) (tFor wi g tb):=by
 intro pins s σ H D I h
 refine wpAny_For (thn (hi pins s σ H _ I h) fun v s1 h1=>thn h1 fun itv s2 h2=>?_) hs
 obtain⟨it,fp,tn,J,H2,e,I2,T,st2,f2,W,⟨m0,w0⟩,turn⟩:=h2
 subst e
 have stat:∀{H':Hp},(∀b∈fp,H' b=none)->∀b∈fp,FpOk X pins H' b:=fun hn b hb=>⟨hn b hb,(f2 b hb).2⟩
 refine codeAny_forLoop_any (fun n s'=>∃i σ' H',Inv X pins σ' H' s'/\tn i s'.heap/\(∀b∈fp,H' b=none)/\W i n σ' H') ?_ m0 ⟨0,σ,H2,I2,st2,fun b hb=>(f2 b hb).1,w0⟩
 rintro n s3 ⟨i,σ3,H3,I3,st3,fr3,w3⟩
 rcases turn i n σ3 H3 w3 with⟨stop,qn⟩|⟨go,N,hN,step⟩
 ·refine wpAny_passesOwn hp (thn (T.done X rfl rfl rfl hc i pins s3 σ3 H3 X.xe I3 (stat fr3) st3 stop) fun r s4 ⟨hr,I4⟩=>?_)
  subst hr
  exact wpAny_execs_nil ⟨σ3,H3,I4,qn⟩
 ·refine wpAny_passesOwn hp (thn (T.item X rfl rfl rfl hc i pins s3 σ3 H3 X.xe I3 (stat fr3) st3 go) fun r s4 ⟨u,hr,h4⟩=>?_)
  subst hr
  refine wpAny_passesOwn hp (thn h4 fun _ s5 ⟨x,H5,I5,r5,y5,st5,fr5⟩=>?_)
  have I5':=I5.pinned (stat fr5) (T.obj _ _ st5)
  refine wpAny_passesOwn hp (thn (hg _ s5 σ3 H5 x u _ I5' r5 (step x H5 y5)) fun _ s6 ⟨σ6,H6,I6,q6⟩=>?_)
  refine wpAny_passesOwn hp (thn (hb _ s6 σ6 H6 _ I6 q6) fun f s7 q7=>?_)
  have again:∀{σ7:St} {H7:Hp},Inv X (pins++pinsAt fp s5.heap) σ7 H7 s7->N σ7 H7->∃m,m<n/\∃i σ' H',Inv X pins σ' H' s7/\tn i s7.heap/\(∀b∈fp,H' b=none)/\W i m σ' H':=fun{σ7 H7} I7 n7=>by
   obtain⟨m',hm,w7⟩:=hN σ7 H7 n7
   refine⟨m',hm,i+1,σ7,H7,I7.unpinned,T.keep _ _ _ st5 fun b hb o e=>(I7.pin (b,o) (List.mem_append_right _ (List.mem_append_right _ (mem_pinsAt hb e)))).1,fun b hb=>?_,w7⟩
   obtain⟨o,e,d⟩:=T.obj _ _ st5 b hb
   exact(I7.pin (b,o) (List.mem_append_right _ (List.mem_append_right _ (mem_pinsAt hb e)))).2.1
  cases f with
  |next=>obtain⟨σ7,H7,I7,n7⟩:=q7;exact again I7 n7
  |cont=>obtain⟨σ7,H7,I7,n7⟩:=q7;exact again I7 n7
  |brk=>obtain⟨σ7,H7,I7,q7⟩:=q7;exact⟨σ7,H7,I7.unpinned,q7⟩
  |ret v=>obtain⟨x7,σ7,H7,I7,r7,q7⟩:=q7;exact⟨x7,σ7,H7,I7.unpinned,r7,q7⟩
end
theorem for_list {K:PySem.W.Frag} {a:Addr} {xs:List V} {g:TG} {tb:TS} {D:Ends} {σ:St} {H:Hp} (Pv:Nat->St->Hp->Prop) (h0:Pv 0 σ H) (hl:∀i σ H,i<=xs.length->Pv i σ H->SqL K H a xs)
  (hs:∀i x σ H,xs[i]?=some x->Pv i σ H->g x σ H fun σ2 H2=>tb {D with nx:=Pv (i+1),ct:=Pv (i+1),bk:=D.nx} σ2 H2) (hd:∀σ H,Pv xs.length σ H->D.nx σ H) :
  ∃W:Nat->Nat->St->Hp->Prop,(∃m,W 0 m σ H)/\∀i m σ H,W i m σ H ->
   ((Itl K a).stop i H/\D.nx σ H)\/((Itl K a).go i H/\∃N:St->Hp->Prop,(∀σ' H',N σ' H'->∃m',m'<m/\W (i+1) m' σ' H')/\∀x H',(Itl K a).yld i H x H'->g x σ H' fun σ2 H2=>tb {D with nx:=N,ct:=N,bk:=D.nx} σ2 H2):=by
 refine⟨fun i m σ H=>m=xs.length-i/\i<=xs.length/\Pv i σ H,⟨xs.length,by simp,Nat.zero_le _,h0⟩,?_⟩
 rintro i m σ H ⟨rfl,hi,p⟩
 have q:=hl i σ H hi p
 by_cases hlt:i<xs.length
 ·refine .inr ⟨⟨xs,xs[i],q,by simp[hlt]⟩,Pv (i+1),fun σ' H' p'=>⟨xs.length-(i+1),by omega,rfl,hlt,p'⟩,fun x H' y=>?_⟩
  obtain⟨e,y⟩:=y
  subst e
  exact hs i x σ _ (y xs q) p
 ·have e:i=xs.length:=by omega
  subst e
  exact .inl ⟨⟨xs,q,Nat.le_refl _⟩,hd σ H p⟩
end L2
namespace L2
open PySem PySem.Spec PyProof.Rows
abbrev R2:=V->V->Hp->VK->Prop
def OpR (X:Cx) (f:Value->Value->Sem Value) (r:R2):Prop:=
 ∀(pins:List (Addr×Obj)) (s:Shared) (σ:St) (H:Hp) (x y:V) (v u:Value) (Q:VK),Inv X pins σ H s->RelV x v->RelV y u->r x y H Q ->
  wpAny (model X.prog X.w) X.A (f v u) (EP X pins σ Q) X.xe s
def UnR (X:Cx) (f:Value->Sem Value) (r:V->Hp->VK->Prop):Prop:=
 ∀(pins:List (Addr×Obj)) (s:Shared) (σ:St) (H:Hp) (x:V) (v:Value) (Q:VK),Inv X pins σ H s->RelV x v->r x H Q ->
  wpAny (model X.prog X.w) X.A (f v) (EP X pins σ Q) X.xe s
def CallR (X:Cx) (f:Value) (r:List V->Hp->VK->Prop):Prop:=
 ∀(pins:List (Addr×Obj)) (s:Shared) (σ:St) (H:Hp) (xs:List V) (us:List Value) (Q:VK),Inv X pins σ H s->Vals xs us->r xs H Q ->
  wpAny (model X.prog X.w) X.A (call f us) (EP X pins σ Q) X.xe s
def TruR (X:Cx) (r:V->Hp->(Bool->Hp->Prop)->Prop):Prop:=
 ∀(pins:List (Addr×Obj)) (s:Shared) (σ:St) (H:Hp) (x:V) (v:Value) (Q:Bool->Hp->Prop),Inv X pins σ H s->RelV x v->r x H Q ->
  wpAny (model X.prog X.w) X.A (truthy v) (TP X pins σ Q) X.xe s
def tOp (r:R2) (ta tb:TE):TE:=fun σ H Q=>ta σ H fun x H1=>tb σ H1 fun y H2=>r x y H2 Q
def tUn (r:V->Hp->VK->Prop) (ta:TE):TE:=fun σ H Q=>ta σ H fun x H1=>r x H1 Q
def rI (C:Int->Int->Prop) (g:Int->Int->V):R2:=fun x y H Q=>∃i j,x=.int i/\y=.int j/\C i j/\Q (g i j) H
def rI0 (g:Int->Int->V):R2:=fun x y H Q=>∃i j,x=.int i/\y=.int j/\Q (g i j) H
def rU (g:Int->V):V->Hp->VK->Prop:=fun x H Q=>∃i,x=.int i/\Q (g i) H
section
variable {X:Cx} {a b c:Expr} {ta tb tc:TE} {pos:Pos}
theorem binT (ha:PE X a ta) (hb:PE X b tb) {pins:List (Addr×Obj)} {s:Shared} {σ:St} {H:Hp} {R:V->V->Hp->Prop} (I:Inv X pins σ H s)
  (h:ta σ H fun x H1=>tb σ H1 fun y H2=>R x y H2) {Q:Value->Shared->Prop} {f:Value->Value->Sem Value}
  (hf:∀v u s2 x y H2,Inv X pins σ H2 s2->RelV x v->RelV y u->R x y H2->wpAny (model X.prog X.w) X.A (f v u) Q X.xe s2) :
  wpAny (model X.prog X.w) X.A (eval a X.env) (fun v s₁=>wpAny (model X.prog X.w) X.A (eval b X.env) (fun u s₂=>wpAny (model X.prog X.w) X.A (f v u) Q X.xe s₂) X.xe s₁) X.xe s:=by
 refine thn (ha pins s σ H _ I h) fun v s1 ⟨x,H1,I1,r1,q1⟩=>?_
 refine thn (hb pins s1 σ H1 _ I1 q1) fun u s2 ⟨y,H2,I2,r2,q2⟩=>?_
 exact hf v u s2 x y H2 I2 r1 r2 q2
theorem pe_op {op:Operator} {r:R2} (ho:OpR X (binaryOp op) r) (ha:PE X a ta) (hb:PE X b tb):PE X (.BinOp a op b pos) (tOp r ta tb):=by
 intro pins s σ H Q I h
 exact wpAny_BinOp (binT ha hb I h fun v u s2 x y H2 I2 rx ry q=>ho pins s2 σ H2 x y v u Q I2 rx ry q)
theorem pe_un {op:UnaryOp} {r:V->Hp->VK->Prop} (ho:UnR X (unaryOp op) r) (ha:PE X a ta):PE X (.UnaryOp op a pos) (tUn r ta):=by
 intro pins s σ H Q I h
 exact UnaryOp_ (thn (ha pins s σ H _ I h) fun v s1 ⟨x,H1,I1,r1,q1⟩=>ho pins s1 σ H1 x v Q I1 r1 q1)
theorem opI {f:Value->Value->Sem Value} {C:Int->Int->Prop} {g:Int->Int->Int}
  (rule:∀(i j:Int) (t u:Tok) (s:Shared) (Q:Value->Shared->Prop) (E:Value->Shared->Prop),C i j->Q (.int (g i j) s.toks) {s with toks:=s.toks+1}->wpAny (model X.prog X.w) X.A (f (.int i t) (.int j u)) Q E s) :
  OpR X f (rI C fun i j=>.int (g i j)):=by
 intro pins s σ H x y v u Q I rx ry h
 obtain⟨i,j,rfl,rfl,hc,q⟩:=h
 obtain⟨t,rfl⟩:=rx
 obtain⟨t',rfl⟩:=ry
 exact rule i j t t' s _ _ hc ⟨.int (g i j),H,I.tok _,⟨_,rfl⟩,q⟩
theorem opI0 {f:Value->Value->Sem Value} {g:Int->Int->Int}
  (rule:∀(i j:Int) (t u:Tok) (s:Shared) (Q:Value->Shared->Prop) (E:Value->Shared->Prop),Q (.int (g i j) s.toks) {s with toks:=s.toks+1}->wpAny (model X.prog X.w) X.A (f (.int i t) (.int j u)) Q E s) :
  OpR X f (rI0 fun i j=>.int (g i j)):=by
 intro pins s σ H x y v u Q I rx ry h
 obtain⟨i,j,rfl,rfl,q⟩:=h
 obtain⟨t,rfl⟩:=rx
 obtain⟨t',rfl⟩:=ry
 exact rule i j t t' s _ _ ⟨.int (g i j),H,I.tok _,⟨_,rfl⟩,q⟩
theorem opB0 {f:Value->Value->Sem Value} {g:Int->Int->Bool}
  (rule:∀(i j:Int) (t u:Tok) (s:Shared) (Q:Value->Shared->Prop) (E:Value->Shared->Prop),Q (.bool (g i j)) s->wpAny (model X.prog X.w) X.A (f (.int i t) (.int j u)) Q E s) :
  OpR X f (rI0 fun i j=>.bl (g i j)):=by
 intro pins s σ H x y v u Q I rx ry h
 obtain⟨i,j,rfl,rfl,q⟩:=h
 obtain⟨t,rfl⟩:=rx
 obtain⟨t',rfl⟩:=ry
 exact rule i j t t' s _ _ ⟨.bl (g i j),H,I,rfl,q⟩
def CMul (i j:Int):Prop:=(-(2 ^ 64)<i/\i<2 ^ 64)\/(-(2 ^ 64)<j/\j<2 ^ 64)
theorem CMul.ok {i j:Int} (h:CMul i j):IntMulOk i j:=by
 rcases h with⟨h1,h2⟩|⟨h1,h2⟩
 ·exact .of_left (intBits_le_64 h1 h2)
 ·exact .of_right (intBits_le_64 h1 h2)
theorem op_add:OpR X (binaryOp .Add) (rI0 fun i j=>.int (i+j)):=opI0 fun _ _ _ _ _ _ _ q=>add_int q
theorem op_sub:OpR X (binaryOp .Sub) (rI0 fun i j=>.int (i-j)):=opI0 fun _ _ _ _ _ _ _ q=>sub_int q
theorem op_mul:OpR X (binaryOp .Mult) (rI CMul fun i j=>.int (i*j)):=opI fun _ _ _ _ _ _ _ hc q=>mul_int q hc.ok
theorem op_mod:OpR X (binaryOp .Mod) (rI (fun _ j=>0<j) fun i j=>.int (i % j)):=opI fun i j _ _ _ _ _ hc q=>by
 have h1:(0:Int)<j:=hc
 exact mod_int' (by omega) (by rw[Int.fmod_eq_emod_of_nonneg i (by omega)];exact q)
theorem unI {f:Value->Sem Value} {g:Int->Int}
  (rule:∀(i:Int) (t:Tok) (s:Shared) (Q:Value->Shared->Prop) (E:Value->Shared->Prop),Q (.int (g i) s.toks) {s with toks:=s.toks+1}->wpAny (model X.prog X.w) X.A (f (.int i t)) Q E s) :
  UnR X f (rU fun i=>.int (g i)):=by
 intro pins s σ H x v Q I rx h
 obtain⟨i,rfl,q⟩:=h
 obtain⟨t,rfl⟩:=rx
 exact rule i t s _ _ ⟨.int (g i),H,I.tok _,⟨_,rfl⟩,q⟩
theorem un_neg:UnR X (unaryOp .USub) (rU fun i=>.int (-i)):=unI fun _ _ _ _ _ q=>neg_int q
end
def scal:V->V->Bool
 |.non,.non=>true | .non,.int _=>true | .int _,.non=>true | .non,.bl _=>true | .bl _,.non=>true | .non,.str _=>true | .str _,.non=>true
 |.int _,.int _=>true | .bl _,.bl _=>true | .str _,.str _=>true | .byt _,.byt _=>true
 |.int _,.str _=>true | .str _,.int _=>true | .bl _,.str _=>true | .str _,.bl _=>true
 |_,_=>false
def rEq:R2:=fun x y H Q=>scal x y=true/\Q (.bl (decide (x=y))) H
def rNe:R2:=fun x y H Q=>scal x y=true/\Q (.bl (!decide (x=y))) H
theorem dec_int {i j:Int}:decide (V.int i=V.int j)=(i==j):=by
 rw[Bool.eq_iff_iff]
 simp
theorem dec_bl {i j:Bool}:decide (V.bl i=V.bl j)=(i==j):=by
 rw[Bool.eq_iff_iff]
 simp
theorem dec_str {i j:Str}:decide (V.str i=V.str j)=(i==j):=by
 rw[Bool.eq_iff_iff]
 simp
theorem dec_byt {i j:Array UInt8}:decide (V.byt i=V.byt j)=(i.toList==j.toList):=by
 rw[Bool.eq_iff_iff]
 cases i
 cases j
 simp
section
variable {X:Cx} {a b c:Expr} {ta tb tc:TE} {pos:Pos}
theorem fin_bl {pins:List (Addr×Obj)} {σ:St} {H:Hp} {s:Shared} {Q:VK} {k k':Bool} (I:Inv X pins σ H s) (q:Q (.bl k) H) (e:k=k'):EP X pins σ Q (.bool k') s:=by
 subst e
 exact⟨.bl k,H,I,rfl,q⟩
theorem op_eq:OpR X (compareOp .Eq) rEq:=by
 intro pins s σ H x y v u Q I rx ry h
 obtain⟨hs,q⟩:=h
 cases x with
 |non=>
  cases rx
  cases y with
  |non=>cases ry;exact PySem.EqNone.eq_none_none (fin_bl I q (by simp))
  |bl j=>cases ry;exact PySem.EqNone.eq_none_bool (fin_bl I q (by simp))
  |int j=>obtain⟨t',rfl⟩:=ry;exact PySem.EqNone.eq_none_int (fin_bl I q (by simp))
  |str j=>obtain⟨t',rfl⟩:=ry;exact PySem.EqNone.eq_none_str (fin_bl I q (by simp))
  |_=>exact absurd (show false=true from hs) Bool.false_ne_true
 |bl i=>
  cases rx
  cases y with
  |non=>cases ry;exact PySem.EqNone.eq_bool_none (fin_bl I q (by simp))
  |bl j=>cases ry;exact eq_bool (fin_bl I q dec_bl)
  |str j=>obtain⟨t',rfl⟩:=ry;exact PySem.EqMixed.eq_bool_str (fin_bl I q (by simp))
  |_=>exact absurd (show false=true from hs) Bool.false_ne_true
 |int i=>
  obtain⟨t,rfl⟩:=rx
  cases y with
  |non=>cases ry;exact PySem.EqNone.eq_int_none (fin_bl I q (by simp))
  |int j=>obtain⟨t',rfl⟩:=ry;exact eq_int (fin_bl I q dec_int)
  |str j=>obtain⟨t',rfl⟩:=ry;exact PySem.EqMixed.eq_int_str (fin_bl I q (by simp))
  |_=>exact absurd (show false=true from hs) Bool.false_ne_true
 |str i=>
  obtain⟨t,rfl⟩:=rx
  cases y with
  |non=>cases ry;exact PySem.EqNone.eq_str_none (fin_bl I q (by simp))
  |bl j=>cases ry;exact PySem.EqMixed.eq_str_bool (fin_bl I q (by simp))
  |int j=>obtain⟨t',rfl⟩:=ry;exact PySem.EqMixed.eq_str_int (fin_bl I q (by simp))
  |str j=>obtain⟨t',rfl⟩:=ry;exact eq_str (fin_bl I q dec_str)
  |_=>exact absurd (show false=true from hs) Bool.false_ne_true
 |byt i=>
  obtain⟨t,rfl⟩:=rx
  cases y with
  |byt j=>obtain⟨t',rfl⟩:=ry;exact PySem.W.eq_bytes (fin_bl I q dec_byt)
  |_=>exact absurd (show false=true from hs) Bool.false_ne_true
 |_=>cases y<;>exact absurd (show false=true from hs) Bool.false_ne_true
theorem op_ne:OpR X (compareOp .NotEq) rNe:=by
 intro pins s σ H x y v u Q I rx ry h
 obtain⟨hs,q⟩:=h
 cases x with
 |non=>
  cases rx
  cases y with
  |non=>cases ry;exact PySem.EqNone.ne_none_none (fin_bl I q (by simp))
  |bl j=>cases ry;exact PySem.EqNone.ne_none_bool (fin_bl I q (by simp))
  |int j=>obtain⟨t',rfl⟩:=ry;exact PySem.EqNone.ne_none_int (fin_bl I q (by simp))
  |str j=>obtain⟨t',rfl⟩:=ry;exact PySem.EqNone.ne_none_str (fin_bl I q (by simp))
  |_=>exact absurd (show false=true from hs) Bool.false_ne_true
 |bl i=>
  cases rx
  cases y with
  |non=>cases ry;exact PySem.EqNone.ne_bool_none (fin_bl I q (by simp))
  |bl j=>cases ry;exact ne_bool (fin_bl I q (congrArg not dec_bl))
  |str j=>obtain⟨t',rfl⟩:=ry;exact PySem.EqMixed.ne_bool_str (fin_bl I q (by simp))
  |_=>exact absurd (show false=true from hs) Bool.false_ne_true
 |int i=>
  obtain⟨t,rfl⟩:=rx
  cases y with
  |non=>cases ry;exact PySem.EqNone.ne_int_none (fin_bl I q (by simp))
  |int j=>obtain⟨t',rfl⟩:=ry;exact ne_int (fin_bl I q (congrArg not dec_int))
  |str j=>obtain⟨t',rfl⟩:=ry;exact PySem.EqMixed.ne_int_str (fin_bl I q (by simp))
  |_=>exact absurd (show false=true from hs) Bool.false_ne_true
 |str i=>
  obtain⟨t,rfl⟩:=rx
  cases y with
  |non=>cases ry;exact PySem.EqNone.ne_str_none (fin_bl I q (by simp))
  |bl j=>cases ry;exact PySem.EqMixed.ne_str_bool (fin_bl I q (by simp))
  |int j=>obtain⟨t',rfl⟩:=ry;exact PySem.EqMixed.ne_str_int (fin_bl I q (by simp))
  |str j=>obtain⟨t',rfl⟩:=ry;exact ne_str (fin_bl I q (congrArg not dec_str))
  |_=>exact absurd (show false=true from hs) Bool.false_ne_true
 |byt i=>
  obtain⟨t,rfl⟩:=rx
  cases y with
  |byt j=>obtain⟨t',rfl⟩:=ry;exact PySem.W.ne_bytes (fin_bl I q (congrArg not dec_byt))
  |_=>exact absurd (show false=true from hs) Bool.false_ne_true
 |_=>cases y<;>exact absurd (show false=true from hs) Bool.false_ne_true
theorem op_lt:OpR X (compareOp .Lt) (rI0 fun i j=>.bl (decide (i<j))):=opB0 fun _ _ _ _ _ _ _ q=>lt_int q
theorem op_le:OpR X (compareOp .LtE) (rI0 fun i j=>.bl (decide (i<=j))):=opB0 fun _ _ _ _ _ _ _ q=>le_int q
theorem op_gt:OpR X (compareOp .Gt) (rI0 fun i j=>.bl (decide (j<i))):=opB0 fun _ _ _ _ _ _ _ q=>gt_int q
theorem op_isN:OpR X (compareOp .Is) (fun x y H Q=>y=.non/\Q (.bl (decide (x=.non))) H):=by
 intro pins s σ H x y v u Q I rx ry h
 obtain⟨rfl,q⟩:=h
 cases ry
 refine is_none_gen (fin_bl I q ?_)
 cases x<;>first
  |(cases rx;rfl)
  |(obtain⟨t,rfl⟩:=rx;rfl)
theorem nomark (b:Expr) {op:CmpOp} (h:op≠.In:=by decide) (h2:op≠.NotIn:=by decide):behindInMarks op b=false:=by
 have e1:(op==CmpOp.In)=false:=by cases op<;>first|rfl|exact absurd rfl h
 have e2:(op==CmpOp.NotIn)=false:=by cases op<;>first|rfl|exact absurd rfl h2
 cases b<;>simp[behindInMarks,e1,e2]
theorem pe_cmpR {op:CmpOp} {r:R2} (ho:OpR X (compareOp op) r) (ha:PE X a ta) (hb:PE X b tb) (hm:behindInMarks op b=false):PE X (.Compare a [op] [b] pos) (tOp r ta tb):=by
 intro pins s σ H Q I h
 exact wpAny_Compare1 (binT ha hb I h fun v u s2 x y H2 I2 rx ry q=>ho pins s2 σ H2 x y v u Q I2 rx ry q) hm
def tTest (t:TE):TT:=fun σ H Q=>t σ H fun x H'=>∃k,x=.bl k/\Q k H'
theorem pt_cmpR {op:CmpOp} {r:R2} (ho:OpR X (compareOp op) r) (ha:PE X a ta) (hb:PE X b tb) (hm:behindInMarks op b=false):PT X (.Compare a [op] [b] pos) (tTest (tOp r ta tb)):=by
 intro pins s σ H Q I h
 refine wpAny_isTrue_Compare1 (thn (ha pins s σ H _ I h) fun v s1 ⟨x,H1,I1,r1,q1⟩=>thn (hb pins s1 σ H1 _ I1 q1) fun u s2 ⟨y,H2,I2,r2,q2⟩=>
  thn (ho pins s2 σ H2 x y v u _ I2 r1 r2 q2) fun c s3 ⟨z,H3,I3,r3,k,e,q3⟩=>?_) hm
 subst e
 cases r3
 exact wpAny_truthy_bool ⟨H3,I3,q3⟩
def tChain (r r':R2) (ta tb tc:TE):TE:=fun σ H Q=>ta σ H fun x H1=>tb σ H1 fun y H2=>r x y H2 fun z H3=>∃k,z=.bl k /\
 (if k=true then tc σ H3 fun w' H4=>r' y w' H4 Q else Q (.bl false) H3)
theorem pe_chain {op op':CmpOp} {r r':R2} (ho:OpR X (compareOp op) r) (ho':OpR X (compareOp op') r') (ha:PE X a ta) (hb:PE X b tb) (hc:PE X c tc)
  (hm:lastMarks [op,op'] [b,c]=false:=by with_unfolding_all rfl):PE X (.Compare a [op,op'] [b,c] pos) (tChain r r' ta tb tc):=by
 intro pins s σ H Q I h
 refine Compare_chain (thn (ha pins s σ H _ I h) fun v s1 ⟨x,H1,I1,r1,q1⟩=>chain_link (thn (hb pins s1 σ H1 _ I1 q1) fun u s2 ⟨y,H2,I2,r2,q2⟩=>
  thn (ho pins s2 σ H2 x y v u _ I2 r1 r2 q2) fun d s3 ⟨z,H3,I3,r3,k,e,q3⟩=>?_)) hm
 subst e
 cases r3
 refine wpAny_truthy_bool ?_
 cases k with
 |false=>exact ite_ff ⟨.bl false,H3,I3,rfl,q3⟩
 |true=>exact ite_tt (chain_last (thn (hc pins s3 σ H3 _ I3 q3) fun w' s4 ⟨z',H4,I4,r4,q4⟩=>ho' pins s4 σ H4 y z' u w' Q I4 r2 r4 q4))
theorem pt_chain {op op':CmpOp} {r r':R2} (ho:OpR X (compareOp op) r) (ho':OpR X (compareOp op') r') (ha:PE X a ta) (hb:PE X b tb) (hc:PE X c tc)
  (hm:lastMarks [op,op'] [b,c]=false:=by with_unfolding_all rfl):PT X (.Compare a [op,op'] [b,c] pos) (tTest (tChain r r' ta tb tc)):=by
 intro pins s σ H Q I h
 refine isTrue_chain (thn (ha pins s σ H _ I h) fun v s1 ⟨x,H1,I1,r1,q1⟩=>test_link (thn (hb pins s1 σ H1 _ I1 q1) fun u s2 ⟨y,H2,I2,r2,q2⟩=>
  thn (ho pins s2 σ H2 x y v u _ I2 r1 r2 q2) fun d s3 ⟨z,H3,I3,r3,k,e,q3⟩=>?_)) hm
 subst e
 cases r3
 refine wpAny_truthy_bool ?_
 cases k with
 |false=>
  obtain⟨k',e',q'⟩:=q3
  cases e'
  exact ite_ff ⟨H3,I3,q'⟩
 |true=>
  refine ite_tt (test_last (thn (hc pins s3 σ H3 _ I3 q3) fun w' s4 ⟨z',H4,I4,r4,q4⟩=>thn (ho' pins s4 σ H4 y z' u w' _ I4 r2 r4 q4) fun d' s5 ⟨z2,H5,I5,r5,k2,e2,q5⟩=>?_))
  subst e2
  cases r5
  exact wpAny_truthy_bool ⟨H5,I5,q5⟩
def TruV (K:PySem.W.Frag) (x:V) (H:Hp) (k:Bool):Prop:=
 match x with
 |.non=>k=false
 |.bl b=>k=b
 |.int i=>k=(i != 0)
 |.str y=>y.length<=sizeLine/\k=((y.length:Int) != 0)
 |.byt y=>y.size<=sizeLine/\k=((y.size:Int) != 0)
 |.ref p=>(∃xs,SqL K H p xs/\k=!xs.isEmpty)\/(∃xs,SqT K H p xs/\k=!xs.isEmpty)\/∃kvs,H p=some (.dK kvs)/\k=!kvs.isEmpty
 |_=>False
theorem isEmpty_kv {κ:Type} {kvs:List (κ×V)} {vs:List (κ×Value)} (r:KV kvs vs):(!vs.isEmpty)=!kvs.isEmpty:=by
 cases r<;>rfl
theorem isEmpty_of {xs:List V} {its:List Value} (r:Vals xs its):(!its.toArray.isEmpty)=!xs.isEmpty:=by
 cases r<;>simp
theorem line63:(sizeLine:Nat)<2 ^ 63:=by rw[sizeLine_eq];decide
theorem tru_ok:TruR X (fun x H Q=>∃k,TruV X.K x H k/\Q k H):=by
 intro pins s σ H x v Q I rx h
 obtain⟨k,e,q⟩:=h
 have hl:=line63
 have hs:sizeLine=16777216:=sizeLine_eq
 cases x with
 |non=>
  cases rx
  have e':k=false:=e
  subst e'
  exact truthy_none ⟨H,I,q⟩
 |bl b=>
  cases rx
  have e':k=b:=e
  subst e'
  exact wpAny_truthy_bool ⟨H,I,q⟩
 |int i=>
  obtain⟨t,rfl⟩:=rx
  have e':k=(i != 0):=e
  subst e'
  exact PySem.P.truthy_int ⟨H,I,q⟩
 |str y=>
  obtain⟨t,rfl⟩:=rx
  obtain⟨hy,e'⟩:y.length<=sizeLine/\k=((y.length:Int) != 0):=e
  subst e'
  exact PySem.P.truthy_str (by omega) ⟨H,I.tok _,q⟩
 |byt y=>
  obtain⟨t,rfl⟩:=rx
  obtain⟨hy,e'⟩:y.size<=sizeLine/\k=((y.size:Int) != 0):=e
  subst e'
  exact PySem.W.truthy_bytes (by omega) ⟨H,I.tok _,q⟩
 |ref p=>
  cases rx
  have e':(∃xs,SqL X.K H p xs/\k=!xs.isEmpty)\/(∃xs,SqT X.K H p xs/\k=!xs.isEmpty)\/∃kvs,H p=some (.dK kvs)/\k=!kvs.isEmpty:=e
  rcases e' with⟨xs,hx,e'⟩|⟨xs,hx,e'⟩|⟨kvs,hx,e'⟩
  ·subst e'
   obtain⟨its,r,pl,hz⟩:=I.list hx
   have hlen:=r.length
   exact wpAny_truthy_list pl.isList (by simp only[List.size_toArray];omega) ⟨H,I.tok _,by rw[isEmpty_of r];exact q⟩
  ·subst e'
   obtain⟨its,r,pl,hz⟩:=I.tuple hx
   have hlen:=r.length
   exact truthy_tuple pl (by simp only[List.size_toArray];omega) ⟨H,I.tok _,by rw[isEmpty_of r];exact q⟩
  ·subst e'
   obtain⟨hz,hS,vs,r,m⟩:kvs.length<=sizeLine/\(p==sysModules)=false/\∃vs,KV kvs vs/\s.heap.DictOf (mixKind X.prog X.w) p vs:=I.hok p _ hx
   have hlen:kvs.length=vs.length:=Paired.length r
   exact wpAny_truthy_dict hS m (by omega) ⟨H,I.tok _,by rw[isEmpty_kv r];exact q⟩
 |_=>exact(show False from e).elim
theorem pt_truth (ha:PE X a ta) (he:∀whole,isTrue a X.env whole=(do let v<-whole;standAt a.pos;holding [v] (truthy v))) :
  PT X a (fun σ H Q=>ta σ H fun x H'=>∃k,TruV X.K x H' k/\Q k H'):=by
 intro pins s σ H Q I h
 exact isTrue_plain (thn (ha pins s σ H _ I h) fun v s1 ⟨x,H1,I1,r1,q1⟩=>tru_ok pins s1 σ H1 x v Q I1 r1 q1) (he _)
theorem vals1 {x:V} {us:List Value} (r:Vals [x] us):∃u,us=[u]/\RelV x u:=by
 cases r with
 |cons r1 r2=>cases r2;exact⟨_,rfl,r1⟩
end
end L2
namespace L2
open PySem PySem.Spec PyProof.Rows
structure ObjM (h:Heap) (x dx C:Addr) (mA:Str->Option Value):Prop where
 obj:h.get? x=some (PySem.W.instObj C dx)
 ns:h.Ns1 dx mA
 ne:dx≠x
theorem lookIn_ns {h:Heap} {dx:Addr} {mA:Str->Option Value} (n:h.Ns1 dx mA):∃od,h.get? dx=some od/\∀name,PySem.W.lookIn name od=some (mA name):=by
 obtain⟨o,es,ep,ho,hd,hk,_,hm⟩:=n
 refine⟨o,ho,fun name=>?_⟩
 have e:=hm name
 unfold nsFind findBy at e
 rw[<-Array.find?_toList]at e
 unfold PySem.W.lookIn
 rw[hd]
 dsimp only
 split
 ·rename_i y q
  rw[q]at e
  exact congrArg some e
 ·rename_i q
  rw[q]at e
  have a:es.toList.any (·.refKey)=false:=by
   rw[List.any_eq_false]
   intro y hy
   obtain⟨z,t,hkey⟩:=hk y (Array.mem_toList_iff.mp hy)
   simp[DictEntry.refKey,hkey]
  have a':¬ es.toList.any (·.refKey)=true:=by rw[a];exact Bool.false_ne_true
  rw[if_neg a']
  exact congrArg some e
theorem ObjM.look {h:Heap} {x dx C:Addr} {mA:Str->Option Value} (I:ObjM h x dx C mA):∃od,PySem.W.InstAt h x (PySem.W.instObj C dx) C (some od)/\∀name,PySem.W.lookIn name od=some (mA name):=
 let⟨od,ho,hl⟩:=lookIn_ns I.ns
 ⟨od,⟨I.obj,rfl,rfl,ho⟩,hl⟩
section
variable {prog:Program} {w:World} {A:Around} {E:Value->Shared->Prop} {s:Shared} {K:PySem.W.Frag} {x dx C f:Addr} {mA:Str->Option Value} {name:Str} {v:Value}
theorem get_map {expr:Bool} {Q:Value->Shared->Prop} (X:K.In s.heap) (I:ObjM s.heap x dx C mA) (hg:PySem.W.plainGet K C name=true) (hh:PySem.W.hasDictIn K C=true)
  (ha:PySem.W.findIn K (.ref C) name=some none) (hv:mA name=some v) (hv':PySem.W.handedIn v=true) (h:Q v {s with toks:=s.toks+1}) :
  wpAny (model prog w) A (getAttr (.ref x) name expr) Q E s:=by
 obtain⟨od,J,hl⟩:=I.look
 exact PySem.W.get_value X J (PySem.W.plainGet_of hg).1 (PySem.W.findObj_own hh ha rfl (by rw[hl,hv])) hv' h
theorem get_meth {pl:Sem Bool} {Q:Value×List Value->Shared->Prop} (X:K.In s.heap) (I:ObjM s.heap x dx C mA) (hg:PySem.W.plainGet K C name=true)
  (hf:PySem.W.findIn K (.ref C) name=some (some (.ref f))) (ht:PySem.W.isFn K (.ref f)=true) (hv:mA name=none) (h:Q (.ref f,[.ref x]) s) :
  wpAny (model prog w) A (getMethod (.ref x) name pl) Q E s:=by
 obtain⟨od,J,hl⟩:=I.look
 exact PySem.W.method_fn X J (PySem.W.plainGet_of hg).1 (PySem.W.plainGet_of hg).2 hf (beq_iff_eq.mp ht) (by show(PySem.W.lookIn name od).map (·.isSome)=some false;rw[hl,hv];rfl) h
theorem set_map {ns:List Str} {Q:Unit->Shared->Prop} (X:K.In s.heap) (I:ObjM s.heap x dx C mA)
  (hs:PySem.W.findIn K (.ref C) "__setattr__"=some (some (.builtin "object.__setattr__"))) (hp:PySem.W.plainOver K C=true) (ht:PySem.W.takerIn K C name=some none) (hh:PySem.W.hasDictIn K C=true)
  (hw:PySem.Within mA ns) (hsz:ns.length<=sizeLine)
  (h:∀h',ObjM h' x dx C (fun y=>if y=name then some v else mA y)->Heap.SameBut dx s.heap h'->Q () {s with heap:=h',toks:=s.toks+2}) :
  wpAny (model prog w) A (setAttr (.ref x) name v) Q E s:=by
 obtain⟨od,J,hl⟩:=I.look
 refine PySem.W.set_plain X J hs (PySem.W.osa_open (s:={s with toks:=s.toks+1}) (r:=none) X J hp ht fun b=>?_)
 obtain⟨cd,hc,hd'⟩:=PySem.W.any_some hh
 have hx:s.heap.get? x=some ⟨.ref C,some dx,.plain,#[]⟩:=I.obj
 refine wpAny_bind (wpAny_pure (wpAny_bind (wpAny_bind (wpAny_loadPart hx (wpAny_bind (PySem.W.Looks.here (s:={s with toks:=s.toks+1}) (PySem.W.looks_clsIn X hc) ?_))))))
 rw[hd']
 refine wpAny_pure (a:=some dx) (wpAny_bind (wpAny_pure (wpAny_bind ?_)))
 refine wpAny_nsSet1 (s:={s with toks:=s.toks+1}) I.ns fun h' hn2 hs2=>?_
 obtain⟨oD,esD,epD,hoD,hdD,hcD⟩:=hn2.count (PySem.Within.cons name v hw)
 refine wpAny_bind (wpAny_lookBehind hoD (by rw[hdD];exact pastItsLine_dict (Nat.le_trans hcD (by rw[List.length_cons];omega))) ?_)
 exact wpAny_pure (h _ ⟨(hs2.2 _ (Ne.symm I.ne)).trans I.obj,hn2,I.ne⟩ hs2)
theorem make_map {R:Result->Shared->Prop} {vs:List Value} {kw:List (Str×Value)} (X:K.In s.heap) (hm:PySem.W.makesIn K C=true)
  (hi:PySem.W.findIn K (.ref C) "__init__"=some (some (.ref f))) (hf:PySem.W.typeIn K (.ref f)=some (.type "function"))
  (h:codeAny (model prog w) (A.under (.builtin "type.__call__" ⟨.ref C::vs,kw⟩)) (.call (.ref f) ⟨.ref (s.heap.objs.size+1)::vs,kw⟩) (PySem.W.InitBack (s.heap.objs.size+1) R)
   {s with heap:=(s.heap.push PySem.W.emptyDict).push (PySem.W.instObj C s.heap.objs.size)}) :
  codeAny (model prog w) A (.call (.ref C) ⟨vs,kw⟩) R s:=by
 obtain⟨hh,g,d,t,os⟩:=s
 exact PySem.W.make_core (PySem.W.makes_of X hm) (PySem.W.looks_findIn X hi) (fun self=>PySem.W.bind_fn X self hf) (.inl rfl) h
end
def putF (f:Str) (v:V):List (Str×V)->List (Str×V)
 |[]=>[(f,v)]
 |(g,x)::r=>if g=f then(g,v)::r else(g,x)::putF f v r
theorem lookup_putF (f g:Str) (v:V):∀fs:List (Str×V),(putF f v fs).lookup g=if g=f then some v else fs.lookup g
 |[]=>by
  show List.lookup g [(f,v)]=_
  by_cases h:g=f
  ·have hb:(g==f)=true:=beq_iff_eq.mpr h
   simp only[List.lookup,hb,if_pos h]
  ·have hb:(g==f)=false:=beq_eq_false_iff_ne.mpr h
   simp only[List.lookup,hb,if_neg h]
 |(k,x)::r=>by
  have ih:=lookup_putF f g v r
  rw[show putF f v ((k,x)::r)=(if k=f then(k,v)::r else(k,x)::putF f v r)from rfl]
  by_cases hk:k=f
  ·rw[if_pos hk]
   by_cases h:g=k
   ·have hb:(g==k)=true:=beq_iff_eq.mpr h
    simp only[List.lookup,hb,if_pos (h.trans hk)]
   ·have hb:(g==k)=false:=beq_eq_false_iff_ne.mpr h
    simp only[List.lookup,hb,if_neg (fun e:g=f=>h (e.trans hk.symm))]
  ·rw[if_neg hk]
   by_cases h:g=k
   ·have hb:(g==k)=true:=beq_iff_eq.mpr h
    simp only[List.lookup,hb,if_neg (fun e:g=f=>hk (h.symm.trans e))]
   ·have hb:(g==k)=false:=beq_eq_false_iff_ne.mpr h
    simp only[List.lookup,hb]
    exact ih
theorem keys_putF (f:Str) (v:V):∀fs:List (Str×V),f∈(putF f v fs).map (·.1)/\∀g,g∈fs.map (·.1)->g∈(putF f v fs).map (·.1)
 |[]=>⟨by simp[putF],fun g h=>by simp at h⟩
 |(k,x)::r=>by
  obtain⟨i1,i2⟩:=keys_putF f v r
  rw[show putF f v ((k,x)::r)=(if k=f then(k,v)::r else(k,x)::putF f v r)from rfl]
  by_cases hk:k=f
  ·rw[if_pos hk]
   subst hk
   exact⟨by simp,fun g h=>by simpa using h⟩
  ·rw[if_neg hk]
   refine⟨?_,fun g h=>?_⟩
   ·rw[List.map_cons]
    exact List.mem_cons_of_mem _ i1
   ·rw[List.map_cons]at h ⊢
    rcases List.mem_cons.mp h with e|e
    ·exact List.mem_cons.mpr (.inl e)
    ·exact List.mem_cons_of_mem _ (i2 g e)
theorem length_putF (f:Str) (v:V):∀fs:List (Str×V),(putF f v fs).length<=fs.length+1
 |[]=>by simp[putF]
 |(k,x)::r=>by
  have ih:=length_putF f v r
  rw[show putF f v ((k,x)::r)=(if k=f then(k,v)::r else(k,x)::putF f v r)from rfl]
  by_cases hk:k=f
  ·rw[if_pos hk,List.length_cons,List.length_cons];omega
  ·rw[if_neg hk,List.length_cons,List.length_cons];omega
theorem RelO.some_of {v:V} {o:Option Value} (r:RelO (some v) o):∃u,o=some u/\RelV v u:=by
 cases o with
 |none=>exact(show False from r).elim
 |some u=>exact⟨u,rfl,r⟩
theorem RelO.none_of {o:Option Value} (r:RelO none o):o=none:=by
 cases o with
 |none=>rfl
 |some u=>exact(show False from r).elim
theorem handed_of {v:V} {u:Value} (r:RelV v u):PySem.W.handedIn u=true:=by
 cases v with
 |non=>cases (show u=Value.none from r);rfl
 |bl b=>cases (show u=Value.bool b from r);rfl
 |int i=>obtain⟨t,e⟩:=(show ∃t,u=Value.int i t from r);cases e;rfl
 |str x=>obtain⟨t,e⟩:=(show ∃t,u=Value.str x t from r);cases e;rfl
 |byt b=>obtain⟨t,e⟩:=(show ∃t,u=Value.bytes b t from r);cases e;rfl
 |flt b=>obtain⟨t,e⟩:=(show ∃t,u=Value.float b t from r);cases e;rfl
 |ref a=>cases (show u=Value.ref a from r);rfl
 |ty n=>cases (show u=Value.type n from r);rfl
section
variable {P:Program} {w:World} {H H':Hp} {h h':Heap} {a C dx:Addr} {fs fs':List (Str×V)}
theorem ins_get (hok:HOk P w H h) (e:H a=some (.ins C dx fs)):∃mA,ObjM h a dx C mA/\(∀f,RelO (fs.lookup f) (mA f))/\PySem.Within mA (fs.map (·.1))/\fs.length<=1000/\H dx=some (.own a):=by
 obtain⟨d,z,ne,ob,mA,n,r,q⟩:=(show ObjOk P w H h a (.ins C dx fs)from hok a _ e)
 exact⟨mA,⟨ob,n,ne⟩,r,q,z,d⟩
end
structure Cls (K:PySem.W.Frag) (C:Addr):Prop where
 pg:PySem.W.plainGet K C Str.empty=true
 hd:PySem.W.hasDictIn K C=true
 po:PySem.W.plainOver K C=true
 sa:PySem.W.findIn K (.ref C) "__setattr__"=some (some (.builtin "object.__setattr__"))
theorem Cls.get {K:PySem.W.Frag} {C:Addr} (c:Cls K C) (f:Str):PySem.W.plainGet K C f=true:=c.pg
def NoAttr (K:PySem.W.Frag) (C:Addr) (f:Str):Prop:=PySem.W.findIn K (.ref C) f=some none
theorem NoAttr.taker {K:PySem.W.Frag} {C:Addr} {f:Str} (n:NoAttr K C f):PySem.W.takerIn K C f=some none:=by
 unfold PySem.W.takerIn
 rw[show PySem.W.findIn K (.ref C) f=some none from n]
 rfl
structure Meth (K:PySem.W.Frag) (C:Addr) (m:Str) (f:Addr):Prop where
 at_:PySem.W.findIn K (.ref C) m=some (some (.ref f))
 fn:PySem.W.isFn K (.ref f)=true
 kp:PySem.W.keepIn K (.ref f)=true
section
variable {X:Cx} {pins:List (Addr×Obj)} {σ:St} {H:Hp} {s:Shared} {a C dx:Addr} {fs:List (Str×V)} {f:Str} {v:V} {A:Around} {E:Value->Shared->Prop}
theorem getattr_ok {b:Bool} {Q:Value->Shared->Prop} (I:Inv X pins σ H s) (e:H a=some (.ins C dx fs)) (c:Cls X.K C) (n:NoAttr X.K C f) (l:fs.lookup f=some v)
  (h:∀u s',Inv X pins σ H s'->RelV v u->Q u s'):wpAny (model X.prog X.w) A (getAttr (.ref a) f b) Q E s:=by
 obtain⟨mA,O,r,_,_,_⟩:=ins_get I.hok e
 obtain⟨u,hu,ru⟩:=RelO.some_of (v:=v) (o:=mA f) (by rw[<-l];exact r f)
 exact get_map I.kIn O (c.get f) c.hd n hu (handed_of ru) (h u _ (I.tok _) ru)
theorem getmeth_ok {m:Str} {g:Addr} {pl:Sem Bool} {Q:Value×List Value->Shared->Prop} (I:Inv X pins σ H s) (e:H a=some (.ins C dx fs)) (c:Cls X.K C) (k:Meth X.K C m g) (l:fs.lookup m=none)
  (h:Q (.ref g,[.ref a]) s):wpAny (model X.prog X.w) A (getMethod (.ref a) m pl) Q E s:=by
 obtain⟨mA,O,r,_,_,_⟩:=ins_get I.hok e
 have hn:mA m=none:=RelO.none_of (by rw[<-l];exact r m)
 exact get_meth I.kIn O (c.get m) k.at_ k.fn hn h
theorem setattr_ok {y:V} {u:Value} {Q:Unit->Shared->Prop} (I:Inv X pins σ H s) (e:H a=some (.ins C dx fs)) (c:Cls X.K C) (n:NoAttr X.K C f) (hl:fs.length<1000) (ry:RelV y u)
  (h:∀s',Inv X pins σ (upd H a (.ins C dx (putF f y fs))) s'->Q () s'):wpAny (model X.prog X.w) A (setAttr (.ref a) f u) Q E s:=by
 obtain⟨mA,O,r,wi,_,ho⟩:=ins_get I.hok e
 have hz:(fs.map (·.1)).length<=sizeLine:=by rw[List.length_map,sizeLine_eq];omega
 refine set_map I.kIn O c.sa c.po n.taker c.hd wi hz fun h' O' sb=>h _ ?_
 have hd:∃o,h'.get? dx=some o:=let⟨o,_,_,e',_⟩:=O'.ns;⟨o,e'⟩
 refine I.write (x:=a) (e:=dx) (by rw[e];exact True.intro) (.inr ho) (fun b q hb z=>(sb.2 b hb).trans z) hd ?_
 refine⟨by rw[upd_ne O.ne];exact ho,?_,O.ne,O'.obj,_,O'.ns,fun g=>?_,fun g hg=>?_⟩
 ·have:=length_putF f y fs;omega
 ·show RelO ((putF f y fs).lookup g) (if g=f then some u else mA g)
  rw[lookup_putF]
  by_cases q:g=f
  ·rw[if_pos q,if_pos q];exact ry
  ·rw[if_neg q,if_neg q];exact r g
 ·by_cases q:g=f
  ·rw[q];exact(keys_putF f y fs).1
  ·refine(keys_putF f y fs).2 g (wi g fun z=>hg ?_)
   show(if g=f then some u else mA g)=none
   rw[if_neg q];exact z
theorem Inv.made (I:Inv X pins σ H s):Inv X pins σ (upd (upd H s.heap.objs.size (.own (s.heap.objs.size+1))) (s.heap.objs.size+1) (.ins C s.heap.objs.size []))
  {s with heap:=(s.heap.push PySem.W.emptyDict).push (PySem.W.instObj C s.heap.objs.size)}:=by
 have e1:(s.heap.push PySem.W.emptyDict).get? s.heap.objs.size=some PySem.W.emptyDict:=Heap.get?_push_size s.heap rfl
 have e2:((s.heap.push PySem.W.emptyDict).push (PySem.W.instObj C s.heap.objs.size)).get? (s.heap.objs.size+1)=some (PySem.W.instObj C s.heap.objs.size):=by
  have:=Heap.get?_push_size (s.heap.push PySem.W.emptyDict) (o:=PySem.W.instObj C s.heap.objs.size) rfl
  rwa [Heap.size_push]at this
 have e3:(s.heap.push PySem.W.emptyDict).Ns s.heap.objs.size (fun _=>none):=⟨PySem.W.emptyDict,#[],_,e1,rfl,(fun e he=>absurd he (by simp)),fun _=>rfl⟩
 have I1:=I.laid (a:=s.heap.objs.size) (o:=.own (s.heap.objs.size+1)) (h':=s.heap.push PySem.W.emptyDict) (t':=s.toks) (fun b u q=>Heap.get?_push_of_some _ q) (Nat.le_refl _) ⟨_,e1⟩
 refine I1.laid (a:=s.heap.objs.size+1) (o:=.ins C s.heap.objs.size []) (t':=s.toks) (fun b u q=>Heap.get?_push_of_some _ q) (Nat.le_of_eq (Heap.size_push _ _)) ?_
 have ne:s.heap.objs.size≠s.heap.objs.size+1:=Nat.ne_of_lt (Nat.lt_succ_self _)
 refine⟨by rw[upd_ne ne,upd_same],Nat.zero_le _,ne,e2,fun _=>none,(Heap.Ns1.of_empty e3).at fun o q=>Heap.get?_push_of_some _ q,fun _=>True.intro,fun y hy=>absurd rfl hy⟩
theorem attr_of {prog:Program} {w:World} {env:Env} {e:Expr} {f:Str} {pos:Pos} {s:Shared} {Q:Value->Shared->Prop} (hb:attributeBase e f env (eval e env)=eval e env)
  (h:wpAny (model prog w) A (eval e env) (fun o s₁=>wpAny (model prog w) A (getAttr o f true) Q E s₁) E s):wpAny (model prog w) A (eval (.Attribute e f pos) env) Q E s:=
 Attribute_any_ h (by rw[arm_eval_Attribute,hb])
end
def tFld (K:PySem.W.Frag) (ta:TE) (f:Str):TE:=fun σ H Q=>ta σ H fun x H1=>∃a C dx fs v,x=.ref a/\H1 a=some (.ins C dx fs)/\Cls K C/\NoAttr K C f/\fs.lookup f=some v/\Q v H1
def sFld (K:PySem.W.Frag) (ta tv:TE) (f:Str):TS:=fun D σ H=>tv σ H fun y H1=>ta σ H1 fun x H2=>∃a C dx fs,x=.ref a/\H2 a=some (.ins C dx fs)/\Cls K C/\NoAttr K C f/\fs.length<1000 /\
 D.nx σ (upd H2 a (.ins C dx (putF f y fs)))
def InOp (X:Cx) (op:Operator) (rd:V->V->Hp->VK->Prop):Prop:=
 ∀(pins:List (Addr×Obj)) (s:Shared) (σ:St) (H:Hp) (x y:V) (u v:Value) (Q:VK),Inv X pins σ H s->RelV x u->RelV y v->rd x y H Q->wpAny (model X.prog X.w) X.A (inplaceOp op u v) (EP X pins σ Q) X.xe s
def sFldAug (K:PySem.W.Frag) (ta tv:TE) (rd:V->V->Hp->VK->Prop) (f:Str):TS:=fun D σ H=>ta σ H fun x H1=>∃a C dx fs v,x=.ref a/\H1 a=some (.ins C dx fs)/\Cls K C/\NoAttr K C f/\fs.lookup f=some v /\
 tv σ H1 fun y H2=>rd v y H2 fun z H3=>∃dx' fs',H3 a=some (.ins C dx' fs')/\fs'.length<1000/\D.nx σ (upd H3 a (.ins C dx' (putF f z fs')))
section
variable {X:Cx} {o e value:Expr} {f:Str} {pos pos' tpos:Pos} {ta tv:TE}
theorem pe_fld (he:PE X e ta) (hb:attributeBase e f X.env (eval e X.env)=eval e X.env):PE X (.Attribute e f pos) (tFld X.K ta f):=by
 intro pins s σ H Q I h
 refine attr_of hb (thn (he pins s σ H _ I h) fun u s1 ⟨x,H1,I1,rx,a,C,dx,fs,v,ex,ea,c,n,l,q⟩=>?_)
 subst ex
 obtain rfl:u=Value.ref a:=rx
 exact getattr_ok I1 ea c n l fun u' s2 I2 ru=>⟨v,H1,I2,ru,q⟩
theorem ps_fld (ha:PE X o ta) (hv:PE X value tv) (hs:swapsWith value (some (.Attribute o f pos')) pos.line X.env=pure false):PS X (.Assign [.Attribute o f pos'] value pos) (sFld X.K ta tv f):=by
 intro pins s σ H D I h
 refine plainObj_wpAny_Assign_Attribute (thn (hv pins s σ H _ I h) fun u s1 ⟨y,H1,I1,ry,q⟩=>thn (ha pins s1 σ H1 _ I1 q) fun ov s2 ⟨x,H2,I2,rx,a,C,dx,fs,ex,ea,c,n,l,q2⟩=>?_) hs
 subst ex
 obtain rfl:ov=Value.ref a:=rx
 exact setattr_ok I2 ea c n l ry fun s3 I3=>⟨σ,_,I3,q2⟩
theorem ps_fldaug {op:Operator} {rd:V->V->Hp->VK->Prop} (ha:PE X o ta) (hv:PE X value tv) (hop:InOp X op rd):PS X (.AugAssign (.Attribute o f tpos) op value pos) (sFldAug X.K ta tv rd f):=by
 intro pins s σ H D I h
 refine wpAny_AugAssign_AttributeAny (thn (ha pins s σ H _ I h) fun ov s1 ⟨x,H1,I1,rx,a,C,dx,fs,v,ex,ea,c,n,l,q⟩=>?_)
 subst ex
 obtain rfl:ov=Value.ref a:=rx
 refine getattr_ok I1 ea c n l fun u s2 I2 ru=>thn (hv pins s2 σ H1 _ I2 q) fun w3 s3 ⟨y,H2,I3,ry,q3⟩=>thn (hop pins s3 σ H2 v y u w3 _ I3 ru ry q3) fun w4 s4 ⟨z,H3,I4,rz,dx',fs',ea',l',q4⟩=>?_
 exact setattr_ok I4 ea' c n l' rz fun s5 I5=>⟨σ,_,I5,q4⟩
def rAdd:V->V->Hp->VK->Prop:=fun x y H Q=>∃i j,x=.int i/\y=.int j/\Q (.int (i+j)) H
theorem in_add:InOp X .Add rAdd:=by
 rintro pins s σ H x y u v Q I rx ry ⟨i,j,rfl,rfl,q⟩
 obtain⟨t,rfl⟩:=(show ∃t,u=Value.int i t from rx)
 obtain⟨t',rfl⟩:=(show ∃t',v=Value.int j t' from ry)
 exact PyProof.Rows.iadd_int ⟨.int (i+j),H,I.tok _,⟨_,rfl⟩,q⟩
theorem methcall_of {pl:Sem Bool} {m:Str} {apos:Pos} {args:List Expr} {pins:List (Addr×Obj)} {s:Shared} {σ:St} {H:Hp} {Q:Value->Shared->Prop} {te:TE} (he:PE X e te) (I:Inv X pins σ H s)
  (h:te σ H fun x H1=>∃a C dx fs g,x=.ref a/\H1 a=some (.ins C dx fs)/\Cls X.K C/\Meth X.K C m g/\fs.lookup m=none /\
   ∀s1,Inv X pins σ H1 s1->wpAny (model X.prog X.w) X.A (callWith pos (.ref g) [.ref a] (backTo pos (starEach args X.env)) (backToKw pos (keywordEach [] X.env))) Q X.xe s1)
  (ht:eval (.Call (.Attribute e m apos) args [] pos) X.env=(do
   let ov<-eval e X.env
   standAt apos.atName
   let(f,first)<-holding [ov] (getMethod ov m pl)
   callWith pos f first (backTo pos (starEach args X.env)) (backToKw pos (keywordEach [] X.env)))) :
  wpAny (model X.prog X.w) X.A (eval (.Call (.Attribute e m apos) args [] pos) X.env) Q X.xe s:=by
 refine PySem.W.methodCall_KW (pl:=pl) (thn (he pins s σ H _ I h) fun u s1 ⟨x,H1,I1,rx,a,C,dx,fs,g,ex,ea,c,k,l,q⟩=>?_) ht
 subst ex
 obtain rfl:u=Value.ref a:=rx
 exact getmeth_ok I1 ea c k l (q s1 I1)
end
section
variable {X:Cx} {pins:List (Addr×Obj)} {σ:St} {H:Hp} {s:Shared} {A:Around} {E:Value->Shared->Prop} {Q:Value->Shared->Prop} {c:Value} {b:Bool}
inductive TyOf (K:PySem.W.Frag) (H:Hp):V->Value->Prop where
 |non:TyOf K H .non (.type "NoneType")
 |bl (x:Bool):TyOf K H (.bl x) (.type "bool")
 |int (i:Int):TyOf K H (.int i) (.type "int")
 |str (x:Str):TyOf K H (.str x) (.type "str")
 |flt (x:UInt64):TyOf K H (.flt x) (.type "float")
 |lst {a:Addr} {xs:List V} (e:H a=some (.lst xs)):TyOf K H (.ref a) (.type "list")
 |frz {a:Addr} {o:Obj} {xs:List V} (e:H a=some (.frz o (.lst xs))):TyOf K H (.ref a) (.type "list")
 |tup {a:Addr} {xs:List V} (e:H a=some (.tup xs)):TyOf K H (.ref a) (.type "tuple")
 |dK {a:Addr} {kvs:List (Key×V)} (e:H a=some (.dK kvs)):TyOf K H (.ref a) (.type "dict")
 |dT {a:Addr} {kvs:List (List Key×V)} (e:H a=some (.dT kvs)):TyOf K H (.ref a) (.type "dict")
 |ins {a C dx:Addr} {fs:List (Str×V)} (e:H a=some (.ins C dx fs)) (cl:Cls K C) (ha:PySem.W.findIn K (.ref C) "__class__"=some (some (.builtin "object.__class__")))
   (hn:PySem.W.specialIn K (.builtin "object.__class__") "__get__"=some (some (.builtin "getset_descriptor.__get__"))) (htk:PySem.W.takesIn K (.builtin "object.__class__")=some true)
   (hm:PySem.W.mroIn K C (.type "object")=some true):TyOf K H (.ref a) (.ref C)
theorem isinst_ok {x:V} {u t:Value} (I:Inv X pins σ H s) (rx:RelV x u) (ty:TyOf X.K H x t) (e:PySem.W.kitOne X.K t c=some b) (h:∀tk,Q (.bool b) {s with toks:=tk}) :
  wpAny (model X.prog X.w) A (call (.builtin "isinstance") [u,c]) Q E s:=by
 cases ty with
 |non=>cases (show u=Value.none from rx);exact PySem.W.kia_one PySem.W.kitx_none I.kIn True.intro e (fun z=>nomatch z) h
 |bl y=>cases (show u=Value.bool y from rx);exact PySem.W.kia_one PySem.W.kitx_bool I.kIn True.intro e (fun z=>nomatch z) h
 |int i=>obtain⟨t,q⟩:=(show ∃t,u=Value.int i t from rx);cases q;exact PySem.W.kia_one PySem.W.kitx_int I.kIn True.intro e (fun z=>nomatch z) h
 |str y=>obtain⟨t,q⟩:=(show ∃t,u=Value.str y t from rx);cases q;exact PySem.W.kia_one PySem.W.kitx_str I.kIn True.intro e (fun z=>nomatch z) h
 |flt y=>obtain⟨t,q⟩:=(show ∃t,u=Value.float y t from rx);cases q;exact PySem.W.kia_one PySem.W.kitx_float I.kIn True.intro e (fun z=>nomatch z) h
 |@lst a xs ea=>
  cases (show u=Value.ref a from rx)
  obtain⟨_,_,n,_,h1⟩:=(show ObjOk X.prog X.w H s.heap a (.lst xs)from I.hok a _ ea)
  exact PySem.W.kia_one PySem.W.kitx_list I.kIn ⟨_,h1,rfl⟩ e (fun z=>nomatch z) h
 |@frz a ob xs ea=>
  cases (show u=Value.ref a from rx)
  obtain⟨_,_,_,n,_,h1⟩:=(show ObjOk X.prog X.w H s.heap a (.frz ob (.lst xs))from I.hok a _ ea)
  exact PySem.W.kia_one PySem.W.kitx_list I.kIn ⟨_,h1,rfl⟩ e (fun z=>nomatch z) h
 |@tup a xs ea=>
  cases (show u=Value.ref a from rx)
  obtain⟨_,_,_,p⟩:=(show ObjOk X.prog X.w H s.heap a (.tup xs)from I.hok a _ ea)
  obtain⟨o,h1,h2,_⟩:=p
  exact PySem.W.kia_one PySem.W.kitx_tuple I.kIn ⟨o,h1,h2⟩ e (fun z=>nomatch z) h
 |@dK a kvs ea=>
  cases (show u=Value.ref a from rx)
  obtain⟨_,_,vs,_,p⟩:=(show ObjOk X.prog X.w H s.heap a (.dK kvs)from I.hok a _ ea)
  obtain⟨o,es,ep,h1,h2,_⟩:=p
  exact PySem.W.kia_one PySem.W.kitx_dict I.kIn ⟨o,h1,h2.1⟩ e (fun z=>nomatch z) h
 |@dT a kvs ea=>
  cases (show u=Value.ref a from rx)
  obtain⟨_,_,xs,_,o,es,ep,h1,h2,_⟩:=(show ObjOk X.prog X.w H s.heap a (.dT kvs)from I.hok a _ ea)
  exact PySem.W.kia_one PySem.W.kitx_dict I.kIn ⟨o,h1,h2.1⟩ e (fun z=>nomatch z) h
 |@ins a C dx fs ea cl ha hn htk hm=>
  cases (show u=Value.ref a from rx)
  obtain⟨mA,O,_⟩:=ins_get I.hok ea
  obtain⟨od,J,_⟩:=O.look
  exact PySem.W.kia_one (PySem.W.kitx_own (cl.get _) cl.hd ha hn htk hm) I.kIn J e (fun z=>nomatch z) h
end
end L2
namespace L2
open PySem PySem.Spec PyProof.Rows
structure Room (k:Nat) (A:Around):Prop where
 hd:A.handled=none
 dp:A.depth+3*k+5<recursionLimit
 un:A.units+16*k+200<cLine
theorem Room.mono {j k:Nat} {A:Around} (r:Room k A) (h:j<=k):Room j A:=⟨r.hd,by have:=r.dp;omega,by have:=r.un;omega⟩
theorem Room.deeper {k:Nat} {A:Around} (r:Room (k+1) A) (env:Env):Room k (A.deeper env):=
 ⟨r.hd,by have:=r.dp;show A.depth+1+3*k+5<_;omega,by have:=r.un;show A.units+3+16*k+200<_;omega⟩
theorem make_depth {A:Around} {C:Addr} {us:List Value} {kw:List (Str×Value)}:(A.under (.builtin "type.__call__" ⟨.ref C::us,kw⟩)).depth=A.depth+1:=by
 first|rfl|simp[Around.under,Code.weight,Code.isCreation,Code.isGuard,Code.isCaller,Code.frames,Code.isFrame,guardIds]
theorem make_units {A:Around} {C:Addr} {us:List Value} {kw:List (Str×Value)}:(A.under (.builtin "type.__call__" ⟨.ref C::us,kw⟩)).units=A.units+1:=by
 first|rfl|simp[Around.under,Code.cUnits,Code.frames,Code.isFrame]
theorem Room.make {k:Nat} {A:Around} (r:Room (k+1) A) (C:Addr) (us:List Value) (kw:List (Str×Value)):Room k (A.under (.builtin "type.__call__" ⟨.ref C::us,kw⟩)):=
 ⟨r.hd,by have:=r.dp;rw[make_depth];omega,by have:=r.un;rw[make_units];omega⟩
theorem Room.depth {k:Nat} {A:Around} (r:Room k A):A.depth<recursionLimit:=by have:=r.dp;omega
theorem Room.units {k:Nat} {A:Around} (r:Room k A):A.units+64<cLine:=by have:=r.un;omega
def tNil:TA:=fun _ H Q=>Q [] H
def tCons (ta:TE) (tr:TA):TA:=fun σ H Q=>ta σ H fun x H1=>tr σ H1 fun xs H2=>Q (x::xs) H2
section
variable {X:Cx} {e:Expr} {es:List Expr} {te:TE} {t:TA} {pos:Pos}
theorem pa_nil:PA X [] tNil:=fun _ _ _ _ H Q I h=>Calls.spliced_nil ⟨[],H,I,.nil,h⟩
theorem pa_cons (ha:PE X e te) (hr:PA X es t) (hs:starEach (e::es) X.env=(false,eval e X.env)::starEach es X.env:=by rfl):PA X (e::es) (tCons te t):=by
 intro pos pins s σ H Q I h
 rw[hs]
 show wpAny _ _ (spliced ((false,eval e X.env)::backTo pos (starEach es X.env))) _ _ s
 refine Calls.spliced_cons (thn (ha pins s σ H _ I h) fun u s1 ⟨x,H1,I1,r1,q1⟩=>?_)
 exact thn (hr pos pins s1 σ H1 _ I1 q1) fun us s2 ⟨xs,H2,I2,r2,q2⟩=>⟨x::xs,H2,I2,.cons r1 r2,q2⟩
def tTup (t:TA):TE:=fun σ H Q=>t σ H fun xs H1=>xs.length<=sizeLine/\∀p,H1 p=none->Q (.ref p) (upd H1 p (.tup xs))
def tLst (t:TA):TE:=fun σ H Q=>t σ H fun xs H1=>xs.length<=sizeLine/\∀p,H1 p=none->Q (.ref p) (upd H1 p (.lst xs))
theorem pe_tup {x1} (h:PA X es t):PE X (.Tuple es x1 pos) (tTup t):=by
 intro pins s σ H Q I hq
 refine wpAny_Tuple_spliced (thn (h pos pins s σ H _ I hq) fun us s1 ⟨xs,H1,I1,r,z,q⟩=>⟨by rw[<-r.length];exact z,?_⟩)
 have hf:H1 s1.heap.objs.size=none:=I1.hok.fresh (Nat.le_refl _)
 refine⟨.ref s1.heap.objs.size,upd H1 s1.heap.objs.size (.tup xs),I1.laid (t':=s1.toks) (fun b u e=>Heap.get?_push_of_some _ e) (Nat.le_refl _) ?_,rfl,q _ hf⟩
 exact⟨z,us,r,⟨_,Heap.get?_push_size _ rfl,rfl,_,rfl⟩⟩
theorem pe_lst (h:PA X es t):PE X (.List es pos) (tLst t):=by
 intro pins s σ H Q I hq
 refine wpAny_List_spliced (thn (h pos pins s σ H _ I hq) fun us s1 ⟨xs,H1,I1,r,z,q⟩=>⟨by rw[<-r.length];exact z,?_⟩)
 have hf:H1 s1.heap.objs.size=none:=I1.hok.fresh (Nat.le_refl _)
 refine⟨.ref s1.heap.objs.size,upd H1 s1.heap.objs.size (.lst xs),I1.laid (t':=s1.toks) (fun b u e=>Heap.get?_push_of_some _ e) (Nat.le_refl _) ?_,rfl,q _ hf⟩
 exact⟨z,us,0,r,Heap.get?_push_size _ rfl⟩
end
abbrev Sp:=List V->Hp->VK->XK->Prop
abbrev CXT:=List Env->Hp->Shared->XK->Value->Shared->Prop
structure Env0 (P:Program) (w:World) (K:PySem.W.Frag) (mg:Str->Option Value) (base:Heap) (A:Around) (outer:List Env) (s:Shared) (H:Hp):Prop where
 frames:A.frames=some outer
 mod:Mod K mg base
 bs:∀b o,base.get? b=some o->s.heap.get? b=some o/\H b=none
 bsz:base.objs.size<=s.heap.objs.size
 funs:s.heap.FunFrames base outer
 frf:∀b∈frs outer,H b=none
 hok:HOk P w H s.heap
 bare:AllBare s.gens
def CE (outer:List Env) (P:Program) (w:World) (H:Hp) (s:Shared) (Q:VK) (u:Value) (s':Shared):Prop:=
 ∃v H',s'.os=s.os/\AllBare s'.gens/\Un (frs outer) [] H H' s.heap s'.heap/\HOk P w H' s'.heap/\RelV v u/\Q v H'
def CR (CX:CXT) (outer:List Env) (P:Program) (w:World) (H:Hp) (s:Shared) (Q:VK) (E:XK) (r:Result) (s':Shared):Prop:=
 match r with
 |.ok (.ret u)=>CE outer P w H s Q u s'
 |.ok _=>False
 |.error e=>CX outer H s E e s'
structure FnOk (P:Program) (w:World) (K:PySem.W.Frag) (mg:Str->Option Value) (base:Heap) (CX:CXT) (k:Nat) (f:Addr) (fd:FuncData) (ps:List Str) (sp:Sp):Prop where
 len:∀vs H Q E,sp vs H Q E->vs.length=ps.length
 run:∀(A:Around) (outer:List Env) (s:Shared) (H:Hp) (args:Args) (us:List Value) (vs:List V) (Q:VK) (E:XK),Room k A->Env0 P w K mg base A outer s H->BindsTo s fd args (ps.zip us)->Vals vs us->sp vs H Q E ->
  codeAny (model P w) A (.call (.ref f) args) (CR CX outer P w H s Q E) s
theorem Env0.make {P:Program} {w:World} {K:PySem.W.Frag} {mg:Str->Option Value} {base:Heap} {A:Around} {outer:List Env} {s:Shared} {H:Hp} (e:Env0 P w K mg base A outer s H) (C:Addr) (us:List Value) (kw:List (Str×Value)) :
  Env0 P w K mg base (A.under (.builtin "type.__call__" ⟨.ref C::us,kw⟩)) outer s H:=⟨by first|exact e.frames|(simpa[Around.under,Code.envs,Code.isFrame,pushEnvs]using e.frames),e.mod,e.bs,e.bsz,e.funs,e.frf,e.hok,e.bare⟩
section
variable {X:Cx} {pins:List (Addr×Obj)} {σ:St} {H:Hp} {s s':Shared}
theorem Inv.env0 (I:Inv X pins σ H s):Env0 X.prog X.w X.K X.mg X.base X.A X.stack s H:=
 ⟨I.ok.frames,I.ok.mod,I.bs,Nat.le_trans I.ok.bsz I.sz,I.stack,I.stkFree,I.hok,I.bare⟩
theorem Inv.after {Q:VK} {u:Value} (I:Inv X pins σ H s) (h:CE X.stack X.prog X.w H s Q u s'):EP X pins σ Q u s':=by
 obtain⟨v,H',os,bare,un,hok,r,q⟩:=h
 obtain⟨hh,g,d,t,os'⟩:=s'
 obtain rfl:os'=s.os:=os
 exact⟨v,H',I.call (h':=hh) (g':=g) (d':=d) (t':=t) (ch:=[]) un hok bare (fun b z=>absurd z (by simp)),r,q⟩
end
def tCall (sp:Sp) (dvs:List V) (E:XK) (t:TA):TE:=fun σ H Q=>t σ H fun vs H1=>sp (vs++dvs) H1 Q E
def tMeth (C:Addr) (m:Str) (sp:Sp) (dvs:List V) (E:XK) (ta:TE) (t:TA):TE:=fun σ H Q=>ta σ H fun x H1=>∃a dx fs,x=.ref a/\H1 a=some (.ins C dx fs)/\fs.lookup m=none /\
 t σ H1 fun vs H2=>sp (x::(vs++dvs)) H2 Q E
def tMake (C:Addr) (sp:Sp) (dvs:List V) (E:XK) (t:TA):TE:=fun σ H Q=>t σ H fun vs H1=>∀x dx,H1 x=none->H1 dx=none->dx≠x ->
 sp (.ref x::(vs++dvs)) (upd (upd H1 dx (.own x)) x (.ins C dx [])) (fun v H2=>v=.non/\Q (.ref x) H2) E
def Binds (K:PySem.W.Frag) (fd:FuncData) (ps:List Str) (ds:List Value):Prop:=
 ∀(s:Shared) (us:List Value),K.In s.heap->(us++ds).length=ps.length->BindsTo s fd ⟨us,[]⟩ (ps.zip (us++ds))
theorem Binds.all {K:PySem.W.Frag} {fd:FuncData} {ps:List Str} (h:∀us:List Value,us.length=ps.length->bindArgs fd ⟨us,[]⟩=pure (ps.zip us)):Binds K fd ps []:=fun s us _ hl=>by
 rw[List.append_nil]at hl ⊢
 exact .of_eq (h us hl)
def Passes (CX:CXT) (X:Cx) (E:XK):Prop:=∀(pins:List (Addr×Obj)) (σ:St) (H:Hp) (s:Shared) (e:Value) (s':Shared),Inv X pins σ H s->CX X.stack H s E e s'->X.xe e s'
section
variable {X:Cx} {CX:CXT} {k:Nat} {f C:Addr} {fd:FuncData} {ps:List Str} {sp:Sp} {dvs:List V} {ds:List Value} {E:XK} {x m:Str} {p pos apos:Pos} {e o:Expr} {es:List Expr} {ta:TE} {t:TA}
theorem run_fn {pins:List (Addr×Obj)} {σ:St} {H:Hp} {s:Shared} {Q:VK} {us:List Value} {vs:List V} (F:FnOk X.prog X.w X.K X.mg X.base CX k f fd ps sp) (hr:Room k X.A) (hb:Binds X.K fd ps ds) (hd:Vals dvs ds) (hx:Passes CX X E)
  (I:Inv X pins σ H s) (r:Vals vs us) (h:sp (vs++dvs) H Q E):wpAny (model X.prog X.w) X.A (call (.ref f) us) (EP X pins σ Q) X.xe s:=by
 have r2:Vals (vs++dvs) (us++ds):=r.append hd
 have hl:(us++ds).length=ps.length:=by rw[<-r2.length];exact F.len _ _ _ _ h
 refine wpAny_call (codeAny_mono (F.run X.A X.stack s H ⟨us,[]⟩ (us++ds) (vs++dvs) Q E hr I.env0 (hb s us I.kIn hl) r2 h) fun r s' hq=>?_)
 cases r with
 |error e=>exact hx pins σ H s e s' I hq
 |ok fl=>
  cases fl with
  |ret u=>exact I.after hq
  |next=>exact False.elim hq
  |brk=>exact False.elim hq
  |cont=>exact False.elim hq
theorem pe_call (F:FnOk X.prog X.w X.K X.mg X.base CX k f fd ps sp) (hr:Room k X.A) (hg:Gl X x) (hm:X.mg x=some (.ref f)) (hk:PySem.W.keepIn X.K (.ref f)=true) (hb:Binds X.K fd ps ds) (hd:Vals dvs ds) (hx:Passes CX X E)
  (ha:PA X (e::es) t) (hdb:(x==("__debug__":Str))=false:=by decide) (he:starEach (e::es) X.env=(false,eval e X.env)::starEach es X.env:=by rfl) (hpl:(backTo pos (starEach es X.env)).any (·.1)=false:=by rfl) :
  PE X (.Call (.Name x p) (e::es) [] pos) (tCall sp dvs E t):=by
 intro pins s σ H Q I h
 refine wpAny_Call_Name_kw (ld_glob I hg hm ?_ hdb)
 refine PySem.W.callWith_K (h₀:=X.base) I.ok.mod.kin hk (thn (ha pos pins s σ H _ I h) fun us s1 ⟨vs,H1,I1,r,q⟩=>⟨I1.kIn,?_⟩) he hpl
 exact run_fn F hr hb hd hx I1 r q
theorem pe_meth {pl:Sem Bool} (he:PE X o ta) (c:Cls X.K C) (hm:Meth X.K C m f) (F:FnOk X.prog X.w X.K X.mg X.base CX k f fd ps sp) (hr:Room k X.A) (hb:Binds X.K fd ps ds) (hd:Vals dvs ds) (hx:Passes CX X E) (ha:PA X (e::es) t)
  (hst:starEach (e::es) X.env=(false,eval e X.env)::starEach es X.env:=by rfl) (hpl:(backTo pos (starEach es X.env)).any (·.1)=false:=by rfl)
  (ht:eval (.Call (.Attribute o m apos) (e::es) [] pos) X.env=(do
   let ov<-eval o X.env
   standAt apos.atName
   let(f,first)<-holding [ov] (getMethod ov m pl)
   callWith pos f first (backTo pos (starEach (e::es) X.env)) (backToKw pos (keywordEach [] X.env))):=by rfl) :
  PE X (.Call (.Attribute o m apos) (e::es) [] pos) (tMeth C m sp dvs E ta t):=by
 intro pins s σ H Q I h
 refine PySem.W.methodCall_KW (pl:=pl) (thn (he pins s σ H _ I h) fun u s1 ⟨x,H1,I1,rx,a,dx,fs,ex,ea,l,q⟩=>?_) ht
 subst ex
 obtain rfl:u=Value.ref a:=rx
 refine getmeth_ok I1 ea c hm l ?_
 refine PySem.W.callWith_K (first:=[.ref a]) (h₀:=X.base) I.ok.mod.kin hm.kp (thn (ha pos pins s1 σ H1 _ I1 q) fun us s2 ⟨vs,H2,I2,r,q2⟩=>⟨I2.kIn,?_⟩) hst hpl
 exact run_fn (us:=.ref a::us) (vs:=.ref a::vs) F hr hb hd hx I2 (.cons rfl r) q2
theorem pe_meth0 {pl:Sem Bool} (he:PE X o ta) (c:Cls X.K C) (hm:Meth X.K C m f) (F:FnOk X.prog X.w X.K X.mg X.base CX k f fd ps sp) (hr:Room k X.A) (hb:Binds X.K fd ps ds) (hd:Vals dvs ds) (hx:Passes CX X E)
  (ht:eval (.Call (.Attribute o m apos) [] [] pos) X.env=(do
   let ov<-eval o X.env
   standAt apos.atName
   let(f,first)<-holding [ov] (getMethod ov m pl)
   callWith pos f first (backTo pos (starEach [] X.env)) (backToKw pos (keywordEach [] X.env))):=by rfl) :
  PE X (.Call (.Attribute o m apos) [] [] pos) (tMeth C m sp dvs E ta tNil):=by
 intro pins s σ H Q I h
 refine PySem.W.methodCall_KW (pl:=pl) (thn (he pins s σ H _ I h) fun u s1 ⟨x,H1,I1,rx,a,dx,fs,ex,ea,l,q⟩=>?_) ht
 subst ex
 obtain rfl:u=Value.ref a:=rx
 refine getmeth_ok I1 ea c hm l ?_
 exact PySem.W.callWith_K0 (first:=[.ref a]) I1.kIn hm.kp (run_fn (us:=[.ref a]) (vs:=[.ref a]) F hr hb hd hx I1 (.cons rfl .nil) q)
structure Mk (K:PySem.W.Frag) (C f:Addr):Prop where
 makes:PySem.W.makesIn K C=true
 init:PySem.W.findIn K (.ref C) "__init__"=some (some (.ref f))
 fn:PySem.W.isFn K (.ref f)=true
 kp:PySem.W.keepIn K (.ref C)=true
theorem run_make {pins:List (Addr×Obj)} {σ:St} {H:Hp} {s:Shared} {Q:VK} {us:List Value} {vs:List V} (M:Mk X.K C f) (F:FnOk X.prog X.w X.K X.mg X.base CX k f fd ps sp) (hr:Room (k+1) X.A) (hb:Binds X.K fd ps ds) (hd:Vals dvs ds)
  (hx:Passes CX X E) (I:Inv X pins σ H s) (r:Vals vs us)
  (h:∀x dx,H x=none->H dx=none->dx≠x->sp (.ref x::(vs++dvs)) (upd (upd H dx (.own x)) x (.ins C dx [])) (fun v H2=>v=.non/\Q (.ref x) H2) E) :
  wpAny (model X.prog X.w) X.A (call (.ref C) us) (EP X pins σ Q) X.xe s:=by
 have hq:=h (s.heap.objs.size+1) s.heap.objs.size (I.hok.fresh (Nat.le_succ _)) (I.hok.fresh (Nat.le_refl _)) (Nat.ne_of_lt (Nat.lt_succ_self _))
 have I2:=Inv.made (C:=C) I
 have r2:Vals (V.ref (s.heap.objs.size+1)::(vs++dvs)) (Value.ref (s.heap.objs.size+1)::(us++ds)):=.cons rfl (r.append hd)
 have hl:(Value.ref (s.heap.objs.size+1)::us++ds).length=ps.length:=by
  have e:=r2.length
  rw[F.len _ _ _ _ hq]at e
  exact e.symm
 refine wpAny_call (make_map (f:=f) I.kIn M.makes M.init (beq_iff_eq.mp M.fn) (codeAny_mono (F.run _ X.stack _ _ ⟨Value.ref (s.heap.objs.size+1)::us,[]⟩ (Value.ref (s.heap.objs.size+1)::(us++ds)) _ _ E (hr.make C us [])
  (I2.env0.make C us []) (hb _ (Value.ref (s.heap.objs.size+1)::us) I2.kIn hl) r2 hq) fun r s' hq'=>?_))
 cases r with
 |error e=>exact hx pins σ _ _ e s' I2 hq'
 |ok fl=>
  cases fl with
  |ret u=>
   obtain⟨v,H',I3,rv,ev,q3⟩:=I2.after hq'
   subst ev
   exact⟨rv,⟨V.ref (s.heap.objs.size+1),H',I3,rfl,q3⟩⟩
  |next=>exact False.elim hq'
  |brk=>exact False.elim hq'
  |cont=>exact False.elim hq'
theorem pe_make (M:Mk X.K C f) (F:FnOk X.prog X.w X.K X.mg X.base CX k f fd ps sp) (hr:Room (k+1) X.A) (hg:Gl X x) (hm:X.mg x=some (.ref C)) (hb:Binds X.K fd ps ds) (hd:Vals dvs ds) (hx:Passes CX X E)
  (ha:PA X (e::es) t) (hdb:(x==("__debug__":Str))=false:=by decide) (he:starEach (e::es) X.env=(false,eval e X.env)::starEach es X.env:=by rfl) (hpl:(backTo pos (starEach es X.env)).any (·.1)=false:=by rfl) :
  PE X (.Call (.Name x p) (e::es) [] pos) (tMake C sp dvs E t):=by
 intro pins s σ H Q I h
 refine wpAny_Call_Name_kw (ld_glob I hg hm ?_ hdb)
 refine PySem.W.callWith_K (h₀:=X.base) I.ok.mod.kin M.kp (thn (ha pos pins s σ H _ I h) fun us s1 ⟨vs,H1,I1,r,q⟩=>⟨I1.kIn,?_⟩) he hpl
 exact run_make M F hr hb hd hx I1 r q
theorem pe_make0 (M:Mk X.K C f) (F:FnOk X.prog X.w X.K X.mg X.base CX k f fd ps sp) (hr:Room (k+1) X.A) (hg:Gl X x) (hm:X.mg x=some (.ref C)) (hb:Binds X.K fd ps ds) (hd:Vals dvs ds) (hx:Passes CX X E)
  (hdb:(x==("__debug__":Str))=false:=by decide):PE X (.Call (.Name x p) [] [] pos) (tMake C sp dvs E tNil):=by
 intro pins s σ H Q I h
 refine wpAny_Call_Name_kw (ld_glob I hg hm ?_ hdb)
 exact PySem.W.callWith_K0 I.kIn M.kp (run_make (us:=[]) M F hr hb hd hx I .nil h)
end
structure FnScope (N P:List Str) (sc:Scope):Prop where
 kind:sc.kind=.function
 co:sc.isCoroutine=false
 gen:sc.isGenerator=false
 nd:N.Nodup
 pre:N.take P.length=P
 par:∀x∈P,sc.names.lookup x=some .local\/sc.names.lookup x=some .cell
 nofree:∀y∈sc.names,y.2≠.free
theorem bindL_out {kindOf:Str->Option NameKind} {x:Str}:∀{binds:List (Str×Value)} {m:Str->Option Value},(∀v,(x,v) ∉ binds)->bindL kindOf binds m x=m x
 |[],_,_=>rfl
 |(n,v)::r,m,h=>by
  unfold bindL
  rw[bindL_out fun w hw=>h w (List.mem_cons_of_mem _ hw)]
  split
  ·have:x≠n:=by rintro rfl;exact h v List.mem_cons_self
   simp[this]
  ·rfl
theorem bindC_out {kindOf:Str->Option NameKind} {x:Str}:∀{binds:List (Str×Value)} {m:Str->Option Value},(∀v,(x,v) ∉ binds)->bindC kindOf binds m x=m x
 |[],_,_=>rfl
 |(n,v)::r,m,h=>by
  unfold bindC
  rw[bindC_out fun w hw=>h w (List.mem_cons_of_mem _ hw)]
  split
  ·rfl
  ·have:x≠n:=by rintro rfl;exact h v List.mem_cons_self
   simp[this]
theorem bindL_get {kindOf:Str->Option NameKind} {x:Str} {v:Value}:∀{P:List Str} {vs:List Value} {i:Nat} {m:Str->Option Value},P.Nodup->P[i]?=some x->vs[i]?=some v->kindOf x=some .local ->
  bindL kindOf (P.zip vs) m x=some v
 |[],_,_,_,_,h,_,_=>by simp at h
 |_::_,[],_,_,_,_,h,_=>by simp at h
 |p::P,w::vs,0,m,nd,h1,h2,hk=>by
  simp at h1 h2;subst h1;subst h2
  show bindL kindOf ((p,w)::P.zip vs) m p=_
  unfold bindL
  rw[bindL_out fun v hv=>(List.nodup_cons.mp nd).1 (List.of_mem_zip hv).1,if_pos hk]
  simp
 |p::P,w::vs,i+1,m,nd,h1,h2,hk=>by
  show bindL kindOf ((p,w)::P.zip vs) m x=_
  unfold bindL
  exact bindL_get (i:=i) (List.nodup_cons.mp nd).2 (by simpa using h1) (by simpa using h2) hk
theorem bindC_get {kindOf:Str->Option NameKind} {x:Str} {v:Value}:∀{P:List Str} {vs:List Value} {i:Nat} {m:Str->Option Value},P.Nodup->P[i]?=some x->vs[i]?=some v->kindOf x≠some .local ->
  bindC kindOf (P.zip vs) m x=some v
 |[],_,_,_,_,h,_,_=>by simp at h
 |_::_,[],_,_,_,_,h,_=>by simp at h
 |p::P,w::vs,0,m,nd,h1,h2,hk=>by
  simp at h1 h2;subst h1;subst h2
  show bindC kindOf ((p,w)::P.zip vs) m p=_
  unfold bindC
  rw[bindC_out fun v hv=>(List.nodup_cons.mp nd).1 (List.of_mem_zip hv).1,if_neg hk]
  simp
 |p::P,w::vs,i+1,m,nd,h1,h2,hk=>by
  show bindC kindOf ((p,w)::P.zip vs) m x=_
  unfold bindC
  exact bindC_get (i:=i) (List.nodup_cons.mp nd).2 (by simpa using h1) (by simpa using h2) hk
def start (N:List Str) (vs:List V):St:=vs.map some++List.replicate (N.length-vs.length) none
def cxOf (CX:CXT) (P:Program) (w:World) (K:PySem.W.Frag) (mg:Str->Option Value) (base:Heap) (N:List Str) (qual:Str) (scope:Scope) (f:Addr) (cd:Value) (A:Around) (outer:List Env) (s:Shared) (H:Hp) (E:XK):Cx where
 prog:=P
 w:=w
 K:=K
 mg:=mg
 base:=base
 A:=A.deeper (envOfC qual scope s.heap.objs.size f cd)
 N:=N
 s_0:=s
 H_0:=H
 env:=envOfC qual scope s.heap.objs.size f cd
 outer:=outer
 stack:=envOfC qual scope s.heap.objs.size f cd::outer
 ex:=[]
 calm:=true
 fn:=fun _=>true
 pn:=[]
 xe:=fun e s'=>wpAny (model P w) (A.deeper (envOfC qual scope s.heap.objs.size f cd)) (leaving (envOfC qual scope s.heap.objs.size f cd) e) (fun _ s''=>CX outer H s E e s'') (fun e' s''=>CX outer H s E e' s'') s'
theorem cell_has {sc:Scope} {n:Nat} {x:Str} (h:sc.names.lookup x=some .cell):∃c,(cellsFrom n sc.names []).lookup x=some c:=by
 have q:=PySem.W.cellsFrom_some sc.names n [] (.inl h)
 exact Option.isSome_iff_exists.mp q
theorem inv_start {CX:CXT} {P:Program} {w:World} {K:PySem.W.Frag} {mg:Str->Option Value} {base:Heap} {N ps:List Str} {qual:Str} {scope:Scope} {f:Addr} {cd:Value} {A:Around} {outer:List Env} {s s1:Shared} {H:Hp} {E:XK} {us:List Value} {vs:List V}
  (S:FnScope N ps scope) (hd:A.handled=none) (e0:Env0 P w K mg base A outer s H) (hl:vs.length=ps.length) (r:Vals vs us)
  (x:InCallC s s.heap.objs.size (bindL (envOfC qual scope s.heap.objs.size f cd).kindOf (ps.zip us) fun _=>none) (cellsFrom (s.heap.objs.size+1) scope.names []) (bindC (envOfC qual scope s.heap.objs.size f cd).kindOf (ps.zip us) fun _=>none) s1) :
  Inv (cxOf CX P w K mg base N qual scope f cd A outer s H E) [] (start N vs) H s1:=by
 have hpl:ps.length<=N.length:=by have:=congrArg List.length S.pre;rw[List.length_take]at this;omega
 obtain⟨h1,tk,rfl,hk⟩:=x.done
 have noA:∀b:Addr,b ∉ (cxOf CX P w K mg base N qual scope f cd A outer s H E).ex:=fun b z=>absurd (show b∈([]:List Addr)from z) (by simp)
 refine⟨⟨e0.mod,S.kind,rfl,rfl,Nat.le_refl _,fun y z c h1 h2=>?_,fun y hy=>?_,fun y c _ h=>?_,fun _=>hd,Around.frames_deeper e0.frames,.inr ⟨rfl,rfl⟩,fun b z=>absurd z (noA b),e0.bs,e0.bsz,fun b _ _=>noA b,fun b z=>absurd z (noA b),e0.funs,e0.frf⟩,
  rfl,e0.bare,Un.kept hk,⟨_,x.toInCall.ns,fun i y v h1 h2 h3=>?_⟩,fun y c h=>⟨_,x.cell y c h⟩,e0.hok.fresh (Nat.le_refl _),fun y c h=>?_,fun p hp=>absurd (show p∈([]:List (Addr×Obj))from hp) (by simp),e0.hok.kept hk,?_⟩
 ·exact name_of_addr x.apart (PySem.mem_of_lookup h1) (PySem.mem_of_lookup h2)
 ·have hy:scope.names.lookup y=some .cell\/scope.names.lookup y=some .free:=hy
  rcases hy with hy|hy
  ·exact cell_has hy
  ·exact absurd rfl (S.nofree _ (PySem.mem_of_lookup hy))
 ·exact Nat.le_of_lt (x.above y c (PySem.mem_of_lookup h))
 ·have hi:i<vs.length:=by
   unfold start at h2
   by_cases hi:i<vs.length
   ·exact hi
   ·rw[List.getElem?_append_right (by simpa using hi)]at h2
    rw[List.getElem?_replicate]at h2
    split at h2<;>cases h2
  have ha:vs[i]?=some v:=by
   unfold start at h2
   rw[List.getElem?_append_left (by simpa using hi),List.getElem?_map]at h2
   cases e:vs[i]? with
   |none=>rw[e]at h2;cases h2
   |some a=>rw[e]at h2;cases h2;rfl
  obtain⟨u,hu,rv⟩:=r.get ha
  have hp:ps[i]?=some y:=by
   rw[<-S.pre,List.getElem?_take_of_lt (by omega)];exact h1
  have ndP:ps.Nodup:=by rw[<-S.pre];exact S.nd.sublist (List.take_sublist _ _)
  refine⟨u,rv,?_⟩
  rcases S.par y (List.mem_of_getElem? hp)with k|k
  ·exact .inl ⟨k,bindL_get ndP hp hu k⟩
  ·obtain⟨c,e⟩:=cell_has (n:=s.heap.objs.size+1) k
   refine .inr ⟨.inl k,c,e,?_⟩
   have q:=x.cell y c e
   rw[bindC_get ndP hp hu (by show scope.names.lookup y≠_;rw[k];decide)]at q
   exact q
 ·exact e0.hok.fresh (Nat.le_of_lt (x.above y c (PySem.mem_of_lookup h)))
 ·unfold start
  show _=N.length
  rw[List.length_append,List.length_map,List.length_replicate]
  omega
theorem fn_of {CX:CXT} {P:Program} {w:World} {K:PySem.W.Frag} {mg:Str->Option Value} {base:Heap} {k:Nat} {f:Addr} {name qual:Str} {params:Arguments} {body:List Stmt} {scope:Scope} {dV kV doc pm cdv ct oc:Value} {an od:Option Addr}
  {osl:Array (Option Value)} {N ps:List Str} {sp:Sp} (lk:K.lookup f=some ⟨oc,od,.func (PySem.W.fnOf name qual params body scope dV kV doc pm an cdv ct),osl⟩) (hcd:PySem.W.codeIn K cdv qual=true) (S:FnScope N ps scope)
  (len:∀vs H Q E,sp vs H Q E->vs.length=ps.length)
  (hbody:∀(A:Around) (outer:List Env) (s:Shared) (H:Hp) (vs:List V) (Q:VK) (E:XK),Room k (A.deeper (envOfC qual scope s.heap.objs.size f cdv))->sp vs H Q E ->
   ∃t,PSs (cxOf CX P w K mg base N qual scope f cdv A outer s H E) body t/\t {nx:=fun _ H'=>Q .non H',rt:=Q} (start N vs) H) :
  FnOk P w K mg base CX (k+1) f (PySem.W.fnOf name qual params body scope dV kV doc pm an cdv ct) ps sp:=by
 refine⟨len,fun A outer s H args us vs Q E hr e0 hb r hsp=>?_⟩
 have hl:=len _ _ _ _ hsp
 have KX:K.In s.heap:=e0.mod.kin.keeps fun b o e=>(e0.bs b o e).1
 have lim:s.heap.NoLimit:=e0.mod.nolimit.keeps fun b o e=>(e0.bs b o e).1
 have hkind:∀y∈ps.zip us,scope.names.lookup y.1=some .local\/(scope.names.lookup y.1=some .cell/\((cellsFrom (s.heap.objs.size+1) scope.names []).lookup y.1).isSome=true):=fun⟨n,v⟩ hy=>by
  rcases S.par n (List.of_mem_zip hy).1 with q|q
  ·exact .inl q
  ·exact .inr ⟨q,PySem.W.cellsFrom_some _ _ _ (.inl q)⟩
 refine codeAny_call_function hr.depth (KX _ _ lk) rfl S.co S.gen rfl (PySem.W.codeRec_of KX hcd) (hb _ _ _ _ ?_)
 refine wpAny_newFunctionEnv_cells S.kind hkind fun env he s1 x=>?_
 subst he
 refine⟨lim.keeps x.toInCall.keep,codeAny_func ?_⟩
 obtain⟨t,ht,hq⟩:=hbody A outer s H vs Q E (hr.deeper _) hsp
 have I:Inv (cxOf CX P w K mg base N qual scope f cdv A outer s H E) [] (start N vs) H s1:=inv_start S hr.hd e0 hl r x
 refine wpAny_mono (ht [] s1 (start N vs) H _ I hq) (fun fl s' hs=>?_) fun e s' hs=>hs
 have fin:∀{σ':St} {H':Hp} {v:V} {u:Value},Inv (cxOf CX P w K mg base N qual scope f cdv A outer s H E) [] σ' H' s'->RelV v u->Q v H'->CE outer P w H s Q u s':=
  fun{σ' H' v u} J rv q=>⟨v,H',J.os,J.bare,J.base,J.hok,rv,q⟩
 cases fl with
 |ret u=>
  obtain⟨v,σ',H',J,rv,q⟩:=hs
  exact fin J rv q
 |next=>
  obtain⟨σ',H',J,q⟩:=hs
  exact fin (v:=V.non) (u:=Value.none) J rfl q
 |brk=>
  obtain⟨_,_,_,q⟩:=hs
  exact False.elim q
 |cont=>
  obtain⟨_,_,_,q⟩:=hs
  exact False.elim q
end L2
namespace L2
open PySem PySem.Spec PyProof.Rows
section
variable {X:Cx} {x:Str} {p pos:Pos} {e:Expr} {es:List Expr} {t:TA} {id T:String} {r:List V->Hp->VK->Prop}
def tCB (r:List V->Hp->VK->Prop) (t:TA):TE:=fun σ H Q=>t σ H fun vs H1=>r vs H1 Q
theorem pe_callB (hc:CallR X (.builtin id) r) (hg:Gl X x) (hm:X.mg x=none) (hv:bootBuiltins x=some (.builtin id)) (ha:PA X (e::es) t) (hn:x≠"__name__":=by decide) (hdb:(x==("__debug__":Str))=false:=by decide)
  (he:starEach (e::es) X.env=(false,eval e X.env)::starEach es X.env:=by rfl) (hpl:(backTo pos (starEach es X.env)).any (·.1)=false:=by rfl):PE X (.Call (.Name x p) (e::es) [] pos) (tCB r t):=by
 intro pins s σ H Q I h
 refine wpAny_Call_Name_kw (ld_blt I hg hm hv ?_ hn hdb)
 exact PyProof.Rows.callWith_builtin1 (thn (ha pos pins s σ H _ I h) fun us s1 ⟨vs,H1,I1,r1,q1⟩=>hc pins s1 σ H1 vs us Q I1 r1 q1) he hpl
theorem pe_callTy (hc:CallR X (.type T) r) (hg:Gl X x) (hm:X.mg x=none) (hv:bootBuiltins x=some (.type T)) (ha:PA X (e::es) t) (hn:x≠"__name__":=by decide) (hdb:(x==("__debug__":Str))=false:=by decide)
  (he:starEach (e::es) X.env=(false,eval e X.env)::starEach es X.env:=by rfl) (hpl:(backTo pos (starEach es X.env)).any (·.1)=false:=by rfl):PE X (.Call (.Name x p) (e::es) [] pos) (tCB r t):=by
 intro pins s σ H Q I h
 refine wpAny_Call_Name_kw (ld_blt I hg hm hv ?_ hn hdb)
 exact PyProof.Rows.callWith_type1 (thn (ha pos pins s σ H _ I h) fun us s1 ⟨vs,H1,I1,r1,q1⟩=>hc pins s1 σ H1 vs us Q I1 r1 q1) he hpl
end
end L2
namespace HT
open PySem PyProof.Rows
section
variable {prog:Program} {w:World} {A:Around} {E:Value->Shared->Prop} {s:Shared}
theorem cat_tup {t b:Addr} {vs ws:List Value} {Q:Value->Shared->Prop} (ht:IsTup s.heap t vs.toArray) (hb:IsTup s.heap b ws.toArray) (hv:vs≠[])
  (h1:ws=[]->Q (.ref t) s) (h2:ws≠[]->Q (.ref s.heap.objs.size) {s with heap:=s.heap.push {cls:=.type "tuple",data:=.seq (vs++ws).toArray}})
  (hsz:vs.length+ws.length<=sizeLine):wpAny (model prog w) A (binaryOp .Add (.ref t) (.ref b)) Q E s:=by
 obtain⟨⟨cls,dd,data,sl⟩,ho,hc,n,hd⟩:=id ht
 obtain⟨⟨cls2,dd2,data2,sl2⟩,ho2,hc2,n2,hd2⟩:=id hb
 simp only at hc hd hc2 hd2
 subst hc hd hc2 hd2
 have e:vs.toArray++ws.toArray=(vs++ws).toArray:=by simp
 by_cases hw:ws=[]
 ·exact concat_meets ⟨_,ho,rfl⟩ ⟨_,ho2,rfl⟩ noFill_tuple_add seq_tuple_add PySem.F.slot_tuple_add PySem.F.entry_tuple_add (PySem.F.args_tuple_add_2 _ _)
   (tuple_addW1 t b vs.toArray ws.toArray n n2 dd dd2 sl sl2 (by simpa using hv) (by simp[hw])) ⟨ho,ho2,h1 hw⟩
 ·refine concat_meets ⟨_,ho,rfl⟩ ⟨_,ho2,rfl⟩ noFill_tuple_add seq_tuple_add PySem.F.slot_tuple_add PySem.F.entry_tuple_add (PySem.F.args_tuple_add_2 _ _)
   (tuple_addW2 t b vs.toArray ws.toArray n n2 dd dd2 sl sl2 (by simpa using hv) (by simpa using hw) (by rw[List.size_toArray,List.size_toArray];exact hsz)) ⟨ho,ho2,?_⟩
  rw[e]
  exact h2 hw
def sIx (n d:Nat):Option Int->Nat
 |none=>d
 |some v=>if v<0 then(v+(n:Int)).toNat else min v.toNat n
theorem sIx_none (n d:Nat):sIx n d none=d:=rfl
theorem sIx_nat (n d k:Nat):sIx n d (some (k:Int))=min k n:=by
 show(if(k:Int)<0 then((k:Int)+(n:Int)).toNat else min (k:Int).toNat n)=min k n
 rw[if_neg (by omega),Int.toNat_natCast]
theorem sIx_le (n d:Nat) (hd:d<=n) (o:Option Int):sIx n d o<=n:=by
 cases o with
 |none=>exact hd
 |some v=>
  show(if v<0 then(v+(n:Int)).toNat else min v.toNat n)<=n
  by_cases hv:v<0
  ·rw[if_pos hv];omega
  ·rw[if_neg hv];exact Nat.min_le_right _ _
theorem clip_eq (v:Int) (n d:Nat):(if v<0 then max (v+(n:Int)) 0 else min v (n:Int))=((sIx n d (some v):Nat):Int):=by
 show(if v<0 then max (v+(n:Int)) 0 else min v (n:Int))=(((if v<0 then(v+(n:Int)).toNat else min v.toNat n):Nat):Int)
 by_cases hv:v<0
 ·simp only[if_pos hv];omega
 ·simp only[if_neg hv];omega
theorem adjust_gen (lo hi:Option Int) (n:Nat):Builtin.Slice.sliceAdjust lo hi 1 (n:Int)=(((sIx n 0 lo:Nat):Int),((sIx n n hi:Nat):Int)):=by
 have h1:¬ ((1:Int)<0):=by omega
 unfold Builtin.Slice.sliceAdjust
 simp only[h1,if_false]
 refine Prod.ext ?_ ?_
 ·cases lo with
  |none=>rfl
  |some v=>exact clip_eq v n 0
 ·cases hi with
  |none=>rfl
  |some v=>exact clip_eq v n n
theorem places_gen (i j:Nat):Builtin.Slice.slicePlaces (i:Int) (j:Int) 1=j-i:=by
 unfold Builtin.Slice.slicePlaces
 have h1:(1:Int) > 0:=by omega
 simp only[h1,if_true,Int.ediv_one]
 split<;>omega
theorem slicePart_ {v:Value} {o:Option Int} {Q:Option Int->Shared->Prop} (p:IsPart v o) (h:Q o s):wpAny (model prog w) A (Builtin.Slice.slicePartIndex v) Q E s:=by
 cases p with
 |none=>exact slicePart_none h
 |int i t=>exact slicePart_int h
theorem sliceApplied_gen {sl:Addr} {vl vu:Value} {lo hi:Option Int} {n:Nat} {Q:Int×Int×Nat->Shared->Prop} (hs:s.heap.IsSliceOf sl vl vu .none) (pl:IsPart vl lo) (pu:IsPart vu hi)
  (h:Q (((sIx n 0 lo:Nat):Int),1,sIx n n hi-sIx n 0 lo) s):wpAny (model prog w) A (Builtin.Slice.sliceApplied (.ref sl) (pure (n:Int))) Q E s:=by
 obtain⟨os,hos,hcs,hds⟩:=id hs
 unfold Builtin.Slice.sliceApplied Builtin.Slice.sliceFields
 refine wpAny_bind (wpAny_bind (wpAny_field hos hds (x:=vl) rfl (wpAny_bind (wpAny_field hos hds (x:=vu) rfl (wpAny_bind (wpAny_field hos hds (x:=.none) rfl (wpAny_pure ?_)))))))
 refine wpAny_bind (slicePart_none ?_)
 show wpAny _ _ (if((1:Int)==0)=true then _ else _) _ _ s
 rw[if_neg (by decide)]
 refine wpAny_bind (slicePart_ pl (wpAny_bind (slicePart_ pu (wpAny_bind (wpAny_pure ?_)))))
 show wpAny _ _ (match Builtin.Slice.sliceAdjust lo hi 1 (n:Int)with|(lo,hi)=>pure (lo,(1:Int),Builtin.Slice.slicePlaces lo hi 1)) _ _ s
 rw[adjust_gen lo hi n]
 show wpAny _ _ (pure (((sIx n 0 lo:Nat):Int),(1:Int),Builtin.Slice.slicePlaces ((sIx n 0 lo:Nat):Int) ((sIx n n hi:Nat):Int) 1)) _ _ s
 rw[places_gen]
 exact wpAny_pure h
theorem pick_gen (xs:Array Value) (i k:Nat):((List.range k).filterMap fun(m:Nat)=>xs[((i:Int)+(m:Int)*1).toNat]?).toArray=((xs.toList.drop i).take k).toArray:=by
 have e:(fun(m:Nat)=>xs[((i:Int)+(m:Int)*1).toNat]?)=fun m=>xs[i+m]?:=by
  funext m
  have:((i:Int)+(m:Int)*1).toNat=i+m:=by omega
  rw[this]
 rw[e]
 have:=pick_run xs i k
 rw[List.filterMap_map]at this
 have e2:((fun x=>xs[x]?)∘fun x=>i+x)=fun m=>xs[i+m]?:=rfl
 rw[e2]at this
 rw[this]
theorem getItem_tuple_cut {t sl:Addr} {items:Array Value} {vl vu:Value} {lo hi:Option Int} {Q:Value->Shared->Prop} (ht:IsTup s.heap t items) (hs:s.heap.IsSliceOf sl vl vu .none) (pl:IsPart vl lo) (pu:IsPart vu hi)
  (hw:¬ (sIx items.size 0 lo=0/\sIx items.size items.size hi=items.size))
  (h:Q (.ref s.heap.objs.size) {s with heap:=s.heap.push {cls:=.type "tuple",data:=.seq ((items.toList.drop (sIx items.size 0 lo)).take (sIx items.size items.size hi-sIx items.size 0 lo)).toArray}})
  (hsz:items.size<=sizeLine):wpAny (model prog w) A (getItem (.ref t) (.ref sl)) Q E s:=by
 have htake:sizeOk (.seq ((items.toList.drop (sIx items.size 0 lo)).take (sIx items.size items.size hi-sIx items.size 0 lo)).toArray):=by
  show((items.toList.drop (sIx items.size 0 lo)).take (sIx items.size items.size hi-sIx items.size 0 lo)).toArray.size<=sizeLine
  rw[List.size_toArray,List.length_take,List.length_drop,Array.length_toList]
  omega
 have hj:sIx items.size items.size hi<=items.size:=sIx_le _ _ (Nat.le_refl _) hi
 obtain⟨os,hos,hcs,hds⟩:=id hs
 have hTs:s.TypeIs (.ref sl) "slice":=⟨os,hos,hcs⟩
 unfold getItem
 try with_reducible refine wpAny_holding ?_
 first|refine wpAny_bind (wpAny_pure ?_)|skip
 refine wpAny_bind (wpAny_sequenceKey ht.typeIs (by decide) ?_)
 refine wpAny_bind (wpAny_callSpecial?_slot (name:=Str.ofString "__getitem__") ht.typeIs PyProof.Rows.slot_tuple_getitem
  (wpAny_call_entry PyProof.Rows.slot_tuple_getitem ht.typeIs entry_tuple_getitem ?_ (args_tuple_getitem _ _)))
 show wpAny _ _ (Builtin.Tuple.tupleItemsOf (.ref t) >>= _) _ _ s
 refine wpAny_bind (tupleItemsOf_ ht ?_)
 refine wpAny_bind (wpAny_typeOf hTs ?_)
 rw[if_pos (by decide)]
 refine wpAny_bind (sliceApplied_gen hs pl pu ?_)
 have hno:¬ ((((sIx items.size 0 lo:Nat):Int)==0&&(1:Int)==1&&(sIx items.size items.size hi-sIx items.size 0 lo)==items.size)=true):=by
  intro q
  rw[Bool.and_eq_true,Bool.and_eq_true]at q
  have q1:((sIx items.size 0 lo:Nat):Int)=0:=eq_of_beq q.1.1
  have q2:sIx items.size items.size hi-sIx items.size 0 lo=items.size:=eq_of_beq q.2
  exact hw ⟨by omega,by omega⟩
 show wpAny _ _ (if(((sIx items.size 0 lo:Nat):Int)==0&&(1:Int)==1&&(sIx items.size items.size hi-sIx items.size 0 lo)==items.size)=true then _ else _) _ _ s
 rw[if_neg hno,pick_gen]
 first
  |exact wpAny_bind (m:=Builtin.Tuple.tupleExact _) (wpAny_newObj_type (wpAny_pure ⟨_,rfl,wpAny_pure h⟩) htake)
  |exact wpAny_bind (m:=Builtin.Tuple.tupleExact _) (wpAny_newObj_type (wpAny_bind (wpAny_pure (wpAny_pure ⟨_,rfl,wpAny_pure h⟩))) htake)
  |exact wpAny_bind (wpAny_bind (m:=Builtin.Tuple.tupleExact _) (wpAny_newObj_type (wpAny_pure (wpAny_pure ⟨_,rfl,wpAny_pure h⟩)) htake))
  |exact wpAny_bind (wpAny_bind (m:=Builtin.Tuple.tupleExact _) (wpAny_newObj_type (wpAny_pure ⟨_,rfl,wpAny_pure h⟩) htake))
end
end HT
namespace L2
open PySem PySem.Spec PyProof.Rows
abbrev TO:=St->Hp->(Option Int->Hp->Prop)->Prop
def PO (X:Cx) (e:Option Expr) (t:TO):Prop:=
 ∀(pins:List (Addr×Obj)) (s:Shared) (σ:St) (H:Hp) (Q:Option Int->Hp->Prop),Inv X pins σ H s->t σ H Q ->
  wpAny (model X.prog X.w) X.A (evalPart e X.env) (fun u s'=>∃o H',Inv X pins σ H' s'/\IsPart u o/\Q o H') X.xe s
def tNoPart:TO:=fun _ H Q=>Q none H
def tPart (t:TE):TO:=fun σ H Q=>t σ H fun x H1=>∃i,x=.int i/\Q (some i) H1
theorem intsAre_of {ns:List Int}:∀{us:List Value},Vals (ns.map V.int) us->IntsAre us ns:=by
 induction ns with
 |nil=>intro us r;rw[List.map_nil]at r;cases r;exact .nil
 |cons n ns ih=>
  intro us r
  rw[List.map_cons]at r
  cases r with
  |cons r1 r2=>
   obtain⟨t,e⟩:=r1
   subst e
   exact .cons n t (ih r2)
section
variable {X:Cx} {e:Expr} {te:TE} {lo hi:Option Expr} {tl th:TO} {pos p2:Pos}
theorem po_none:PO X none tNoPart:=by
 intro pins s σ H Q I h
 rw[evalPart_none]
 exact wpAny_pure ⟨none,H,I,.none,h⟩
theorem po_some (h:PE X e te):PO X (some e) (tPart te):=by
 intro pins s σ H Q I hw
 rw[evalPart_some]
 refine thn (h pins s σ H _ I hw) fun u s1 ⟨x,H1,I1,r1,q1⟩=>?_
 obtain⟨i,rfl,q⟩:=q1
 obtain⟨t,rfl⟩:=r1
 exact⟨some i,H1,I1,.int i t,q⟩
def SlR (X:Cx) (r:V->Option Int->Option Int->Hp->VK->Prop):Prop:=
 ∀(pins:List (Addr×Obj)) (s:Shared) (σ:St) (H:Hp) (x:V) (v vl vu:Value) (lo hi:Option Int) (sl:Addr) (Q:VK),Inv X pins σ H s->RelV x v->s.heap.IsSliceOf sl vl vu .none->IsPart vl lo->IsPart vu hi->r x lo hi H Q ->
  ∃T id,typeLookup (.type T) "__getitem__"=pure (some (.builtin id))/\s.TypeIs v T/\wpAny (model X.prog X.w) X.A (getItem v (.ref sl)) (EP X pins σ Q) X.xe s
def tSl (r:V->Option Int->Option Int->Hp->VK->Prop) (te:TE) (tl th:TO):TE:=fun σ H Q=>te σ H fun x H1=>tl σ H1 fun l H2=>th σ H2 fun u H3=>r x l u H3 Q
theorem pe_slice {r:V->Option Int->Option Int->Hp->VK->Prop} (hr:SlR X r) (he:PE X e te) (hl:PO X lo tl) (hu:PO X hi th):PE X (.Subscript e (.Slice lo hi none p2) pos) (tSl r te tl th):=by
 intro pins s σ H Q I h
 refine Subscript_ (thn (he pins s σ H _ I h) fun v s1 ⟨x,H1,I1,r1,q1⟩=>?_)
 refine wpAny_Slice (thn (hl pins s1 σ H1 _ I1 q1) fun vl s2 ⟨l,H2,I2,pl,q2⟩=>thn (hu pins s2 σ H2 _ I2 q2) fun vu s3 ⟨u,H3,I3,pu,q3⟩=>?_)
 rw[evalPart_none]
 refine wpAny_pure ?_
 have I4:Inv X pins σ H3 {s3 with heap:=s3.heap.push {cls:=.type "slice",data:=.fields #[vl,vu,.none]}}:=I3.kept (t':=s3.toks) fun b ob q=>Heap.get?_push_of_some _ q
 obtain⟨T,id,hT,ht,hg⟩:=hr pins {s3 with heap:=s3.heap.push {cls:=.type "slice",data:=.fields #[vl,vu,.none]}} σ H3 x v vl vu l u s3.heap.objs.size Q I4 r1 (Heap.IsSliceOf.new ..) pl pu q3
 show wpAny (model X.prog X.w) X.A (subscriptTail e (.Slice lo hi none p2) v (.ref s3.heap.objs.size)) (EP X pins σ Q) X.xe {s3 with heap:=s3.heap.push {cls:=.type "slice",data:=.fields #[vl,vu,.none]}}
 exact tail_any (ops:=[.ref s3.heap.objs.size,v]) ht hT hg (by with_unfolding_all rfl)
def cutV (xs:List V) (lo hi:Option Int):List V:=(xs.drop (HT.sIx xs.length 0 lo)).take (HT.sIx xs.length xs.length hi-HT.sIx xs.length 0 lo)
theorem cutV_length (xs:List V) (lo hi:Option Int):(cutV xs lo hi).length<=xs.length:=by
 unfold cutV
 rw[List.length_take,List.length_drop]
 omega
def rSlT (K:PySem.W.Frag):V->Option Int->Option Int->Hp->VK->Prop:=fun x lo hi H Q=>∃a xs,x=.ref a/\SqT K H a xs /\
 ¬ (HT.sIx xs.length 0 lo=0/\HT.sIx xs.length xs.length hi=xs.length)/\∀p,H p=none->Q (.ref p) (upd H p (.tup (cutV xs lo hi)))
theorem sl_tup:SlR X (rSlT X.K):=by
 intro pins s σ H x v vl vu lo hi sl Q I rx hs pl pu h
 obtain⟨a,xs,rfl,hx,hw,q⟩:=h
 cases rx
 obtain⟨its,r,ht,hz⟩:=I.tuple hx
 have hlen:its.toArray.size=xs.length:=by rw[List.size_toArray];exact r.length.symm
 refine⟨"tuple",_,PyProof.Rows.slot_tuple_getitem.lookup,ht.typeIs,?_⟩
 refine HT.getItem_tuple_cut ht hs pl pu (by rw[hlen];exact hw) ?_ (by rw[hlen];exact hz)
 rw[hlen]
 refine⟨.ref s.heap.objs.size,_,I.laid (t':=s.toks) (o:=.tup (cutV xs lo hi)) (fun b ob q=>Heap.get?_push_of_some _ q) (Nat.le_refl _) ?_,rfl,q _ (I.hok.fresh (Nat.le_refl _))⟩
 exact⟨Nat.le_trans (cutV_length xs lo hi) hz,_,(r.drop (HT.sIx xs.length 0 lo)).take (HT.sIx xs.length xs.length hi-HT.sIx xs.length 0 lo),IsTup.new _ _⟩
def rCatT (K:PySem.W.Frag):R2:=fun x y H Q=>∃a b xs ys,x=.ref a/\y=.ref b/\SqT K H a xs/\SqT K H b ys/\xs≠[]/\xs.length+ys.length<=sizeLine /\
 (ys=[]->Q (.ref a) H)/\(ys≠[]->∀p,H p=none->Q (.ref p) (upd H p (.tup (xs++ys))))
theorem Vals.nil_iff {xs:List V} {us:List Value} (r:Vals xs us):us=[]↔xs=[]:=by
 cases r with
 |nil=>simp
 |cons _ _=>simp
theorem op_catT:OpR X (binaryOp .Add) (rCatT X.K):=by
 intro pins s σ H x y v u Q I rx ry h
 obtain⟨a,b,xs,ys,rfl,rfl,ha,hb,hx,hz,q1,q2⟩:=h
 cases rx
 cases ry
 obtain⟨its,r1,p1,_⟩:=I.tuple ha
 obtain⟨its2,r2,p2,_⟩:=I.tuple hb
 refine HT.cat_tup p1 p2 (fun z=>hx (r1.nil_iff.mp z)) (fun z=>⟨.ref a,H,I,rfl,q1 (r2.nil_iff.mp z)⟩) (fun z=>?_) (by rw[<-r1.length,<-r2.length];exact hz)
 refine⟨.ref s.heap.objs.size,_,I.laid (t':=s.toks) (o:=.tup (xs++ys)) (fun b ob q=>Heap.get?_push_of_some _ q) (Nat.le_refl _) ?_,rfl,q2 (fun w=>z (r2.nil_iff.mpr w)) _ (I.hok.fresh (Nat.le_refl _))⟩
 exact⟨by rw[List.length_append];exact hz,_,r1.append r2,IsTup.new _ _⟩
end
end L2
namespace L2
open PySem PySem.Spec PyProof.Rows
def ixN (n:Nat) (i:Int):Option Nat:=if 0<=i then(if i<n then some i.toNat else none)else if -(n:Int)<=i then some (i+n).toNat else none
def atI {α:Type} (xs:List α) (i:Int):Option α:=(ixN xs.length i).bind fun j=>xs[j]?
theorem ixN_seq {n:Nat} {i:Int} {j:Nat} (h:ixN n i=some j):seqIndex? i n=some j/\j<n/\-(n:Int)<=i/\i<n:=by
 unfold ixN at h
 by_cases h0:0<=i
 ·rw[if_pos h0]at h
  by_cases h1:i<n
  ·rw[if_pos h1]at h
   have e:i.toNat=j:=Option.some.inj h
   exact⟨by rw[seqIndex_of h0 h1,e],by omega,by omega,h1⟩
  ·rw[if_neg h1]at h;cases h
 ·rw[if_neg h0]at h
  by_cases h1:-(n:Int)<=i
  ·rw[if_pos h1]at h
   have e:(i+n).toNat=j:=Option.some.inj h
   exact⟨by rw[seqIndex_neg (by omega) h1,e],by omega,h1,by omega⟩
  ·rw[if_neg h1]at h;cases h
theorem atI_get {α:Type} {xs:List α} {i:Int} {v:α} (h:atI xs i=some v):∃j,seqIndex? i xs.length=some j/\xs[j]?=some v/\j<xs.length/\-(xs.length:Int)<=i/\i<xs.length:=by
 unfold atI at h
 cases e:ixN xs.length i with
 |none=>rw[e]at h;cases h
 |some j=>
  rw[e]at h
  obtain⟨h1,h2,h3,h4⟩:=ixN_seq e
  exact⟨j,h1,h,h2,h3,h4⟩
theorem atI_nat {α:Type} {xs:List α} {j:Nat} {v:α} (h:xs[j]?=some v):atI xs (j:Int)=some v:=by
 have hj:j<xs.length:=(List.getElem?_eq_some_iff.mp h).1
 have e:ixN xs.length (j:Int)=some j:=by
  unfold ixN
  rw[if_pos (by omega),if_pos (by omega)];simp
 unfold atI;rw[e];exact h
theorem atI_last {α:Type} (xs:List α) (v:α):atI (xs++[v]) (-1)=some v:=by
 have hl:(xs++[v]).length=xs.length+1:=by simp
 have e:ixN (xs++[v]).length (-1)=some xs.length:=by
  unfold ixN
  rw[hl,if_neg (by decide),if_pos (by omega)]
  congr 1
  omega
 unfold atI
 rw[e]
 show(xs++[v])[xs.length]?=some v
 simp
def PlainIx (b:Expr):Prop:=∀o i,subscripted b false o i=operate [o,i] (getItem o i)
def IxR (X:Cx) (r:R2):Prop:=
 ∀(value slice:Expr) (pins:List (Addr×Obj)) (s:Shared) (σ:St) (H:Hp) (x y:V) (v u:Value) (Q:VK),Inv X pins σ H s->RelV x v->RelV y u->r x y H Q ->
  subscripted slice false v u=operate [v,u] (getItem v u)->wpAny (model X.prog X.w) X.A (subscriptTail value slice v u) (EP X pins σ Q) X.xe s
def MtR (X:Cx) (id:String) (r:V->List V->Hp->VK->Prop):Prop:=
 ∀(pins:List (Addr×Obj)) (s:Shared) (σ:St) (H:Hp) (x:V) (xs:List V) (v:Value) (us:List Value) (Q:VK),Inv X pins σ H s->RelV x v->Vals xs us->r x xs H Q ->
  wpAny (model X.prog X.w) X.A (call (.builtin id) (v::us)) (EP X pins σ Q) X.xe s
section
variable {X:Cx} {a b:Expr} {ta tb:TE} {pos:Pos}
theorem pe_ix {r:R2} (hr:IxR X r) (ha:PE X a ta) (hb:PE X b tb) (hs:PlainIx b):PE X (.Subscript a b pos) (tOp r ta tb):=by
 intro pins s σ H Q I h
 exact Subscript_ (binT ha hb I h fun v u s2 x y H2 I2 rx ry q=>hr a b pins s2 σ H2 x y v u Q I2 rx ry q (hs _ _))
def rIxL (K:PySem.W.Frag):R2:=fun x y H Q=>∃p xs i v,x=.ref p/\y=.int i/\SqL K H p xs/\atI xs i=some v/\Q v H
def rIxT (K:PySem.W.Frag):R2:=fun x y H Q=>∃p xs i v,x=.ref p/\y=.int i/\SqT K H p xs/\atI xs i=some v/\Q v H
def rIxS:R2:=fun x y H Q=>∃z i c,x=.str z/\y=.int i/\z.length<=sizeLine/\atI z.cps.toList i=some c/\Q (.str ⟨#[c]⟩) H
theorem ix_list:IxR X (rIxL X.K):=by
 intro value slice pins s σ H x y v u Q I rx ry h hs
 obtain⟨p,xs,i,z,rfl,rfl,hq,he,q⟩:=h
 cases rx
 obtain⟨t,rfl⟩:=ry
 obtain⟨its,r,pl,hz⟩:=I.list hq
 obtain⟨j,h1,h2,h3,h4,h5⟩:=atI_get he
 obtain⟨w,ew,rw'⟩:=r.get h2
 have hl:=r.length
 have hn:=line63
 have fin:EP X pins σ Q w s:=⟨z,H,I,rw',q⟩
 by_cases h0:0<=i
 ·have hj:i.toNat=j:=by
   rw[seqIndex_of h0 h5]at h1
   exact Option.some.inj h1
  exact item_listR pl.isList h0 (by omega) (by rw[hj];simpa using ew) fin hs
 ·have hj:(i+(its.toArray.size:Int)).toNat=j:=by
   rw[seqIndex_neg (by omega) h4]at h1
   rw[List.size_toArray,<-hl]
   exact Option.some.inj h1
  exact subscriptTail_builtinR (x:=w) pl.isList.typeIs slot_list_getitem.lookup
   (wpAny_getItem_list_neg (Q:=fun r s'=>r=w/\EP X pins σ Q r s') pl.isList (by omega) (by rw[List.size_toArray]<;>omega) (by omega) (by rw[hj];simpa using ew) ⟨rfl,fin⟩) hs
theorem ix_tup:IxR X (rIxT X.K):=by
 intro value slice pins s σ H x y v u Q I rx ry h hs
 obtain⟨p,xs,i,z,rfl,rfl,hq,he,q⟩:=h
 cases rx
 obtain⟨t,rfl⟩:=ry
 obtain⟨its,r,pl,hz⟩:=I.tuple hq
 obtain⟨j,h1,h2,h3,h4,h5⟩:=atI_get he
 obtain⟨w,ew,rw'⟩:=r.get h2
 have hl:=r.length
 have hn:=line63
 have fin:EP X pins σ Q w s:=⟨z,H,I,rw',q⟩
 exact subscriptTail_builtinR (x:=w) pl.typeIs slot_tuple_getitem.lookup
  (getItem_tuple (j:=j) (Q:=fun r s'=>r=w/\EP X pins σ Q r s') pl (by omega) (by omega) (by rw[List.size_toArray,<-hl];exact h1) (by simpa using ew) ⟨rfl,fin⟩) hs
theorem ix_str:IxR X rIxS:=by
 intro value slice pins s σ H x y v u Q I rx ry h hs
 obtain⟨z,i,c,rfl,rfl,hz,he,q⟩:=h
 obtain⟨t,rfl⟩:=rx
 obtain⟨t',rfl⟩:=ry
 obtain⟨j,h1,h2,h3,h4,h5⟩:=atI_get he
 have hl:z.cps.toList.length=z.length:=by simp[Str.length]
 rw[hl]at h1 h4 h5
 have hn:=line63
 exact tail_any (typeIs_str s z t) slot_str_getitem.lookup (getItem_str (c:=c) (by
  have e1:decide (i < -(2 ^ 63:Int))=false:=decide_eq_false (by omega)
  have e2:decide (i>=2 ^ 63)=false:=decide_eq_false (by omega)
  rw[e1,e2,Bool.or_false]) (by rw[h1];simpa using h2) ⟨.str ⟨#[c]⟩,H,I.tok _,⟨_,rfl⟩,q⟩) hs
theorem slice_bounds (lo hi:Option Int) (n:Nat):(sliceBounds lo hi none n).1=((HT.sIx n 0 lo:Nat):Int)/\(sliceBounds lo hi none n).2.1=((HT.sIx n n hi:Nat):Int)/\(sliceBounds lo hi none n).2.2=1:=by
 refine⟨?_,?_,rfl⟩
 ·cases lo with
  |none=>simp[sliceBounds,HT.sIx]
  |some i=>
   simp only[sliceBounds,HT.sIx,Option.getD_none,show(1:Int) > 0 by decide,if_true]
   by_cases h:i<0
   ·simp only[h,if_true]<;>omega
   ·simp only[h,if_false]<;>omega
 ·cases hi with
  |none=>simp[sliceBounds,HT.sIx]
  |some i=>
   simp only[sliceBounds,HT.sIx,Option.getD_none,show(1:Int) > 0 by decide,if_true]
   by_cases h:i<0
   ·simp only[h,if_true]<;>omega
   ·simp only[h,if_false]<;>omega
theorem slicePick_cut (its:List Value) (lo hi:Option Int):slicePick its.toArray lo hi none=((its.drop (HT.sIx its.length 0 lo)).take (HT.sIx its.length its.length hi-HT.sIx its.length 0 lo)).toArray:=by
 obtain⟨h1,h2,h3⟩:=slice_bounds lo hi its.toArray.size
 unfold slicePick
 rw[h1,h2,h3]
 simp only[sliceRange_one,pick_run,List.size_toArray]<;>rfl
def rSlL (K:PySem.W.Frag):V->Option Int->Option Int->Hp->VK->Prop:=fun x lo hi H Q=>∃a xs,x=.ref a/\SqL K H a xs/\∀p,H p=none->Q (.ref p) (upd H p (.lst (cutV xs lo hi)))
theorem sl_list:SlR X (rSlL X.K):=by
 intro pins s σ H x v vl vu lo hi sl Q I rx hs pl pu h
 obtain⟨a,xs,rfl,hx,q⟩:=h
 cases rx
 obtain⟨its,r,ht,hz⟩:=I.list hx
 have hlen:=r.length
 refine⟨"list",_,slot_list_getitem.lookup,ht.isList.typeIs,?_⟩
 refine wpAny_getItem_list_slice ht.isList hs pl pu .none (by simp) ?_ (by rw[List.size_toArray]<;>omega)
 rw[slicePick_cut,<-hlen]
 refine⟨.ref s.heap.objs.size,_,I.laid (t':=s.toks) (o:=.lst (cutV xs lo hi)) (fun b ob q=>Heap.get?_push_of_some _ q) (Nat.le_refl _) ?_,rfl,q _ (I.hok.fresh (Nat.le_refl _))⟩
 exact⟨Nat.le_trans (cutV_length xs lo hi) hz,_,0,(r.drop (HT.sIx xs.length 0 lo)).take (HT.sIx xs.length xs.length hi-HT.sIx xs.length 0 lo),Heap.get?_push_size _ rfl⟩
def flatV:V->Bool
 |.non=>true
 |.bl _=>true
 |.int _=>true
 |.str _=>true
 |_=>false
def eqV:V->V->Bool
 |.non,.non=>true
 |.bl a,.bl b=>a==b
 |.bl a,.int b=>(if a then 1 else 0)==b
 |.int a,.bl b=>a==(if b then 1 else 0)
 |.int a,.int b=>a==b
 |.str a,.str b=>a==b
 |_,_=>false
theorem eqAt_V {A:Around} {s:Shared} {y x:V} {u v:Value} (ry:RelV y u) (rx:RelV x v) (fy:flatV y=true) (fx:flatV x=true):SeqAt.EqAt A s u v (eqV y x):=by
 cases y with
 |non=>
  cases ry
  cases x with
  |non=>cases rx;exact SeqAt.EqAt.same _
  |bl b=>cases rx;exact SeqAt.EqAt.none_bool b
  |int b=>obtain⟨t,rfl⟩:=rx;exact SeqAt.EqAt.none_int b t
  |str b=>obtain⟨t,rfl⟩:=rx;exact SeqAt.EqAt.none_str b t
  |_=>exact absurd (show false=true from fx) Bool.false_ne_true
 |bl a=>
  cases ry
  cases x with
  |non=>cases rx;exact SeqAt.EqAt.bool_none a
  |bl b=>cases rx;exact SeqAt.EqAt.bool_bool a b
  |int b=>obtain⟨t,rfl⟩:=rx;exact SeqAt.EqAt.bool_int a b t
  |str b=>obtain⟨t,rfl⟩:=rx;exact SeqAt.EqAt.bool_str a b t
  |_=>exact absurd (show false=true from fx) Bool.false_ne_true
 |int a=>
  obtain⟨t',rfl⟩:=ry
  cases x with
  |non=>cases rx;exact SeqAt.EqAt.int_none a t'
  |bl b=>cases rx;exact SeqAt.EqAt.int_bool a t' b
  |int b=>obtain⟨t,rfl⟩:=rx;exact SeqAt.EqAt.int_int a t' b t
  |str b=>obtain⟨t,rfl⟩:=rx;exact SeqAt.EqAt.int_str a t' b t
  |_=>exact absurd (show false=true from fx) Bool.false_ne_true
 |str a=>
  obtain⟨t',rfl⟩:=ry
  cases x with
  |non=>cases rx;exact SeqAt.EqAt.str_none a t'
  |bl b=>cases rx;exact SeqAt.EqAt.str_bool a t' b
  |int b=>obtain⟨t,rfl⟩:=rx;exact SeqAt.EqAt.str_int a t' b t
  |str b=>obtain⟨t,rfl⟩:=rx;exact SeqAt.EqAt.str_str a t' b t
  |_=>exact absurd (show false=true from fx) Bool.false_ne_true
 |_=>exact absurd (show false=true from fy) Bool.false_ne_true
def eqU (x:V) (u:Value):Bool:=match u with
 |.none=>eqV .non x
 |.bool b=>eqV (.bl b) x
 |.int i _=>eqV (.int i) x
 |.str z _=>eqV (.str z) x
 |_=>false
theorem eqU_of {x y:V} {u:Value} (r:RelV y u) (f:flatV y=true):eqU x u=eqV y x:=by
 cases y with
 |non=>cases r;rfl
 |bl b=>cases r;rfl
 |int i=>obtain⟨t,rfl⟩:=r;rfl
 |str z=>obtain⟨t,rfl⟩:=r;rfl
 |_=>exact absurd (show false=true from f) Bool.false_ne_true
theorem any_eqU {x:V}:∀{xs:List V} {us:List Value},Vals xs us->xs.all flatV=true->us.any (eqU x)=xs.any fun y=>eqV y x
 |_,_,.nil,_=>rfl
 |y::xs,u::us,.cons r t,f=>by
  rw[List.all_cons,Bool.and_eq_true]at f
  rw[List.any_cons,List.any_cons,eqU_of r f.1,any_eqU t f.2]
theorem mem_eqAt {A:Around} {s:Shared} {x:V} {v:Value} (rx:RelV x v) (fx:flatV x=true):∀{xs:List V} {us:List Value},Vals xs us->xs.all flatV=true->∀u∈us,SeqAt.EqAt A s u v (eqU x u)
 |_,_,.nil,_=>fun u hu=>by cases hu
 |y::xs,u::us,.cons r t,f=>fun u' hu=>by
  rw[List.all_cons,Bool.and_eq_true]at f
  rcases List.mem_cons.mp hu with rfl|hu
  ·rw[eqU_of r f.1];exact eqAt_V r rx f.1 fx
  ·exact mem_eqAt rx fx t f.2 u' hu
def inV (x:V) (xs:List V):Bool:=xs.any fun y=>eqV y x
def rIn (K:PySem.W.Frag) (neg:Bool):R2:=fun x y H Q=>∃p xs,y=.ref p/\(SqL K H p xs\/SqT K H p xs)/\flatV x=true/\xs.all flatV=true/\Q (.bl (if neg then !inV x xs else inV x xs)) H
theorem op_in_seq:OpR X (compareOp .In) (rIn X.K false):=by
 intro pins s σ H x y v u Q I rx ry h
 obtain⟨p,xs,rfl,hq,fx,fs,q⟩:=h
 cases ry
 rcases hq with hq|hq
 ·obtain⟨its,r,pl,hz⟩:=I.list hq
  refine SeqAt.in_listAt (eqU x) pl.isList (fun w hw=>mem_eqAt rx fx r fs w (by simpa using hw)) ⟨.bl _,H,I,rfl,?_⟩
  rw[show its.toArray.any (eqU x)=its.any (eqU x) by simp,any_eqU r fs]
  exact q
 ·obtain⟨its,r,pl,hz⟩:=I.tuple hq
  refine SeqAt.in_tupleAt (eqU x) pl (fun w hw=>mem_eqAt rx fx r fs w (by simpa using hw)) ⟨.bl _,H,I,rfl,?_⟩
  rw[show its.toArray.any (eqU x)=its.any (eqU x) by simp,any_eqU r fs]
  exact q
theorem call_len_seq:CallR X (.builtin "len") (fun xs H Q=>∃p ys,xs=[.ref p]/\(SqL X.K H p ys\/SqT X.K H p ys)/\Q (.int ys.length) H):=by
 intro pins s σ H xs us Q I r h
 obtain⟨p,ys,rfl,hq,q⟩:=h
 obtain⟨u,rfl,rx⟩:=vals1 r
 cases rx
 have hn:=line63
 rcases hq with hq|hq
 ·obtain⟨its,r',pl,hz⟩:=I.list hq
  have hlen:=r'.length
  exact Calls.call_len_list pl.isList (by simp only[List.size_toArray]<;>omega) ⟨.int ys.length,H,I.tok _,⟨s.toks+1,by rw[List.size_toArray,hlen]⟩,q⟩
 ·obtain⟨its,r',pl,hz⟩:=I.tuple hq
  have hlen:=r'.length
  exact len_tuple pl (by simp only[List.size_toArray]<;>omega) ⟨.int ys.length,H,I.tok _,⟨s.toks+1,by rw[List.size_toArray,hlen]⟩,q⟩
theorem call_len_str:CallR X (.builtin "len") (fun xs H Q=>∃z,xs=[.str z]/\z.length<=sizeLine/\Q (.int z.length) H):=by
 intro pins s σ H xs us Q I r h
 obtain⟨z,rfl,hz,q⟩:=h
 obtain⟨u,rfl,t,rfl⟩:=vals1 r
 have hn:=line63
 exact len_str (by omega) ⟨.int z.length,H,I.tok _,⟨_,rfl⟩,q⟩
theorem call_list_of:CallR X (.type "list") (fun xs H Q=>∃p ys,xs=[.ref p]/\(SqL X.K H p ys\/SqT X.K H p ys)/\∀l,H l=none->Q (.ref l) (upd H l (.lst ys))):=by
 intro pins s σ H xs us Q I r h
 obtain⟨p,ys,rfl,hq,q⟩:=h
 obtain⟨u,rfl,rx⟩:=vals1 r
 cases rx
 have fin:∀(its:List Value),Vals ys its->ys.length<=sizeLine->∀(h':Heap) (c':Nat),(∀b o',s.heap.get? b=some o'->h'.get? b=some o') ->
   h'.get? s.heap.objs.size=some {cls:=.type "list",dict:=none,data:=.seq its.toArray c',slots:=#[]}->EP X pins σ Q (.ref s.heap.objs.size) {s with heap:=h'}:=fun its r' hz h' c' kp e=>
  ⟨.ref s.heap.objs.size,_,I.laid (t':=s.toks) kp (Nat.le_refl _) (show ObjOk X.prog X.w _ h' _ (.lst ys)from⟨hz,its,c',r',e⟩),rfl,q _ (I.hok.fresh (Nat.le_refl _))⟩
 rcases hq with hq|hq
 ·obtain⟨its,r',pl,hz⟩:=I.list hq
  have hlen:=r'.length
  obtain⟨o,ho,hc,n,hd⟩:=pl.isList
  exact call_list_seq p (.inl rfl) ho hc hd (fun h' c' kp e=>fin its r' hz h' c' kp e) (by simp only[List.size_toArray]<;>omega)
 ·obtain⟨its,r',pl,hz⟩:=I.tuple hq
  have hlen:=r'.length
  obtain⟨o,ho,hc,n,hd⟩:=pl
  exact call_list_seq p (.inr rfl) ho hc hd (fun h' c' kp e=>fin its r' hz h' c' kp e) (by simp only[List.size_toArray]<;>omega)
def tyV (K:PySem.W.Frag) (T:String) (x:V) (H:Hp):Prop:=match x with
 |.str _=>T="str"
 |.int _=>T="int"
 |.ref p=>(T="list"/\∃xs,SqL K H p xs)\/(T="tuple"/\∃o,K.lookup p=some o/\o.cls=.type "tuple"/\o.dict=none) \/
   (T="dict"/\((∃kvs,H p=some (.dK kvs))\/∃kvs,H p=some (.dT kvs)))\/(T="set"/\∃S n,H p=some (.set S n))
 |_=>False
theorem tyV_is {pins:List (Addr×Obj)} {σ:St} {H:Hp} {s:Shared} {T:String} {x:V} {v:Value} (I:Inv X pins σ H s) (r:RelV x v) (ty:tyV X.K T x H) :
  s.TypeIs v T/\∀a,v=.ref a->∃ob,s.heap.get? a=some ob/\ob.dict=none:=by
 cases x with
 |str z=>
  obtain⟨t,rfl⟩:=r
  cases (show T="str" from ty)
  exact⟨typeIs_str s z t,fun _ e=>nomatch e⟩
 |int i=>
  obtain⟨t,rfl⟩:=r
  cases (show T="int" from ty)
  exact⟨typeIs_int s i t,fun _ e=>nomatch e⟩
 |ref p=>
  cases r
  rcases ty with⟨rfl,xs,hq⟩|⟨rfl,o,hk,hc,hd⟩|⟨rfl,hk⟩|⟨rfl,S,n,hk⟩
  ·obtain⟨its,_,pl,_⟩:=I.list hq
   refine⟨pl.isList.typeIs,fun a e=>?_⟩
   cases e
   obtain⟨o,n,e,c,hd,_⟩:=pl
   exact⟨o,e,hd⟩
  ·refine⟨⟨o,I.kIn p o hk,hc⟩,fun a e=>?_⟩
   cases e
   exact⟨o,I.kIn _ o hk,hd⟩
  ·have z:∃o,s.heap.get? p=some o/\o.ExactDict:=by
    rcases hk with⟨kvs,hk⟩|⟨kvs,hk⟩
    ·obtain⟨_,_,_,_,o,_,_,e,ex,_⟩:=I.hok p _ hk
     exact⟨o,e,ex⟩
    ·obtain⟨_,_,_,_,o,_,_,e,ex,_⟩:=I.hok p _ hk
     exact⟨o,e,ex⟩
   obtain⟨o,e,ex⟩:=z
   refine⟨⟨o,e,ex.1⟩,fun a e2=>?_⟩
   cases e2
   exact⟨o,e,ex.2.1⟩
  ·obtain⟨o,_,_,_,e,ex,_⟩:=I.hok p _ hk
   refine⟨⟨o,e,ex.1⟩,fun a e2=>?_⟩
   cases e2
   exact⟨o,e,ex.2.1⟩
 |_=>exact False.elim ty
def tBM0 (K:PySem.W.Frag) (T:String) (r:V->List V->Hp->VK->Prop) (to:TE):TE:=fun σ H Q=>to σ H fun x H1=>tyV K T x H1/\r x [] H1 Q
def tBM (K:PySem.W.Frag) (T:String) (r:V->List V->Hp->VK->Prop) (to:TE) (t:TA):TE:=fun σ H Q=>to σ H fun x H1=>tyV K T x H1/\t σ H1 fun xs H2=>r x xs H2 Q
variable {o e:Expr} {es:List Expr} {to:TE} {t:TA} {name:Str} {apos cpos:Pos} {T id:String} {r:V->List V->Hp->VK->Prop}
theorem pe_bm0 (pa:PlainAttrs T) (slot:Slot T name id) (hty:typeOf (.builtin id)=pure (.type "method_descriptor")) (hm:MtR X id r) (ho:PE X o to)
  (hbase:attributeBase o name X.env (eval o X.env)=eval o X.env:=by rfl) (hline:(apos.endLine==cpos.line)=true:=by rfl):PE X (.Call (.Attribute o name apos) [] [] cpos) (tBM0 X.K T r to):=by
 intro pins s σ H Q I h
 refine wpAny_Call_method0_late hbase hline (thn (ho pins s σ H _ I h) fun v s1 ⟨x,H1,I1,r1,ty,q1⟩=>?_)
 obtain⟨h1,h2⟩:=tyV_is I1 r1 ty
 exact⟨T,id,pa,slot,hty,h1,h2,Calls.callWith_builtin rfl (PySem.evalArgs_none (hm pins s1 σ H1 x [] v [] Q I1 r1 .nil q1))⟩
theorem pe_bm (pa:PlainAttrs T) (slot:Slot T name id) (hty:typeOf (.builtin id)=pure (.type "method_descriptor")) (hm:MtR X id r) (ho:PE X o to) (ha:PA X (e::es) t)
  (hbase:attributeBase o name X.env (eval o X.env)=eval o X.env:=by rfl)
  (hfew:((backTo cpos (starEach (e::es) X.env)).all (fun x=>!x.1)&&(backToKw cpos (keywordEach [] X.env)).all (fun x=>x.1.isSome)
   && decide ((e::es).length+([]:List Keyword).length+(if([]:List Keyword).isEmpty then 0 else 1)<30))=true:=by rfl)
  (hline:(apos.endLine==cpos.line)=true:=by rfl) (hs:starEach (e::es) X.env=(false,eval e X.env)::starEach es X.env:=by rfl) (hplain:(backTo cpos (starEach es X.env)).any (·.1)=false:=by rfl) :
  PE X (.Call (.Attribute o name apos) (e::es) [] cpos) (tBM X.K T r to t):=by
 intro pins s σ H Q I h
 refine wpAny_Call_method_late hbase hfew hline rfl (thn (ho pins s σ H _ I h) fun v s1 ⟨x,H1,I1,r1,ty,q1⟩=>?_)
 obtain⟨h1,h2⟩:=tyV_is I1 r1 ty
 refine⟨T,id,pa,slot,hty,h1,h2,?_⟩
 have hA:=ha cpos pins s1 σ H1 _ I1 q1
 rw[hs]at hA ⊢
 refine Calls.callWith_builtin (by show(false || (backTo cpos (starEach es X.env)).any (·.1))=false;rw[hplain]<;>rfl) (Calls.evalArgs_plain ?_)
 exact thn hA fun us s2 ⟨vs,H2,I2,r2,q2⟩=>hm pins s2 σ H2 x vs v us Q I2 r1 r2 q2
end
end L2
namespace L2
open PySem PySem.Spec PyProof.Rows
def MtM (X:Cx) (id:String) (r:V->List V->Hp->VK->Prop):Prop:=
 ∀(pins:List (Addr×Obj)) (s:Shared) (σ:St) (H:Hp) (x:V) (xs:List V) (v:Value) (us:List Value) (Q:VK),Inv X pins σ H s->RelV x v->Vals xs us->r x xs H Q ->
  wpAny (model X.prog X.w) X.A (call (.builtin id) (v::us)) (EP X pins σ Q) X.xe s
theorem Vals.one:∀{x:V} {us:List Value},Vals [x] us->∃u,us=[u]/\RelV x u
 |_,_,.cons r .nil=>⟨_,rfl,r⟩
theorem Vals.zero:∀{us:List Value},Vals [] us->us=[]
 |_,.nil=>rfl
theorem Vals.dropLast {xs:List V} {us:List Value} (h:Vals xs us):Vals xs.dropLast us.dropLast:=by
 induction h with
 |nil=>exact .nil
 |cons r t ih=>
  cases t with
  |nil=>exact .nil
  |cons q t'=>exact .cons r ih
theorem erase_last {α:Type} (l:List α):l.eraseIdx (l.length-1)=l.dropLast:=by
 induction l with
 |nil=>rfl
 |cons a r ih=>
  cases r with
  |nil=>rfl
  |cons b r=>
   have e:(a::b::r).length-1=((b::r).length-1)+1:=by
    have h1:(a::b::r).length=r.length+2:=rfl
    have h2:(b::r).length=r.length+1:=rfl
    omega
   rw[e,List.eraseIdx_cons_succ,ih]
   all_goals rfl
section
variable {X:Cx} {pins:List (Addr×Obj)} {σ:St} {H:Hp} {s:Shared} {l b:Addr} {xs ys zs:List V}
theorem Inv.lset {its its':List Value} {n:Nat} {f:Array Value->Array Value} {t':Nat} (I:Inv X pins σ H s) (hH:H l=some (.lst xs))
  (e:s.heap.get? l=some {cls:=.type "list",data:=.seq its.toArray n}) (hf:f its.toArray=its'.toArray) (hv:Vals ys its') (hz:ys.length<=sizeLine) :
  Inv X pins σ (upd H l (.lst ys)) {s with heap:=s.heap.update l (Obj.mapSeq f),toks:=t'}:=by
 have q:=PySem.IsL.update e f
 rw[hf]at q
 refine I.write (x:=l) (e:=l) (by rw[hH];exact trivial) (.inl rfl) (fun b' u hb hu=>(Heap.get?_update_other s.heap (Obj.mapSeq f) (Ne.symm hb)).trans hu) ⟨_,q⟩ ?_
 exact⟨hz,its',_,hv,q⟩
theorem Inv.lnew {its:List Value} {t':Nat} (I:Inv X pins σ H s) (hv:Vals ys its) (hz:ys.length<=sizeLine) :
  Inv X pins σ (upd H s.heap.objs.size (.lst ys)) {s with heap:=s.heap.push {cls:=.type "list",data:=.seq its.toArray},toks:=t'}:=
 I.laid (fun _ _ q=>Heap.get?_push_of_some _ q) (Nat.le_refl _) ⟨hz,its,0,hv,Heap.get?_push_size _ rfl⟩
theorem Inv.fresh (I:Inv X pins σ H s):H s.heap.objs.size=none:=I.hok.fresh (Nat.le_refl _)
theorem Inv.lstM (I:Inv X pins σ H s) (hH:H l=some (.lst xs)):xs.length<=sizeLine/\∃(its:List Value) (n:Nat),Vals xs its/\xs.length=its.length/\s.heap.get? l=some {cls:=.type "list",data:=.seq its.toArray n}:=by
 obtain⟨z,its,n,r,e⟩:=I.hok l _ hH
 exact⟨z,its,n,r,r.length,e⟩
theorem notLongL {n:Nat} (h:n<=sizeLine):Builtin.List.listTooLong n=false:=by
 unfold Builtin.List.listTooLong
 exact decide_eq_false (by omega)
end
section
variable {X:Cx}
def rAppend:V->List V->Hp->VK->Prop:=fun x vs H Q=>∃l xs y,x=.ref l/\vs=[y]/\H l=some (.lst xs)/\xs.length<sizeLine/\Q .non (upd H l (.lst (xs++[y])))
theorem mt_append:MtM X "list.append" rAppend:=by
 intro pins s σ H x vs v us Q I rx rv h
 obtain⟨l,xs,y,rfl,rfl,hH,hz,q⟩:=h
 cases rx
 obtain⟨u,rfl,ru⟩:=rv.one
 obtain⟨z,its,n,r,hl,e⟩:=I.lstM hH
 refine call_meets F.slot_list_append ⟨_,e,rfl⟩ F.entry_list_append (F.args_list_append_2 _ _) (PySem.list_append l its.toArray n u (by rw[List.size_toArray];omega)) ⟨e,?_⟩
 refine⟨.non,_,I.lset (its':=its++[u]) hH e (by simp) (r.append (.cons ru .nil)) ?_,rfl,q⟩
 rw[List.length_append,List.length_singleton]
 omega
def rExtend:V->List V->Hp->VK->Prop:=fun x vs H Q=>∃l b xs zs,x=.ref l/\vs=[.ref b]/\H l=some (.lst xs)/\H b=some (.lst zs)/\xs.length+zs.length<=sizeLine/\Q .non (upd H l (.lst (xs++zs)))
theorem mt_extend:MtM X "list.extend" rExtend:=by
 intro pins s σ H x vs v us Q I rx rv h
 obtain⟨l,b,xs,zs,rfl,rfl,hH,hB,hz,q⟩:=h
 cases rx
 obtain⟨u,rfl,ru⟩:=rv.one
 cases ru
 obtain⟨z,its,n,r,hl,e⟩:=I.lstM hH
 obtain⟨z2,its2,n2,r2,hl2,e2⟩:=I.lstM hB
 have hsz:its.toArray.size+its2.toArray.size<=sizeLine:=by rw[List.size_toArray,List.size_toArray];omega
 have hlong:¬ (!its.toArray.isEmpty&&Builtin.List.listTooLong (its.toArray.size+its2.toArray.size))=true:=by
  rw[notLongL hsz,Bool.and_false]
  exact Bool.false_ne_true
 refine call_meets F.slot_list_extend ⟨_,e,rfl⟩ F.entry_list_extend (F.args_list_extend_2 _ _)
  (AutoSeq1.list_extend_list_list_0 l its.toArray n b its2.toArray n2 hlong (by rw[List.size_toArray];omega) (by omega)) ⟨e,e2,?_⟩
 refine⟨.non,_,I.lset (its':=its++its2) hH e (by simp) (r.append r2) ?_,rfl,q⟩
 rw[List.length_append]
 omega
def rPop:V->List V->Hp->VK->Prop:=fun x vs H Q=>∃l xs y,x=.ref l/\vs=[]/\H l=some (.lst xs)/\xs[xs.length-1]?=some y/\Q y (upd H l (.lst xs.dropLast))
theorem mt_pop:MtM X "list.pop" rPop:=by
 intro pins s σ H x vs v us Q I rx rv h
 obtain⟨l,xs,y,rfl,rfl,hH,hy,q⟩:=h
 cases rx
 have hus:=rv.zero
 subst hus
 obtain⟨z,its,n,r,hl,e⟩:=I.lstM hH
 obtain⟨u,hu,ru⟩:=r.get hy
 have hy':its.toArray[its.toArray.size-1]?=some u:=by
  show its.toArray[its.length-1]?=some u
  rw[<-Array.getElem?_toList,<-hl]
  exact hu
 refine call_meets F.slot_list_pop ⟨_,e,rfl⟩ F.entry_list_pop (F.args_list_pop_1 _) (MeetsSeq.list_pop_last l its.toArray n u hy' (by rw[List.size_toArray];omega)) ⟨e,?_⟩
 refine⟨y,_,I.lset (its':=its.dropLast) hH e ?_ r.dropLast ?_,ru,q⟩
 ·show its.toArray.eraseIdxIfInBounds (its.toArray.size-1)=its.dropLast.toArray
  rw[List.size_toArray,List.eraseIdxIfInBounds_toArray,erase_last]
 ·rw[List.length_dropLast]
  omega
def rCat:R2:=fun x y H Q=>∃l b xs zs,x=.ref l/\y=.ref b/\H l=some (.lst xs)/\H b=some (.lst zs)/\xs.length+zs.length<=sizeLine/\∀p,H p=none->Q (.ref p) (upd H p (.lst (xs++zs)))
theorem op_cat:OpR X (binaryOp .Add) rCat:=by
 intro pins s σ H x y v u Q I rx ry h
 obtain⟨l,b,xs,zs,rfl,rfl,hH,hB,hz,q⟩:=h
 cases rx
 cases ry
 obtain⟨z,its,n,r,hl,e⟩:=I.lstM hH
 obtain⟨z2,its2,n2,r2,hl2,e2⟩:=I.lstM hB
 refine PySem.P.add_list e e2 ?_ (by rw[List.size_toArray,List.size_toArray];omega)
 have ea:its.toArray++its2.toArray=(its++its2).toArray:=by simp
 rw[ea]
 exact⟨.ref _,_,I.lnew (t':=s.toks) (r.append r2) (by rw[List.length_append];omega),rfl,q _ I.fresh⟩
end
end L2
namespace L2
open PySem PySem.Spec PyProof.Rows
theorem Vals.ints:∀{ns:List Int} {us:List Value},Vals (ns.map V.int) us->IntsAre us ns
 |[],us,h=>by
  rw[List.map_nil]at h
  cases h
  exact IntsAre.nil
 |n::ns,us,h=>by
  rw[List.map_cons]at h
  cases h with
  |cons r t=>
   obtain⟨k,rfl⟩:=r
   exact IntsAre.cons n k (Vals.ints t)
theorem Vals.ref1 {a:Addr} {us:List Value} (r:Vals [V.ref a] us):us=[Value.ref a]:=by
 cases r with
 |cons r t=>
  cases t
  cases r
  rfl
section
variable {prog:Program} {w:World} {A:Around} {E:Value->Shared->Prop} {s:Shared} {l:Addr} {its:List Value} {ns:List Int} {Q:Value->Shared->Prop}
theorem max_raw (hh:A.handled=none) (hl:s.heap.IsList l its.toArray) (hi:IntsAre its ns) (hne:0<ns.length)
  (h:∀h' tk M t',(∀b o,s.heap.get? b=some o->h'.get? b=some o)->M∈ns->(∀a,a∈ns->a<=M)->Q (.int M t') {s with heap:=h',toks:=tk}):wpAny (model prog w) A (call (.builtin "max") [.ref l]) Q E s:=by
 obtain⟨xs,e⟩:=hi.allInts.items
 have hn:numsOf (intItems xs).toList=ns:=by rw[<-e];exact hi.numsOf
 rw[nums_intItems]at hn
 subst hn
 rw[e]at hl
 have hsz:0<xs.size:=by simpa using hne
 refine PySem.max_intList hh hl hsz fun v h' tk hv hk=>?_
 obtain⟨t,rfl⟩:=intItems_at hv
 obtain⟨h1,h2⟩:=argBest_gt (numAt xs) (xs.size-1)
 refine h h' tk _ t hk ?_ fun a ha=>?_
 ·rw[numAt_eq];exact PySem.getD_mem (by rw[List.length_map,Array.length_toList];omega)
 ·obtain⟨j,hj,rfl⟩:=mem_getD ha
  rw[List.length_map,Array.length_toList]at hj
  rw[<-numAt_eq];exact h2 j (by omega)
end
section
variable {X:Cx}
def rMax (K:PySem.W.Frag):List V->Hp->VK->Prop:=fun vs H Q=>∃(a:Addr) (ns:List Int),vs=[V.ref a]/\SqL K H a (ns.map V.int)/\0<ns.length/\∀m,m∈ns->(∀y,y∈ns->y<=m)->Q (.int m) H
theorem cr_max (hc:X.calm=true):CallR X (.builtin "max") (rMax X.K):=by
 intro pins s σ H vs us Q I r h
 obtain⟨a,ns,rfl,hs,hne,q⟩:=h
 obtain⟨its,rv,hl,_⟩:=I.list hs
 rw[Vals.ref1 r]
 exact max_raw (I.ok.hd hc) hl.isList rv.ints hne fun h' tk m t' hk h1 h2=>⟨.int _,H,I.kept hk,⟨_,rfl⟩,q m h1 h2⟩
end
end L2
namespace L2
open PySem PySem.Spec PyProof.Rows
abbrev CellAt (h:Heap) (c:Addr) (v:Option Value):Prop:=h.IsCell c v
def relS (scope sc:Scope):Scope:=
 {scope with names:=scope.names.map fun(n,k)=>if(k==.free&&sc.kind==.function&&sc.names.lookup n==some .cell)then(n,.cell)else(n,k)}
def cloFrom (cells:List (Str×Addr)):List (Str×NameKind)->List (Str×Addr)->List (Str×Addr)
 |[],acc=>acc
 |(n,k)::r,acc=>if k==.free then cloFrom cells r ((n,(cells.lookup n).getD 0)::acc)else cloFrom cells r acc
theorem closure_loop (env:Env) (f:Str×NameKind->List (Str×Addr)->Sem (ForInStep (List (Str×Addr))))
  (hf:∀n k c,f (n,k) c=if k==.free then(do let a<-cellOf env n;pure (.yield ((n,a)::c)))else pure (.yield c)) :
  ∀(names:List (Str×NameKind)) (acc:List (Str×Addr)),(∀y∈names,y.2=.free->∃c,env.cells.lookup y.1=some c)->forIn names acc f=pure (cloFrom env.cells names acc)
 |[],acc,_=>by rw[List.forIn_nil];rfl
 |(n,k)::r,acc,h=>by
  rw[List.forIn_cons,hf]
  have ih:=fun acc=>closure_loop env f hf r acc fun y hy=>h y (List.mem_cons_of_mem _ hy)
  unfold cloFrom
  by_cases hk:(k==NameKind.free)=true
  ·rw[if_pos hk,if_pos hk]
   obtain⟨c,hc⟩:=h (n,k) List.mem_cons_self (by simpa using hk)
   have e:cellOf env n=pure c:=by unfold cellOf;rw[hc]
   rw[e]
   have e2:(env.cells.lookup n).getD 0=c:=by rw[hc];rfl
   rw[e2]
   exact ih _
  ·rw[if_neg hk,if_neg hk]
   exact ih _
theorem closure_ok {scope:Scope} {env:Env} (h:∀y∈scope.names,y.2=.free->∃c,env.cells.lookup y.1=some c):closureFor scope env=pure (cloFrom env.cells scope.names []):=by
 simp only[closureFor]
 rw[closure_loop env _ (fun n k c=>rfl) scope.names [] h]
 rfl
theorem mem_lookup {α:Type}:∀{l:List (Str×α)} {n:Str} {c:α},(n,c)∈l->∃c',l.lookup n=some c'
 |(k,v)::r,n,c,h=>by
  rw[List.lookup_cons]
  cases hb:n==k with
  |true=>exact⟨_,rfl⟩
  |false=>
   rcases List.mem_cons.mp h with e|h
   ·cases e;simp at hb
   ·exact mem_lookup h
theorem cloFrom_mem {cells:List (Str×Addr)}:∀{names:List (Str×NameKind)} {acc:List (Str×Addr)} {n:Str} {c:Addr},(n,c)∈cloFrom cells names acc->(n,c)∈acc\/((n,.free)∈names/\c=(cells.lookup n).getD 0)
 |[],_,_,_,h=>.inl h
 |(m,k)::r,acc,n,c,h=>by
  unfold cloFrom at h
  split at h
  ·rename_i hk
   have hk:k=.free:=by simpa using hk
   rcases cloFrom_mem h with h|⟨h1,h2⟩
   ·rcases List.mem_cons.mp h with e|h
    ·cases e;exact .inr ⟨hk▸List.mem_cons_self,rfl⟩
    ·exact .inl h
   ·exact .inr ⟨List.mem_cons_of_mem _ h1,h2⟩
  ·rcases cloFrom_mem h with h|⟨h1,h2⟩
   ·exact .inl h
   ·exact .inr ⟨List.mem_cons_of_mem _ h1,h2⟩
theorem cloFrom_acc {cells:List (Str×Addr)}:∀{names:List (Str×NameKind)} {acc:List (Str×Addr)} {p:Str×Addr},p∈acc->p∈cloFrom cells names acc
 |[],_,_,h=>h
 |(m,k)::r,acc,p,h=>by
  unfold cloFrom
  split
  ·exact cloFrom_acc (List.mem_cons_of_mem _ h)
  ·exact cloFrom_acc h
theorem cloFrom_has {cells:List (Str×Addr)}:∀{names:List (Str×NameKind)} {acc:List (Str×Addr)} {n:Str},(n,.free)∈names->(n,(cells.lookup n).getD 0)∈cloFrom cells names acc
 |(m,k)::r,acc,n,h=>by
  unfold cloFrom
  rcases List.mem_cons.mp h with e|h
  ·cases e
   exact cloFrom_acc List.mem_cons_self
  ·split
   ·exact cloFrom_has h
   ·exact cloFrom_has h
theorem cells_mem:∀{names:List (Str×NameKind)} {h:Heap} {acc:List (Str×Addr)} {x:Str} {c:Addr},(x,c)∈cellsFrom h.objs.size names acc ->
  (x,c)∈acc\/((x,.cell)∈names/\h.objs.size<=c/\CellAt (pushCells h names) c none)
 |[],_,_,_,_,h=>.inl h
 |(n,k)::r,h,acc,x,c,hm=>by
  unfold cellsFrom at hm
  unfold pushCells
  split at hm
  ·rename_i hk
   rw[if_pos hk]
   have hk:k=.cell:=by simpa using hk
   rw[<-Heap.size_push h {cls:=.type "cell",data:=.cell none}]at hm
   rcases cells_mem hm with hm|⟨h1,h2,h3⟩
   ·rcases List.mem_cons.mp hm with e|hm
    ·cases e
     exact .inr ⟨hk▸List.mem_cons_self,Nat.le_refl _,_,pushCells_keeps r _ _ _ (Heap.get?_push_size _ rfl),rfl⟩
    ·exact .inl hm
   ·rw[Heap.size_push]at h2
    exact .inr ⟨List.mem_cons_of_mem _ h1,Nat.le_of_succ_le h2,h3⟩
  ·rename_i hk
   rw[if_neg hk]
   rcases cells_mem hm with hm|⟨h1,h2,h3⟩
   ·exact .inl hm
   ·exact .inr ⟨List.mem_cons_of_mem _ h1,h2,h3⟩
theorem cells_acc:∀{names:List (Str×NameKind)} {n:Nat} {acc:List (Str×Addr)} {p:Str×Addr},p∈acc->p∈cellsFrom n names acc
 |[],_,_,_,h=>h
 |(m,k)::r,n,acc,p,h=>by
  unfold cellsFrom
  split
  ·exact cells_acc (List.mem_cons_of_mem _ h)
  ·exact cells_acc h
theorem cells_has:∀{names:List (Str×NameKind)} {n:Nat} {acc:List (Str×Addr)} {x:Str},(x,.cell)∈names->∃c,(x,c)∈cellsFrom n names acc
 |(m,k)::r,n,acc,x,h=>by
  unfold cellsFrom
  rcases List.mem_cons.mp h with e|h
  ·cases e
   exact⟨n,cells_acc List.mem_cons_self⟩
  ·split
   ·exact cells_has h
   ·exact cells_has h
theorem cells_inj:∀{names:List (Str×NameKind)} {h:Heap} {acc:List (Str×Addr)} {x y:Str} {c:Addr},(∀p∈acc,p.2<h.objs.size)->(∀x y c,(x,c)∈acc->(y,c)∈acc->x=y) ->
  (x,c)∈cellsFrom h.objs.size names acc->(y,c)∈cellsFrom h.objs.size names acc->x=y
 |[],_,_,_,_,_,_,hi,h1,h2=>hi _ _ _ h1 h2
 |(n,k)::r,h,acc,x,y,c,hl,hi,h1,h2=>by
  unfold cellsFrom at h1 h2
  split at h1
  ·rename_i hk
   rw[if_pos hk]at h2
   rw[<-Heap.size_push h {cls:=.type "cell",data:=.cell none}]at h1 h2
   refine cells_inj (h:=h.push _) (fun p hp=>?_) (fun x y c a b=>?_) h1 h2
   ·rw[Heap.size_push]
    rcases List.mem_cons.mp hp with rfl|hp
    ·exact Nat.lt_succ_self _
    ·exact Nat.lt_succ_of_lt (hl p hp)
   ·rcases List.mem_cons.mp a with e|a<;>rcases List.mem_cons.mp b with e'|b
    ·cases e;cases e';rfl
    ·cases e;exact absurd (hl _ b) (Nat.lt_irrefl _)
    ·cases e';exact absurd (hl _ a) (Nat.lt_irrefl _)
    ·exact hi _ _ _ a b
  ·rename_i hk
   rw[if_neg hk]at h2
   exact cells_inj hl hi h1 h2
theorem newEnv_comp {M:Model} {A:Around} {E:Value->Shared->Prop} {s:Shared} {scope:Scope} {globals:Addr} {closure:List (Str×Addr)} {qual:Str} {func:Option Addr} {code:Value} {around:Env} {builtins:Addr} {Q:Env->Shared->Prop}
  (h:Q (newEnv scope s.heap.objs.size globals (cellsFrom (s.heap.objs.size+1) scope.names closure) qual func code (some around) builtins)
   {s with heap:=pushCells (s.heap.push {cls:=.type "dict",data:=.dict #[]}) scope.names}) :
  wpAny M A (newFunctionEnv scope globals closure [] qual func code (some around) builtins) Q E s:=by
 simp only[newFunctionEnv,Option.isSome_some,if_true]
 refine wpAny_bind (wpAny_alloc ?_)
 refine wpAny_bind (wpAny_layCells _ (fun n k c=>rfl) scope.names closure _ _ ?_)
 rw[show({s with heap:=s.heap.push {cls:=.type "dict",data:=.dict #[]}}:Shared).heap.objs.size=s.heap.objs.size+1 from Heap.size_push ..]
 rw[List.forIn_nil]
 exact wpAny_bind (wpAny_pure (wpAny_pure h))
theorem lookup_relS {sc:Scope}:∀{names:List (Str×NameKind)} {x:Str} {k:NameKind},
  (names.map fun(n,k)=>if(k==NameKind.free&&sc.kind==.function&&sc.names.lookup n==some .cell)then(n,NameKind.cell)else(n,k)).lookup x=some k ->
  ∃k',names.lookup x=some k'/\(k=k'\/(k'=.free/\k=.cell))
 |[],_,_,h=>by simp at h
 |(n,k₀)::r,x,k,h=>by
  have ih:=@lookup_relS sc r x k
  have h':List.lookup x ((if(k₀==NameKind.free&&sc.kind==.function&&sc.names.lookup n==some .cell)=true then(n,NameKind.cell)else(n,k₀))::(r.map _))=some k:=h
  cases hx:x==n with
  |true=>
   simp only[List.lookup_cons,hx]
   by_cases hc:(k₀==NameKind.free&&sc.kind==.function&&sc.names.lookup n==some .cell)=true
   ·rw[if_pos hc]at h'
    simp only[List.lookup_cons,hx]at h'
    cases h'
    simp only[Bool.and_eq_true,beq_iff_eq]at hc
    exact⟨k₀,rfl,.inr ⟨hc.1.1,rfl⟩⟩
   ·rw[if_neg hc]at h'
    simp only[List.lookup_cons,hx]at h'
    cases h'
    exact⟨_,rfl,.inl rfl⟩
  |false=>
   simp only[List.lookup_cons,hx]
   by_cases hc:(k₀==NameKind.free&&sc.kind==.function&&sc.names.lookup n==some .cell)=true
   ·rw[if_pos hc]at h'
    simp only[List.lookup_cons,hx]at h'
    exact ih h'
   ·rw[if_neg hc]at h'
    simp only[List.lookup_cons,hx]at h'
    exact ih h'
structure BlkOk (N:List Str) (sc scope:Scope) (own:List (Str×Nat)):Prop where
 kind:scope.kind=.function
 uniq:∀y∈scope.names,scope.names.lookup y.1=some y.2
 ix:∀p∈own,N[p.2]?=some p.1
 free:∀y∈scope.names,y.2=.free->sc.names.lookup y.1=some .cell\/sc.names.lookup y.1=some .free
 own:∀y∈scope.names,y.2=.local\/y.2=.cell->y.1∈own.map (·.1)\/y.1 ∉ N
def wipe (σ:St):List Nat->St
 |[]=>σ
 |v::vs=>(wipe σ vs).set v none
theorem wipe_length (σ:St):∀vs:List Nat,(wipe σ vs).length=σ.length
 |[]=>rfl
 |v::vs=>by unfold wipe;rw[List.length_set,wipe_length σ vs]
theorem wipe_some {σ:St} {i:Nat} {x:V}:∀{vs:List Nat},(wipe σ vs)[i]?=some (some x)->σ[i]?=some (some x)/\i ∉ vs
 |[],h=>⟨h,by simp⟩
 |v::vs,h=>by
  unfold wipe at h
  by_cases hi:v=i
  ·subst hi
   by_cases hv:v<(wipe σ vs).length
   ·rw[List.getElem?_set_self hv]at h;cases h
   ·rw[List.getElem?_eq_none (by simpa using hv)]at h;cases h
  ·rw[List.getElem?_set_ne hi]at h
   obtain⟨h1,h2⟩:=wipe_some h
   exact⟨h1,by simp only[List.mem_cons,not_or];exact⟨fun e=>hi e.symm,h2⟩⟩
abbrev Cx.blk (X:Cx) (s:Shared) (H:Hp) (scope:Scope) (cenv:Env) (fp:List Addr):Cx:={X with s_0:=s,H_0:=H,env:=cenv,outer:=X.stack,ex:=fp,fn:=fun x=>scope.names.lookup x==some .cell,pn:=[],xe:=fun _ _=>False}
section
variable {X:Cx} {pins:List (Addr×Obj)} {σ:St} {H:Hp} {s:Shared}
theorem block_start {scope:Scope} {own:List (Str×Nat)} {fp:List Addr} (I:Inv X pins σ H s) (ok:BlkOk X.N X.env.scope scope own) (hN:X.N.Nodup) (hfp:∀b∈fp,FpOk X pins H b/\b<s.heap.objs.size) :
  Inv (X.blk s H scope (compEnvC scope (cellsFrom (s.heap.objs.size+1) scope.names (cloFrom X.env.cells scope.names [])) s.heap.objs.size X.env) fp) [] (wipe σ (own.map (·.2))) H {s with heap:=pushCells (s.heap.push {cls:=.type "dict",data:=.dict #[]}) scope.names}:=by
 have hfree:∀y∈scope.names,y.2=.free->∃c,X.env.cells.lookup y.1=some c:=fun y hy e=>by
  rcases ok.free y hy e with k|k
  ·exact I.ok.has _ (.inl k)
  ·exact I.ok.has _ (.inr k)
 generalize hcenv:compEnvC scope (cellsFrom (s.heap.objs.size+1) scope.names (cloFrom X.env.cells scope.names [])) s.heap.objs.size X.env=cenv
 have kp:∀b o,s.heap.get? b=some o->(pushCells (s.heap.push {cls:=.type "dict",data:=.dict #[]}) scope.names).get? b=some o:=fun b o e=>pushCells_keeps _ _ _ _ (Heap.get?_push_of_some _ e)
 have hL:cenv.locals=s.heap.objs.size:=by rw[<-hcenv];rfl
 have hcl:cenv.cells=cellsFrom (s.heap.objs.size+1) scope.names (cloFrom X.env.cells scope.names []):=by rw[<-hcenv];rfl
 have hsc:cenv.scope=relS scope X.env.scope:=by rw[<-hcenv];rfl
 rw[<-Heap.size_push s.heap {cls:=.type "dict",data:=.dict #[]}]at hcl
 have cm:∀{y c},(y,c)∈cloFrom X.env.cells scope.names []->X.env.cells.lookup y=some c/\c<s.heap.objs.size:=fun{y c} hm=>by
  rcases cloFrom_mem hm with hm|⟨h1,rfl⟩
  ·cases hm
  ·obtain⟨c,hc⟩:=hfree _ h1 rfl
   rw[hc]
   obtain⟨w,z⟩:=I.cell _ _ hc
   exact⟨rfl,z.lt⟩
 have mem:∀{y c},cenv.cells.lookup y=some c->(X.env.cells.lookup y=some c/\c<s.heap.objs.size)\/(s.heap.objs.size+1<=c/\CellAt (pushCells (s.heap.push {cls:=.type "dict",data:=.dict #[]}) scope.names) c none):=fun{y c} e=>by
  rw[hcl]at e
  rcases cells_mem (PySem.mem_of_lookup e)with hm|⟨_,h2,h3⟩
  ·exact .inl (cm hm)
  ·rw[Heap.size_push]at h2;exact .inr ⟨h2,h3⟩
 have look:∀{y},scope.names.lookup y=some .free->∃c,cenv.cells.lookup y=some c/\X.env.cells.lookup y=some c:=fun{y} hl=>by
  have hy:(y,NameKind.free)∈scope.names:=PySem.mem_of_lookup hl
  obtain⟨c',e'⟩:=mem_lookup (cells_acc (names:=scope.names) (n:=(s.heap.push {cls:=.type "dict",data:=.dict #[]}).objs.size) (cloFrom_has (cells:=X.env.cells) (acc:=[]) hy))
  rw[<-hcl]at e'
  refine⟨c',e',?_⟩
  rw[hcl]at e'
  rcases cells_mem (PySem.mem_of_lookup e')with hm|⟨h1,_,_⟩
  ·exact(cm hm).1
  ·have:=ok.uniq _ h1
   rw[hl]at this;cases this
 have okB:(X.blk s H scope cenv fp).Ok:=by
  refine⟨I.ok.mod,by show cenv.scope.kind=_;rw[hsc];exact ok.kind,by show cenv.globals=_;rw[<-hcenv];exact I.ok.glob,by show cenv.builtins=_;rw[<-hcenv];exact I.ok.blt,by show s.heap.objs.size<=cenv.locals;rw[hL];exact Nat.le_refl _,
   fun y z c e1 e2=>?_,fun y hy=>?_,fun y c z e=>?_,I.ok.hd,I.ok.frames,.inl rfl,fun b hb=>⟨?_,fun y c e z=>?_⟩,I.bs,Nat.le_trans I.ok.bsz I.sz,fun b o e hb=>?_,fun b hb z=>?_,I.stack,I.stkFree⟩
  ·have e1:cenv.cells.lookup y=some c:=e1
   have e2:cenv.cells.lookup z=some c:=e2
   rw[hcl]at e1 e2
   refine cells_inj (fun p hp=>?_) (fun y z c a b=>I.ok.inj y z c (cm a).1 (cm b).1) (PySem.mem_of_lookup e1) (PySem.mem_of_lookup e2)
   rw[Heap.size_push]
   exact Nat.lt_succ_of_lt (cm (y:=p.1) (c:=p.2) hp).2
  ·show ∃c,cenv.cells.lookup y=some c
   have key:∀k,cenv.kindOf y=some k->(k=.cell\/k=.free)->∃c,cenv.cells.lookup y=some c:=fun k hk hk'=>by
    unfold Env.kindOf at hk
    rw[hsc]at hk
    obtain⟨k',e,r⟩:=lookup_relS hk
    have:k'=.cell\/k'=.free:=by
     rcases r with rfl|⟨rfl,_⟩
     ·exact hk'
     ·exact .inr rfl
    rcases this with rfl|rfl
    ·obtain⟨c,hm⟩:=cells_has (n:=(s.heap.push {cls:=.type "dict",data:=.dict #[]}).objs.size) (acc:=cloFrom X.env.cells scope.names []) (PySem.mem_of_lookup e)
     obtain⟨c',e'⟩:=mem_lookup hm
     exact⟨c',by rw[hcl];exact e'⟩
    ·obtain⟨c,h1,_⟩:=look e
     exact⟨c,h1⟩
   rcases hy with hy|hy
   ·exact key _ hy (.inl rfl)
   ·exact key _ hy (.inr rfl)
  ·have z:(scope.names.lookup y==some NameKind.cell)=true:=z
   have z:scope.names.lookup y=some .cell:=by simpa using z
   have e:cenv.cells.lookup y=some c:=e
   rw[hcl]at e
   rcases cells_mem (PySem.mem_of_lookup e)with hm|⟨_,h2,_⟩
   ·rcases cloFrom_mem hm with hm|⟨h1,_⟩
    ·cases hm
    ·have q:=ok.uniq _ h1
     rw[z]at q;cases q
   ·rw[Heap.size_push]at h2
    exact Nat.le_of_succ_le h2
  ·show b≠cenv.locals
   rw[hL];exact Nat.ne_of_lt (hfp b hb).2
  ·have e:cenv.cells.lookup y=some c:=e
   rcases mem e with⟨h1,_⟩|⟨h1,_⟩
   ·exact(hfp b hb).1.2.2.2.2.1 y c h1 z
   ·have h2:s.heap.objs.size+1<=b:=by rw[<-z];exact h1
    exact absurd (Nat.lt_of_lt_of_le (hfp b hb).2 (Nat.le_of_succ_le h2)) (Nat.lt_irrefl _)
  ·rcases(hfp b hb).1.2.2.2.1 with z|z
   ·exact I.ok.noex b o e z
   ·exact absurd (Nat.lt_of_lt_of_le (Heap.lt_size e) (Nat.le_trans I.ok.bsz z)) (Nat.lt_irrefl _)
  ·rcases List.mem_cons.mp (I.stkSub b z)with z|z
   ·exact(hfp b hb).1.2.1 z
   ·exact(hfp b hb).1.2.2.1 z
 refine⟨okB,rfl,I.bare,Un.kept kp,⟨fun _=>none,?_,fun i y av e1 e2 e3=>?_⟩,fun y c e=>?_,?_,fun y c e=>?_,fun p hp=>?_,I.hok.kept kp,by rw[wipe_length];exact I.len⟩
 ·show Heap.Ns _ cenv.locals _
  rw[hL]
  exact Heap.Ns.keeps (Heap.Ns.new ..) fun b o e=>pushCells_keeps _ _ _ _ e
 ·obtain⟨e2,hne⟩:=wipe_some e2
  have hfr:scope.names.lookup y=some .free/\(cenv.kindOf y=some .cell\/cenv.kindOf y=some .free):=by
   have key:∀k,cenv.scope.names.lookup y=some k->k=.local\/k=.cell\/k=.free->scope.names.lookup y=some .free/\(cenv.kindOf y=some .cell\/cenv.kindOf y=some .free):=fun k hk hk'=>by
    have hk0:=hk
    rw[hsc]at hk
    obtain⟨k',e,r⟩:=lookup_relS hk
    have no:¬ (k'=.local\/k'=.cell):=fun hh=>by
     rcases ok.own _ (PySem.mem_of_lookup e) hh with e'|e'
     ·obtain⟨p,hp,hpy⟩:=List.mem_map.mp e'
      have e3:=ok.ix p hp
      have:p.1=y:=hpy
      rw[this]at e3
      exact hne (List.mem_map.mpr ⟨p,hp,nodup_ix hN e3 e1⟩)
     ·exact e' (List.mem_of_getElem? e1)
    rcases r with rfl|⟨rfl,rfl⟩
    ·rcases hk' with rfl|rfl|rfl
     ·exact absurd (.inl rfl) no
     ·exact absurd (.inr rfl) no
     ·exact⟨e,.inr hk0⟩
    ·exact⟨e,.inl hk0⟩
   have e3:Vis cenv.scope y:=e3
   rcases e3 with e3|e3|e3
   ·exact key _ e3 (.inl rfl)
   ·exact key _ e3 (.inr (.inl rfl))
   ·exact key _ e3 (.inr (.inr rfl))
  obtain⟨m,hn,hl⟩:=I.loc
  have hvis:Vis X.env.scope y:=(ok.free _ (PySem.mem_of_lookup hfr.1) rfl).elim (fun k=>.inr (.inl k)) (fun k=>.inr (.inr k))
  obtain⟨w,r,q⟩:=hl i y av e1 e2 hvis
  refine⟨w,r,.inr ⟨hfr.2,?_⟩⟩
  obtain⟨c,h1,h2⟩:=look hfr.1
  rcases q with⟨k,_⟩|⟨_,c',e',z⟩
  ·have k:X.env.scope.names.lookup y=some .local:=k
   rcases ok.free _ (PySem.mem_of_lookup hfr.1) rfl with k'|k'<;>rw[show X.env.scope.names.lookup y=_ from k']at k<;>cases k
  ·rw[h2]at e';cases e'
   exact⟨c,h1,z.keeps kp⟩
 ·have e:cenv.cells.lookup y=some c:=e
  rcases mem e with⟨h1,_⟩|⟨_,z⟩
  ·obtain⟨w,z⟩:=I.cell y c h1
   exact⟨w,z.keeps kp⟩
  ·exact⟨_,z⟩
 ·show H cenv.locals=none
  rw[hL];exact I.hok.fresh (Nat.le_refl _)
 ·have e:cenv.cells.lookup y=some c:=e
  rcases mem e with⟨h1,_⟩|⟨h1,_⟩
  ·exact I.freeC y c h1
  ·exact I.hok.fresh (Nat.le_of_succ_le h1)
 ·exact absurd (show p∈([]:List (Addr×Obj))++[]from hp) (by simp)
theorem app_ok {E:Value->Shared->Prop} {D:Addr} {xs:List V} {y:V} {v:Value} {Q:Value->Shared->Prop} (I:Inv X pins σ H s) (hD:H D=some (.lst xs)) (hz:xs.length<sizeLine) (r:RelV y v)
  (h:∀s',Inv X pins σ (upd H D (.lst (xs++[y]))) s'->Q .none s'):wpAny (model X.prog X.w) X.A (call (.builtin "list.append") [.ref D,v]) Q E s:=by
 obtain⟨hz',its,n,ri,e⟩:=I.hok D _ hD
 have hl:=ri.length
 refine append_at (hsz:=by rw[List.size_toArray];omega) e fun h' sb ho'=>?_
 refine h {s with heap:=h'} (I.write (t':=s.toks) (by rw[hD];trivial) (.inl rfl) (fun b u hb q=>(sb.2 b hb).trans q) ⟨_,ho'⟩ ⟨by rw[List.length_append];exact hz,its++[v],n+1,ri.append (.cons r .nil),?_⟩)
 rw[ho']
 simp
def PTs (X:Cx) (ifs:List Expr) (t:TT):Prop:=
 ∀(pins:List (Addr×Obj)) (s:Shared) (σ:St) (H:Hp) (Q:Bool->Hp->Prop),Inv X pins σ H s->t σ H Q ->
  wpAny (model X.prog X.w) X.A (forIn ifs true fun c r=>if r=true then do let ok<-isTrue c X.env (eval c X.env);pure (ForInStep.yield ok)else pure (ForInStep.yield r)) (TP X pins σ Q) X.xe s
def tYes:TT:=fun _ H Q=>Q true H
theorem pts_nil:PTs X [] tYes:=fun _ _ _ H _ I h=>wpAny_tests_nil ⟨H,I,h⟩
theorem pts_one {c:Expr} {t:TT} (h:PT X c t):PTs X [c] t:=fun pins s σ H Q I hw=>wpAny_tests_one (h pins s σ H Q I hw)
end
theorem thnF {α:Type} {t:Sem α} {Q Q':α->Shared->Prop} {M:Model} {A:Around} {E:Value->Shared->Prop} {s:Shared} (h:wpAny M A t Q (fun _ _=>False) s) (hQ:∀a s,Q a s->Q' a s):wpAny M A t Q' E s:=wpAny_mono h hQ fun _ _ z=>False.elim z
theorem compLoop_any {prog:Program} {w:World} {A:Around} {R:Result->Shared->Prop} {s:Shared} {elt target iter:Expr} {ifs:List Expr} {scope:Scope} {pos:Pos} {it acc:Value} {env:Env} (I:Nat->Shared->Prop)
  (turn:∀n s,I n s->wpAny (model prog w) A (pyNext it) (fun r s₁=>match r with
   |none=>R (.ok .next) s₁
   |some v=>wpAny (model prog w) A (letOwnedTupleGo target it v) (fun _ s₁'=>wpAny (model prog w) A (assign target env v) (fun _ s₂=>
     wpAny (model prog w) A (forIn ifs true fun c r=>if r=true then do let ok<-isTrue c env (eval c env);pure (ForInStep.yield ok)else pure (ForInStep.yield r)) (fun ok s₃=>
      if ok=true then wpAny (model prog w) A (eval elt env) (fun x s₄=>
       wpAny (model prog w) A (call (.builtin "list.append") [acc,x]) (fun _ s₅=>∃m,m<n/\I m s₅) (notedBy (model prog w) A env fun e s'=>R (.error e) s') s₄) (notedBy (model prog w) A env fun e s'=>R (.error e) s') s₃
      else ∃m,m<n/\I m s₃) (notedBy (model prog w) A env fun e s'=>R (.error e) s') s₂) (notedBy (model prog w) A env fun e s'=>R (.error e) s') s₁') (notedBy (model prog w) A env fun e s'=>R (.error e) s') s₁) (notedBy (model prog w) A env fun e s'=>R (.error e) s') s)
  (n:Nat) (h:I n s) :
  codeAny (model prog w) A (.compLoop (.ListComp elt [⟨target,iter,ifs,0⟩] scope pos) 0 it acc env) R s:=by
 refine codeAny_loop rfl I (fun n s hI=>?_) n h
 show wpAny _ A ((compTurn (.ListComp elt [⟨target,iter,ifs,0⟩] scope pos) 0 it acc env).onRaise (fun x=>do noteFrame x env;theTreesLotGoes x)) _ _ s
 refine wpAny_noted ?_
 rw[compTurn_list]
 refine wpAny_bind (wpAny_standAt (wpAny_bind (wpAny_mono (turn n s hI) (fun r s₁ h₁=>?_) fun _ _ h'=>h')))
 cases r with
 |none=>exact wpAny_pure h₁
 |some v=>
  refine wpAny_bind (wpAny_mono h₁ (fun _ s₁' h₁'=>?_) fun _ _ h'=>h')
  refine wpAny_bind (wpAny_mono h₁' (fun _ s₂ h₂=>wpAny_bind (wpAny_mono h₂ (fun ok s₃ h₃=>?_) fun _ _ h'=>h')) fun _ _ h'=>h')
  cases ok with
  |false=>exact wpAny_pure ⟨rfl,h₃⟩
  |true=>
   exact wpAny_bind (wpAny_bind (wpAny_mono h₃ (fun x s₄ h₄=>wpAny_bind (wpAny_mono h₄ (fun _ s₅ h₅=>wpAny_pure (wpAny_pure ⟨rfl,h₅⟩)) fun _ _ h'=>h')) fun _ _ h'=>h'))
section
variable {X:Cx}
def tLc (wi:TI) (g:TG) (tt:TT) (te:TE) (vs:List Nat):TE:=fun σ H Q=>wi σ H fun J H1=>∀D,H1 D=none->∃W:Nat->Nat->Hp->Prop,(∃m,W 0 m (upd H1 D (.lst [])))/\∀i m H,W i m H ->
 (J.stop i H/\Q (.ref D) H)\/(J.go i H/\∃Nx:Hp->Prop,(∀H',Nx H'->∃m',m'<m/\W (i+1) m' H')/\∀x H',J.yld i H x H'->g x (wipe σ vs) H' fun σ2 H2=>wipe σ2 vs=wipe σ vs/\tt σ2 H2 fun b H3=>
  if b=true then te σ2 H3 fun y H4=>∃acc,H4 D=some (.lst acc)/\acc.length<sizeLine/\Nx (upd H4 D (.lst (acc++[y])))else Nx H3)
theorem lc_core {pins:List (Addr×Obj)} {s:Shared} {σ:St} {H:Hp} {Q:VK} {elt tg iter:Expr} {ifs:List Expr} {scope:Scope} {own:List (Str×Nat)} {pos pos':Pos} {wi:TI} {g:TG} {tt:TT} {te:TE} {use:Option (Value->Sem Unit)} {Qf:Value->Shared->Prop}
  (hc:X.calm=true) (hN:X.N.Nodup) (I:Inv X pins σ H s) (hi:PI X tg iter wi) (ok:BlkOk X.N X.env.scope scope own)
  (hg:∀(s:Shared) (H:Hp) (C:Addr) (cl:List (Str×Addr)) (fp:List Addr),PG (X.blk s H scope (compEnvC scope cl C X.env) fp) tg g) (ht:∀(s:Shared) (H:Hp) (C:Addr) (cl:List (Str×Addr)) (fp:List Addr),PTs (X.blk s H scope (compEnvC scope cl C X.env) fp) ifs tt)
  (he:∀(s:Shared) (H:Hp) (C:Addr) (cl:List (Str×Addr)) (fp:List Addr),PE (X.blk s H scope (compEnvC scope cl C X.env) fp) elt te) (hs:∀x,foldedSetIterable iter X.env x=pure x)
  (h:tLc wi g tt te (own.map (·.2)) σ H Q)
  (hRR:∀D C s' m H',Inv X pins σ H' s'->Q (.ref D) H'->s'.heap.Ns C m->FpOk X pins H' C->compPost (model X.prog X.w) X.A X.xe use Qf (.ref D) C (.ok .next) s') :
  wpAny (model X.prog X.w) X.A (comprehension (.ListComp elt [⟨tg,iter,ifs,0⟩] scope pos) scope X.env pos' (newList []) false (eval iter X.env) use) Qf X.xe s:=by
 have hfree:∀y∈scope.names,y.2=.free->∃c,X.env.cells.lookup y.1=some c:=fun y hy e=>by
  rcases ok.free y hy e with k|k
  ·exact I.ok.has _ (.inl k)
  ·exact I.ok.has _ (.inr k)
 refine wpAny_comprehension_free (use:=use) rfl hs (closure_ok hfree) ok.kind (fun y hy e=>by rw[ok.uniq y hy,e])
  (thn (hi pins s σ H _ I h) fun xv s1 hx=>thn hx fun itv s2 h2=>?_)
 obtain⟨it,fp,tn,J,H2,e,I2,T,st2,f2,q⟩:=h2
 subst e
 refine wpAny_newObj_type (newEnv_comp ?_) (by show 0<=sizeLine;decide)
 generalize hD:s2.heap.objs.size=D
 have hDn:H2 D=none:=I2.hok.fresh (Nat.le_of_eq hD)
 obtain⟨W,⟨m0,w0⟩,turn⟩:=q D hDn
 generalize hs3:({s2 with heap:=s2.heap.push {cls:=.type "list",data:=.seq ([]:List Value).toArray}}:Shared)=s3
 have I3:Inv X pins σ (upd H2 D (.lst [])) s3:=by
  rw[<-hs3]
  refine I2.laid (t':=s2.toks) (fun b o e=>Heap.get?_push_of_some _ e) (Nat.le_of_eq hD) ⟨Nat.zero_le _,[],0,.nil,?_⟩
  rw[<-hD]
  exact Heap.get?_push_size _ rfl
 have h3:s3.heap=s2.heap.push {cls:=.type "list",data:=.seq ([]:List Value).toArray}:=by rw[<-hs3]
 have sz:∀b∈fp,b<s2.heap.objs.size:=fun b hb=>by
  obtain⟨o,e,_⟩:=T.obj _ _ st2 b hb
  exact Heap.lt_size e
 have f3:∀b∈fp,FpOk X pins (upd H2 D (.lst [])) b/\b<s3.heap.objs.size:=fun b hb=>by
  have hlt:=sz b hb
  refine⟨⟨?_,(f2 b hb).2⟩,by rw[h3,Heap.size_push];exact Nat.lt_succ_of_lt hlt⟩
  rw[upd_ne (by rw[<-hD];exact Nat.ne_of_lt hlt)]
  exact(f2 b hb).1
 have st3:tn 0 s3.heap:=T.keep _ _ _ st2 fun b _ o e=>by rw[h3];exact Heap.get?_push_of_some _ e
 have I4:=block_start I3 ok hN f3
 have pg:=hg s3 (upd H2 D (.lst [])) s3.heap.objs.size (cellsFrom (s3.heap.objs.size+1) scope.names (cloFrom X.env.cells scope.names [])) fp
 have pt:=ht s3 (upd H2 D (.lst [])) s3.heap.objs.size (cellsFrom (s3.heap.objs.size+1) scope.names (cloFrom X.env.cells scope.names [])) fp
 have pe:=he s3 (upd H2 D (.lst [])) s3.heap.objs.size (cellsFrom (s3.heap.objs.size+1) scope.names (cloFrom X.env.cells scope.names [])) fp
 show codeAny _ _ (.compStart (.ListComp elt [⟨tg,iter,ifs,0⟩] scope pos) 0 (.ref it) (.ref D) (compEnvC scope (cellsFrom (s3.heap.objs.size+1) scope.names (cloFrom X.env.cells scope.names [])) s3.heap.objs.size X.env)) (compPost (model X.prog X.w) X.A X.xe use Qf (.ref D) s3.heap.objs.size) {s3 with heap:=pushCells (s3.heap.push {cls:=.type "dict",data:=.dict #[]}) scope.names}
 have nfp:∀b∈fp,(upd H2 D (.lst [])) b=none:=fun b hb=>(f3 b hb).1.1
 generalize hce:compEnvC scope (cellsFrom (s3.heap.objs.size+1) scope.names (cloFrom X.env.cells scope.names [])) s3.heap.objs.size X.env=ce at I4 pg pt pe ⊢
 have cL:ce.locals=s3.heap.objs.size:=by subst hce;rfl
 generalize hH3:upd H2 D (.lst [])=H3 at I3 I4 pg pt pe w0 nfp f3
 generalize hs4:({s3 with heap:=pushCells (s3.heap.push {cls:=.type "dict",data:=.dict #[]}) scope.names}:Shared)=s4 at I4 ⊢
 have st4:tn 0 s4.heap:=T.keep _ _ _ st3 fun b _ o e=>by rw[<-hs4];exact pushCells_keeps _ _ _ _ (Heap.get?_push_of_some _ e)
 have stat:∀{σ':St} {H':Hp} {s':Shared},Inv (X.blk s3 H3 scope ce fp) [] σ' H' s'->(∀b∈fp,H' b=none)->∀b∈fp,FpOk (X.blk s3 H3 scope ce fp) [] H' b:=fun{σ' H' s'} I' hn b hb=>
  ⟨hn b hb,(I'.ok.exf b hb).1,I'.ok.exfs b hb,.inl hb,fun x c e=>(I'.ok.exf b hb).2 x c e,fun p hp=>absurd (show p∈([]:List (Addr×Obj))++[]from hp) (by simp)⟩
 have loop:codeAny (model X.prog X.w) X.A (.compLoop (.ListComp elt [⟨tg,iter,ifs,0⟩] scope pos) 0 (.ref it) (.ref D) ce) (compPost (model X.prog X.w) X.A X.xe use Qf (.ref D) s3.heap.objs.size) s4:=by
  refine compLoop_any (fun n s'=>∃i H',Inv (X.blk s3 H3 scope ce fp) [] (wipe σ (own.map (·.2))) H' s'/\tn i s'.heap/\(∀b∈fp,H' b=none)/\W i n H') ?_ m0 ⟨0,H3,I4,st4,nfp,w0⟩
  rintro n s5 ⟨i,H5,I5,st5,n5,w5⟩
  rcases turn i n H5 w5 with⟨stop,qq⟩|⟨go,Nx,hNx,step⟩
  ·have td:=T.done (X.blk s3 H3 scope ce fp) rfl rfl rfl hc i [] s5 _ H5 (fun _ _=>False) I5 (stat I5 n5) st5 stop
   refine thnF td fun r s6 ⟨hr,I6⟩=>?_
   subst hr
   have I7:Inv X pins σ H5 s6:=I3.call' (ch:=fp) I6.os I6.base I6.hok I6.bare fun b hb=>⟨(f3 b hb).1.2.2.2.1,(f3 b hb).1.2.1,(f3 b hb).1.2.2.2.2.1,(f3 b hb).1.2.2.2.2.2⟩
   have nC:H5 s3.heap.objs.size=none:=by
    have z:H5 ce.locals=none:=I6.free
    rw[cL]at z
    exact z
   obtain⟨m,hn,_⟩:=I6.loc
   have hn:s6.heap.Ns ce.locals m:=hn
   rw[cL]at hn
   exact hRR D s3.heap.objs.size s6 m H5 I7 qq hn (I3.fpOk (Nat.le_refl _) nC)
  ·have ti:=T.item (X.blk s3 H3 scope ce fp) rfl rfl rfl hc i [] s5 _ H5 (fun _ _=>False) I5 (stat I5 n5) st5 go
   refine thnF ti fun r s6 ⟨u,hr,h6⟩=>?_
   subst hr
   refine thnF h6 fun _ s7 ⟨x,H7,I7,r7,y7,st7,n7⟩=>?_
   have I7':=I7.pinned (stat I7 n7) (T.obj _ _ st7)
   refine thnF (pg _ s7 _ H7 x u _ I7' r7 (step x H7 y7)) fun _ s8 ⟨σ8,H8,I8,hw8,q8⟩=>?_
   refine thnF (pt _ s8 σ8 H8 _ I8 q8) fun b s9 ⟨H9,I9,q9⟩=>?_
   have fin:∀{s':Shared} {H':Hp},Inv (X.blk s3 H3 scope ce fp) ([]++pinsAt fp s7.heap) σ8 H' s'->Nx H'->∃m,m<n/\∃i H',Inv (X.blk s3 H3 scope ce fp) [] (wipe σ (own.map (·.2))) H' s'/\tn i s'.heap/\(∀b∈fp,H' b=none)/\W i m H':=fun{s' H'} I' nx=>by
    obtain⟨m',hm,w'⟩:=hNx H' nx
    have pin':∀b∈fp,∀o,s7.heap.get? b=some o->s'.heap.get? b=some o/\H' b=none:=fun b hb o e=>
     let z:=I'.pin (b,o) (List.mem_append_right _ (List.mem_append_right _ (mem_pinsAt hb e)))
     ⟨z.1,z.2.1⟩
    have hl:(wipe σ (own.map (·.2))).length=σ8.length:=by rw[<-hw8,wipe_length]
    refine⟨m',hm,i+1,H',(I'.unpinned (pins:=[])).weak hl (fun j v e=>?_),T.keep _ _ _ st7 fun b hb o e=>(pin' b hb o e).1,fun b hb=>?_,w'⟩
    ·rw[<-hw8]at e
     exact(wipe_some e).1
    ·obtain⟨o,e,_⟩:=T.obj _ _ st7 b hb
     exact(pin' b hb o e).2
   cases b with
   |false=>
    simp only[Bool.false_eq_true,if_false]at q9 ⊢
    exact fin I9 q9
   |true=>
    simp only[if_true]at q9 ⊢
    refine thnF (pe _ s9 σ8 H9 _ I9 q9) fun z s10 ⟨yv,H10,I10,r10,acc,hD10,hz10,nx⟩=>?_
    exact app_ok (X:=X.blk s3 H3 scope ce fp) I10 hD10 hz10 r10 fun s11 I11=>fin I11 nx
 exact codeAny_compStart_list loop (T.self X.A 0 _ _ _ st4 loop)
theorem pe_lc {elt tg iter:Expr} {ifs:List Expr} {scope:Scope} {own:List (Str×Nat)} {pos:Pos} {wi:TI} {g:TG} {tt:TT} {te:TE} (hc:X.calm=true) (hN:X.N.Nodup) (hi:PI X tg iter wi) (ok:BlkOk X.N X.env.scope scope own)
  (hg:∀(s:Shared) (H:Hp) (C:Addr) (cl:List (Str×Addr)) (fp:List Addr),PG (X.blk s H scope (compEnvC scope cl C X.env) fp) tg g) (ht:∀(s:Shared) (H:Hp) (C:Addr) (cl:List (Str×Addr)) (fp:List Addr),PTs (X.blk s H scope (compEnvC scope cl C X.env) fp) ifs tt)
  (he:∀(s:Shared) (H:Hp) (C:Addr) (cl:List (Str×Addr)) (fp:List Addr),PE (X.blk s H scope (compEnvC scope cl C X.env) fp) elt te) (hs:∀x,foldedSetIterable iter X.env x=pure x:=by intro _;rfl) :
  PE X (.ListComp elt [⟨tg,iter,ifs,0⟩] scope pos) (tLc wi g tt te (own.map (·.2))):=by
 intro pins s σ H Q I h
 rw[eval_ListComp]
 refine lc_core hc hN I hi ok hg ht he hs h fun D C s' m H' I' q hn f=>⟨m,hn,fun h'' sb=>?_⟩
 obtain⟨f0,f1,f2,f3,f4,f5⟩:=f
 exact⟨.ref D,H',I'.turned (t':=s'.toks) (fun b o hb e=>(sb.2 b hb).trans e) f0 f1 f3 f4 f5,rfl,q⟩
theorem ps_setLc {i:Nat} {y:Str} {py:Pos} {elt tg iter:Expr} {ifs:List Expr} {scope:Scope} {own:List (Str×Nat)} {pos spos:Pos} {wi:TI} {g:TG} {tt:TT} {te:TE} (hc:X.calm=true) (hN:X.N.Nodup) (hy:X.N[i]?=some y) (hyl:X.env.scope.names.lookup y=some .local)
  (hsw:swapsWith (.ListComp elt [⟨tg,iter,ifs,0⟩] scope pos) (some (.Name y py)) spos.line X.env=pure true) (hi:PI X tg iter wi) (ok:BlkOk X.N X.env.scope scope own)
  (hg:∀(s:Shared) (H:Hp) (C:Addr) (cl:List (Str×Addr)) (fp:List Addr),PG (X.blk s H scope (compEnvC scope cl C X.env) fp) tg g) (ht:∀(s:Shared) (H:Hp) (C:Addr) (cl:List (Str×Addr)) (fp:List Addr),PTs (X.blk s H scope (compEnvC scope cl C X.env) fp) ifs tt)
  (he:∀(s:Shared) (H:Hp) (C:Addr) (cl:List (Str×Addr)) (fp:List Addr),PE (X.blk s H scope (compEnvC scope cl C X.env) fp) elt te) (hs:∀x,foldedSetIterable iter X.env x=pure x:=by intro _;rfl) :
  PS X (.Assign [.Name y py] (.ListComp elt [⟨tg,iter,ifs,0⟩] scope pos) spos) (tAsg (tLc wi g tt te (own.map (·.2))) (gName i)):=by
 intro pins s σ H D I h
 rw[exec_Assign_Name_used _ _ _ _ hsw]
 refine wpAny_bind (wpAny_standAt (wpAny_bind ?_))
 show wpAny _ X.A (do let _<-comprehension (.ListComp elt [⟨tg,iter,ifs,0⟩] scope pos) scope X.env (firstIterPos [⟨tg,iter,ifs,0⟩] pos) (newList []) false (eval iter X.env) (some (assign (.Name y py) X.env))) _ _ s
 have h:tLc wi g tt te (own.map (·.2)) σ H (fun x H1=>gName i x σ H1 D.nx):=h
 refine wpAny_bind (thn (lc_core (Qf:=fun _ s'=>SP X pins D .next s') hc hN I hi ok hg ht he hs h fun L C s' m H' I' q hn f=>?_) fun _ s' hq=>wpAny_pure (wpAny_pure hq))
 show wpAny _ _ (assign (.Name y py) X.env (.ref L)) _ _ _
 refine wpAny_assign_Name (store_ok2 (v:=V.ref L) I' hN hy (.inl hyl) rfl (fun s2 I2 ⟨a,sb,ha⟩=>?_) (.inr hyl))
 obtain⟨f0,f1,f2,f3,f4,f5⟩:=f
 have haC:C≠a:=by
  rcases ha with z|z
  ·rw[z];exact f1
  ·exact fun e=>f4 y a z e.symm
 refine⟨m,hn.sameBut sb haC,fun h3 sb3=>?_⟩
 exact⟨_,H',I2.turned (t':=s2.toks) (fun b o hb e=>(sb3.2 b hb).trans e) f0 f1 f3 f4 f5,q⟩
theorem sw_true {elt:Expr} {gs:List Comprehension} {scope:Scope} {pos py:Pos} {y:Str} {l:Nat} {env:Env} (hk:env.scope.kind=.function) (hy:env.scope.names.lookup y=some .local) (hl:(py.line==pos.line)=true)
  (ha:(scope.names.any fun(n,k)=>n==y&&(k==.local || k==.cell))=false):swapsWith (.ListComp elt gs scope pos) (some (.Name y py)) l env=pure true:=by
 have ky:env.kindOf y=some .local:=hy
 have hb:env.blockKind=.function:=by unfold Env.blockKind;rw[hk];rfl
 unfold swapsWith
 simp only[hb,ky,ha,Expr.pos,hl]
 rfl
end
theorem lc_list {K:PySem.W.Frag} {a:Addr} {xs:List V} {g:TG} {tt:TT} {te:TE} {vs:List Nat} {σ:St} {H1:Hp} {D:Addr} {Qd:Hp->Prop} (Pv:Nat->Hp->Prop) (h0:Pv 0 (upd H1 D (.lst []))) (hl:∀i H,i<=xs.length->Pv i H->SqL K H a xs)
  (hs:∀i x H,xs[i]?=some x->Pv i H->g x (wipe σ vs) H fun σ2 H2=>wipe σ2 vs=wipe σ vs/\tt σ2 H2 fun b H3=>
   if b=true then te σ2 H3 fun y H4=>∃acc,H4 D=some (.lst acc)/\acc.length<sizeLine/\Pv (i+1) (upd H4 D (.lst (acc++[y])))else Pv (i+1) H3) (hd:∀H,Pv xs.length H->Qd H) :
  ∃W:Nat->Nat->Hp->Prop,(∃m,W 0 m (upd H1 D (.lst [])))/\∀i m H,W i m H ->
   ((Itl K a).stop i H/\Qd H)\/((Itl K a).go i H/\∃Nx:Hp->Prop,(∀H',Nx H'->∃m',m'<m/\W (i+1) m' H')/\∀x H',(Itl K a).yld i H x H'->g x (wipe σ vs) H' fun σ2 H2=>wipe σ2 vs=wipe σ vs/\tt σ2 H2 fun b H3=>
    if b=true then te σ2 H3 fun y H4=>∃acc,H4 D=some (.lst acc)/\acc.length<sizeLine/\Nx (upd H4 D (.lst (acc++[y])))else Nx H3):=by
 refine⟨fun i m H=>m=xs.length-i/\i<=xs.length/\Pv i H,⟨xs.length,by simp,Nat.zero_le _,h0⟩,?_⟩
 rintro i m H ⟨rfl,hi,p⟩
 have q:=hl i H hi p
 by_cases hlt:i<xs.length
 ·refine .inr ⟨⟨xs,xs[i],q,by simp[hlt]⟩,Pv (i+1),fun H' p'=>⟨xs.length-(i+1),by omega,rfl,hlt,p'⟩,fun x H' y=>?_⟩
  obtain⟨e,y⟩:=y
  subst e
  exact hs i x _ (y xs q) p
 ·have e:i=xs.length:=by omega
  subst e
  exact .inl ⟨⟨xs,q,Nat.le_refl _⟩,hd H p⟩
def blkC (N:List Str) (sc scope:Scope) (own:List (Str×Nat)):Bool:=
 (match scope.kind with | .function=>true|_=>false)&&(scope.names.all fun y=>decide (scope.names.lookup y.1=some y.2))&&(own.all fun p=>decide (N[p.2]?=some p.1)) &&
  (scope.names.all fun y=>match y.2 with
   |.free=>(match sc.names.lookup y.1 with|some .cell=>true|some .free=>true|_=>false)
   |.local=>decide (y.1∈own.map (·.1)) || decide (y.1 ∉ N)
   |.cell=>decide (y.1∈own.map (·.1)) || decide (y.1 ∉ N)
   |_=>true)
theorem blkOk_by {N:List Str} {sc scope:Scope} {own:List (Str×Nat)} (h:blkC N sc scope own=true):BlkOk N sc scope own:=by
 unfold blkC at h
 simp only[Bool.and_eq_true,List.all_eq_true,decide_eq_true_eq]at h
 obtain⟨⟨⟨h1,h2⟩,h3⟩,h4⟩:=h
 refine⟨?_,h2,h3,fun y hy e=>?_,fun y hy e=>?_⟩
 ·split at h1
  ·assumption
  ·cases h1
 ·have q:=h4 y hy
  simp only[e]at q
  split at q<;>first|exact .inl (by assumption)|exact .inr (by assumption)|cases q
 ·have q:=h4 y hy
  rcases e with e|e<;>(simp only[e,Bool.or_eq_true,decide_eq_true_eq]at q;exact q)
end L2
namespace L2
open PySem PySem.Spec PyProof.Rows
section
variable {κ:Type} [DecidableEq κ]
def valV (kvs:List (κ×V)) (k:κ):Option V:=(kvs.find? fun kv=>decide (kv.1=k)).map (·.2)
def putK (kvs:List (κ×V)) (k:κ) (v:V):List (κ×V):=
 if(kvs.any fun kv=>decide (kv.1=k))=true then kvs.map (fun kv=>if kv.1=k then(kv.1,v)else kv)else kvs++[(k,v)]
theorem valV_pos {p:κ×V} {r:List (κ×V)} {k:κ} (e:p.1=k):valV (p::r) k=some p.2:=by simp[valV,List.find?_cons,e]
theorem valV_neg {p:κ×V} {r:List (κ×V)} {k:κ} (e:¬ p.1=k):valV (p::r) k=valV r k:=by simp[valV,List.find?_cons,e]
theorem valV_any (k:κ):∀kvs:List (κ×V),(kvs.any fun kv=>decide (kv.1=k))=(valV kvs k).isSome
 |[]=>rfl
 |p::r=>by
  rw[List.any_cons]
  by_cases e:p.1=k
  ·simp only[valV_pos e,decide_eq_true e,Bool.true_or,Option.isSome_some]
  ·rw[valV_neg e,decide_eq_false e,Bool.false_or];exact valV_any k r
theorem length_putK (kvs:List (κ×V)) (k:κ) (v:V):(putK kvs k v).length<=kvs.length+1:=by
 unfold putK
 split
 ·rw[List.length_map];omega
 ·rw[List.length_append,List.length_cons,List.length_nil];omega
theorem RelO.isSome_eq {o:Option V} {u:Option Value} (r:RelO o u):o.isSome=u.isSome:=by
 cases o with
 |none=>cases u with
  |none=>rfl
  |some _=>exact(show False from r).elim
 |some _=>cases u with
  |none=>exact(show False from r).elim
  |some _=>rfl
theorem RelO.getD {o:Option V} {u:Option Value} {d:V} {d':Value} (r:RelO o u) (rd:RelV d d'):RelV (o.getD d) (u.getD d'):=by
 cases o with
 |none=>cases u with
  |none=>exact rd
  |some _=>exact(show False from r).elim
 |some _=>cases u with
  |none=>exact(show False from r).elim
  |some _=>exact r
theorem KV.val {kvs:List (κ×V)} {vs:List (κ×Value)} (r:KV kvs vs) (k:κ):RelO (valV kvs k) (valueAt vs k):=by
 unfold KV at r
 induction r with
 |nil=>exact True.intro
 |@cons p q ps qs h t ih=>
  obtain⟨h1,h2⟩:=h
  by_cases e:p.1=k
  ·have e':q.1=k:=h1.symm.trans e
   have b:valueAt (q::qs) k=some q.2:=by simp[valueAt,List.find?_cons,e']
   rw[valV_pos e,b];exact h2
  ·have e':¬ q.1=k:=fun z=>e (h1.trans z)
   have b:valueAt (q::qs) k=valueAt qs k:=by simp[valueAt,List.find?_cons,e']
   rw[valV_neg e,b];exact ih
theorem KV.any {kvs:List (κ×V)} {vs:List (κ×Value)} (r:KV kvs vs) (k:κ):(kvs.any fun kv=>decide (kv.1=k))=vs.any fun kv=>decide (kv.1=k):=by
 unfold KV at r
 induction r with
 |nil=>rfl
 |cons h t ih=>rw[List.any_cons,List.any_cons,ih,h.1]
theorem KV.repl {kvs:List (κ×V)} {vs:List (κ×Value)} (r:KV kvs vs) (k:κ) {y:V} {u:Value} (ry:RelV y u) :
  KV (kvs.map fun kv=>if kv.1=k then(kv.1,y)else kv) (vs.map fun kv=>if kv.1=k then(kv.1,u)else kv):=by
 unfold KV at r ⊢
 induction r with
 |nil=>exact .nil
 |@cons p q ps qs h t ih=>
  rw[List.map_cons,List.map_cons]
  refine .cons ?_ ih
  obtain⟨h1,h2⟩:=h
  by_cases e:p.1=k
  ·rw[if_pos e,if_pos (h1.symm.trans e)];exact⟨h1,ry⟩
  ·rw[if_neg e,if_neg (fun z=>e (h1.trans z))];exact⟨h1,h2⟩
theorem KV.put {kvs:List (κ×V)} {vs:List (κ×Value)} (r:KV kvs vs) (k:κ) {y:V} {u:Value} (ry:RelV y u):KV (putK kvs k y) (stored vs k u):=by
 unfold putK stored
 rw[r.any k]
 by_cases e:(vs.any fun kv=>decide (kv.1=k))=true
 ·rw[if_pos e,if_pos e];exact r.repl k ry
 ·rw[if_neg e,if_neg e];exact Paired.snoc r ⟨rfl,ry⟩
theorem KV.length {kvs:List (κ×V)} {vs:List (κ×Value)} (r:KV kvs vs):kvs.length=vs.length:=Paired.length r
end
theorem kV_is {P:Program} {w:World} {k:Key} {u:Value} (r:RelV (kV k) u):(mixKind P w).is k u=true:=by
 cases k with
 |inl i=>obtain⟨t,e⟩:=(show ∃t,u=Value.int i t from r);subst e;exact mixKind_int P w i t
 |inr x=>obtain⟨t,e⟩:=(show ∃t,u=Value.str x t from r);subst e;exact mixKind_str P w x t
theorem items_are {P:Program} {w:World}:∀{ks:List Key} {us:List Value},Vals (ks.map kV) us->ItemsAre (mixKind P w) ks us
 |[],_,r=>by rw[List.map_nil]at r;cases r;exact .nil
 |k::ks,_,r=>by
  rw[List.map_cons]at r
  cases r with
  |cons h t=>exact .cons (kV_is h) (items_are t)
abbrev KT (H:Hp):List (List Key×V)->List (List Key×Addr×Value)->Prop:=Paired fun p q=>p.1=q.1/\H q.2.1=some (.tup (p.1.map kV))/\RelV p.2 q.2.2
theorem KT.val {H:Hp} {kvs:List (List Key×V)} {xs:List (List Key×Addr×Value)} (r:KT H kvs xs) (k:List Key):RelO (valV kvs k) ((atKey xs k).map (·.2)):=by
 induction r with
 |nil=>exact True.intro
 |@cons p q ps qs h t ih=>
  obtain⟨h1,_,h2⟩:=h
  by_cases e:p.1=k
  ·have e':q.1=k:=h1.symm.trans e
   have b:atKey (q::qs) k=some q.2:=by simp[atKey,List.find?_cons,e']
   rw[valV_pos e,b];exact h2
  ·have e':¬ q.1=k:=fun z=>e (h1.trans z)
   have b:atKey (q::qs) k=atKey qs k:=by simp[atKey,List.find?_cons,e']
   rw[valV_neg e,b];exact ih
theorem KT.repl {H:Hp} {kvs:List (List Key×V)} {xs:List (List Key×Addr×Value)} (r:KT H kvs xs) (k:List Key) {y:V} {u:Value} (ry:RelV y u) :
  KT H (kvs.map fun kv=>if kv.1=k then(kv.1,y)else kv) (xs.map (putAt k u)):=by
 induction r with
 |nil=>exact .nil
 |@cons p q ps qs h t ih=>
  rw[List.map_cons,List.map_cons]
  refine .cons ?_ ih
  obtain⟨h1,h2,h3⟩:=h
  unfold putAt
  by_cases e:p.1=k
  ·rw[if_pos e,if_pos (h1.symm.trans e)];exact⟨h1,h2,ry⟩
  ·rw[if_neg e,if_neg (fun z=>e (h1.trans z))];exact⟨h1,h2,h3⟩
theorem KT.put {H:Hp} {kvs:List (List Key×V)} {xs:List (List Key×Addr×Value)} (r:KT H kvs xs) (k:List Key) {b:Addr} {y:V} {u:Value} (hb:H b=some (.tup (k.map kV))) (ry:RelV y u) :
  KT H (putK kvs k y) (storedH xs k b u):=by
 have e:(kvs.any fun kv=>decide (kv.1=k))=(atKey xs k).isSome:=by
  rw[valV_any,(r.val k).isSome_eq,Option.isSome_map]
 unfold putK storedH
 rw[e]
 by_cases q:(atKey xs k).isSome=true
 ·rw[if_pos q,if_pos q];exact r.repl k ry
 ·rw[if_neg q,if_neg q];exact Paired.snoc r ⟨rfl,hb,ry⟩
theorem KT.keeps {H H':Hp} {kvs:List (List Key×V)} {xs:List (List Key×Addr×Value)} (r:KT H kvs xs) (ht:∀b ys,H b=some (.tup ys)->H' b=some (.tup ys)):KT H' kvs xs:=
 Paired.mapP r fun _ _ z=>⟨z.1,ht _ _ z.2.1,z.2.2⟩
section
variable {P:Program} {w:World} {H:Hp} {h:Heap} {a:Addr}
theorem rd_of {u:HO} (ok:HOk P w H h) (e:Rd H a u):ObjOk P w H h a u:=e.ok ok
theorem dk_rd {kvs:List (Key×V)} (ok:HOk P w H h) (e:Rd H a (.dK kvs)):kvs.length<=sizeLine/\(a==sysModules)=false/\∃vs,KV kvs vs/\h.DictOf (mixKind P w) a vs:=
 show ObjOk P w H h a (.dK kvs)from rd_of ok e
theorem dk_of {kvs:List (Key×V)} (ok:HOk P w H h) (e:H a=some (.dK kvs)):kvs.length<=sizeLine/\(a==sysModules)=false/\∃vs,KV kvs vs/\h.DictOf (mixKind P w) a vs:=dk_rd ok (.inl e)
theorem key_of {ks:List Key} (ok:HOk P w H h) (e:H a=some (.tup (ks.map kV))):(tupleKind (mixKind P w)).is h ks a:=by
 obtain⟨_,its,r,o,h1,h2,n,h3⟩:=(show ObjOk P w H h a (.tup (ks.map kV))from ok a _ e)
 exact⟨o,its.toArray,n,h1,h2,h3,by simpa using items_are r⟩
theorem dt_rd {kvs:List (List Key×V)} (ok:HOk P w H h) (e:Rd H a (.dT kvs)):kvs.length<=sizeLine/\(a==sysModules)=false /\
  ∃xs,KT H kvs xs/\h.DictOfH (tupleKind (mixKind P w)) a xs:=by
 obtain⟨z,y,xs,r,o,es,ep,h1,h2,h3,h4,h5⟩:=(show ObjOk P w H h a (.dT kvs)from rd_of ok e)
 refine⟨z,y,xs,r,o,es,ep,h1,h2,h3,h4,fun x hx=>?_,h5⟩
 have all:∀{l:List (List Key×V)} {m:List (List Key×Addr×Value)},KT H l m->∀x∈m,(tupleKind (mixKind P w)).is h x.1 x.2.1:=by
  intro l m q
  induction q with
  |nil=>intro x hx;exact nomatch hx
  |@cons p q ps qs hq t ih=>
   intro x hx
   rcases List.mem_cons.mp hx with e|hx
   ·subst e
    exact key_of ok (by rw[<-hq.1];exact hq.2.1)
   ·exact ih x hx
 exact all r x hx
theorem dt_of {kvs:List (List Key×V)} (ok:HOk P w H h) (e:H a=some (.dT kvs)):kvs.length<=sizeLine/\(a==sysModules)=false /\
  ∃xs,KT H kvs xs/\h.DictOfH (tupleKind (mixKind P w)) a xs:=dt_rd ok (.inl e)
end
def DGet (H:Hp) (a:Addr) (y:V) (r:Option V):Prop:=
 (∃kvs k,Rd H a (.dK kvs)/\y=kV k/\r=valV kvs k)\/∃kvs k b,Rd H a (.dT kvs)/\y=.ref b/\H b=some (.tup (k.map kV))/\r=valV kvs k
def DPut (H:Hp) (a:Addr) (y v:V) (H':Hp):Prop:=
 (∃kvs k,H a=some (.dK kvs)/\y=kV k/\kvs.length<sizeLine/\H'=upd H a (.dK (putK kvs k v))) \/
 ∃kvs k b,H a=some (.dT kvs)/\y=.ref b/\H b=some (.tup (k.map kV))/\kvs.length<sizeLine/\H'=upd H a (.dT (putK kvs k v))
theorem DGet.k {H:Hp} {a:Addr} {kvs:List (Key×V)} {k:Key} (e:H a=some (.dK kvs)):DGet H a (kV k) (valV kvs k):=.inl ⟨kvs,k,.inl e,rfl,rfl⟩
theorem DPut.k {H:Hp} {a:Addr} {kvs:List (Key×V)} {k:Key} {v:V} (e:H a=some (.dK kvs)) (hl:kvs.length<sizeLine):DPut H a (kV k) v (upd H a (.dK (putK kvs k v))):=.inl ⟨kvs,k,e,rfl,hl,rfl⟩
theorem DPut.t {H:Hp} {a b:Addr} {kvs:List (List Key×V)} {k:List Key} {v:V} (e:H a=some (.dT kvs)) (eb:H b=some (.tup (k.map kV))) (hl:kvs.length<sizeLine) :
  DPut H a (.ref b) v (upd H a (.dT (putK kvs k v))):=.inr ⟨kvs,k,b,e,rfl,eb,hl,rfl⟩
section
variable {X:Cx} {pins:List (Addr×Obj)} {σ:St} {H:Hp} {s:Shared} {a:Addr} {y v:V} {u r:Value} {o:Option V} {A:Around} {E:Value->Shared->Prop}
theorem Inv.big (I:Inv X pins σ H s):sysModules<s.heap.objs.size:=by
 have h:mainGlobals<s.heap.objs.size:=(I.mod.glob.keeps I.bk).lt
 exact Nat.lt_trans (by decide) h
theorem d_getItem {Q:Value->Shared->Prop} (hu:A.units+1<cLine) (I:Inv X pins σ H s) (g:DGet H a y (some v)) (ry:RelV y u) (h:∀w' s',Inv X pins σ H s'->RelV v w'->Q w' s') :
  wpAny (model X.prog X.w) A (getItem (.ref a) u) Q E s:=by
 rcases g with⟨kvs,k,e,ey,l⟩|⟨kvs,k,b,e,ey,eb,l⟩
 ·subst ey
  obtain⟨z,hd,vs,rel,dd⟩:=dk_rd I.hok e
  obtain⟨w',hw,rw'⟩:=RelO.some_of (v:=v) (o:=valueAt vs k) (by rw[l];exact rel.val k)
  exact wpAny_getItem_of (kV_is ry) dd.mapOf hw (h w' _ (I.tok _) rw')
 ·subst ey
  cases (show u=Value.ref b from ry)
  obtain⟨z,hd,xs,rel,dd⟩:=dt_rd I.hok e
  obtain⟨w',hw,rw'⟩:=RelO.some_of (v:=v) (o:=(atKey xs k).map (·.2)) (by rw[l];exact rel.val k)
  obtain⟨p,hp,hp2⟩:=Option.map_eq_some_iff.mp hw
  refine wpAny_getItem_heap (tupleKind_room_in1 hu) (key_of I.hok eb) dd hp ?_
  rw[hp2]
  exact h w' _ (I.tok _) rw'
theorem d_write {h':Heap} {t':Nat} {ob:HO} (I:Inv X pins σ H s) (mu:Mut (H a)) (hs:Heap.SameBut a s.heap h') (he:∃q,h'.get? a=some q) (new:ObjOk X.prog X.w (upd H a ob) h' a ob) :
  Inv X pins σ (upd H a ob) {s with heap:=h',toks:=t'}:=
 I.write (x:=a) (e:=a) mu (.inl rfl) (fun b q hb z=>(hs.2 b hb).trans z) he new
theorem dk_new {P:Program} {w:World} {H':Hp} {h':Heap} {kvs:List (Key×V)} {vs:List (Key×Value)} (z:kvs.length<=sizeLine) (hd:(a==sysModules)=false) (rel:KV kvs vs) (dd:h'.DictOf (mixKind P w) a vs) :
  ObjOk P w H' h' a (.dK kvs):=⟨z,hd,vs,rel,dd⟩
theorem d_setItem {H':Hp} {Q:Unit->Shared->Prop} (hu:A.units+1<cLine) (I:Inv X pins σ H s) (g:DPut H a y v H') (ry:RelV y u) (rv:RelV v r) (h:∀s',Inv X pins σ H' s'->Q () s') :
  wpAny (model X.prog X.w) A (setItem (.ref a) u r) Q E s:=by
 rcases g with⟨kvs,k,e,ey,l,eH⟩|⟨kvs,k,b,e,ey,eb,l,eH⟩
 ·subst ey eH
  obtain⟨z,hd,vs,rel,dd⟩:=dk_of I.hok e
  have hz:vs.length<=sizeLine:=by rw[<-rel.length];exact z
  have hl:(putK kvs k v).length<=sizeLine:=by have:=length_putK kvs k v;omega
  refine wpAny_setItem_pairs (hsz:=hz) (kV_is ry) dd fun h' dd' hs=>h _ ?_
  have he:∃q,h'.get? a=some q:=let⟨q,_,_,hq,_⟩:=dd';⟨q,hq⟩
  exact d_write I (by rw[e];exact True.intro) hs he (dk_new hl hd (rel.put k rv) dd')
 ·subst ey eH
  cases (show u=Value.ref b from ry)
  obtain⟨z,hd,xs,rel,dd⟩:=dt_of I.hok e
  have hz:xs.length<=sizeLine:=by rw[<-Paired.length rel];exact z
  have hl:(putK kvs k v).length<=sizeLine:=by have:=length_putK kvs k v;omega
  refine wpAny_setItem_heap (hsz:=hz) (tupleKind_room_in1 hu) (key_of I.hok eb) dd fun h' dd' hs=>h _ ?_
  obtain⟨q,es,ep,hq,h2,h3,h4,_,h5⟩:=dd'
  refine d_write I (by rw[e];exact True.intro) hs ⟨q,hq⟩ ⟨hl,hd,_,(rel.put k eb rv).keeps fun c ys ec=>?_,q,es,ep,hq,h2,h3,h4,h5⟩
  rw[upd_ne (ne_of ec e (fun z=>nomatch z))]
  exact ec
end
def NoSl (i:Expr):Prop:=∀ov iv,subscripted i false ov iv=operate [ov,iv] (getItem ov iv)
theorem subD_of {prog:Program} {w:World} {A:Around} {E:Value->Shared->Prop} {s:Shared} {env:Env} {value slice:Expr} {pos:Pos} {T id:String} {Q:Value->Shared->Prop}
  (hl:typeLookup (.type T) "__getitem__"=pure (some (.builtin id))) (hs:NoSl slice)
  (h:wpAny (model prog w) A (eval value env) (fun o s₁=>wpAny (model prog w) A (eval slice env) (fun i s₂=>s₂.TypeIs o T/\wpAny (model prog w) A (getItem o i) Q E s₂) E s₁) E s) :
  wpAny (model prog w) A (eval (.Subscript value slice pos) env) Q E s:=by
 refine Subscript_ (wpAny_mono h (fun o s₁ h₁=>wpAny_mono h₁ (fun i s₂ h₂=>?_) fun _ _ x=>x) fun _ _ x=>x)
 obtain⟨hT,h₂⟩:=h₂
 unfold subscriptTail
 refine wpAny_bind ?_
 rw[getitemInPython_of_ne hT.not_modules]
 refine wpAny_bind (wpAny_specialOf hT hl ?_)
 have fin:wpAny (model prog w) A (subscripted slice false o i) (fun r s₃=>wpAny (model prog w) A (letTemporaryGo value o r >>= fun _=>pure r) Q E s₃) E s₂:=by
  rw[hs o i]
  exact wpAny_operating (wpAny_mono h₂ (fun r s₃ h₃=>wpAny_bind (wpAny_letTemporaryGo (wpAny_pure h₃))) fun _ _ x=>x)
 first
  |exact wpAny_pure (wpAny_bind fin)
  |exact wpAny_bind (wpAny_pure (wpAny_bind fin))
  |exact wpAny_bind fin
theorem dict_typeIs {X:Cx} {pins:List (Addr×Obj)} {σ:St} {H:Hp} {s:Shared} {a:Addr} {y:V} {o:Option V} (I:Inv X pins σ H s) (g:DGet H a y o):s.TypeIs (.ref a) "dict":=by
 rcases g with⟨kvs,k,e,_,_⟩|⟨kvs,k,b,e,_,_,_⟩
 ·obtain⟨_,_,vs,_,dd⟩:=dk_rd I.hok e
  exact dd.typeIs
 ·obtain⟨_,_,xs,_,dd⟩:=dt_rd I.hok e
  exact dd.typeIs
def tDGet (td ty:TE):TE:=fun σ H Q=>td σ H fun x H1=>ty σ H1 fun y H2=>∃a v,x=.ref a/\DGet H2 a y (some v)/\Q v H2
def sDPut (td ty tv:TE):TS:=fun D σ H=>tv σ H fun v H1=>td σ H1 fun x H2=>ty σ H2 fun y H3=>∃a H4,x=.ref a/\DPut H3 a y v H4/\D.nx σ H4
section
variable {X:Cx} {o i e value:Expr} {pos pos' tpos:Pos} {td ty tv:TE}
theorem pe_dget (hu:X.A.units+1<cLine) (ho:PE X o td) (hi:PE X i ty) (hs:NoSl i):PE X (.Subscript o i pos) (tDGet td ty):=by
 intro pins s σ H Q I h
 refine subD_of PySem.F.slot_dict_getitem.lookup hs (thn (ho pins s σ H _ I h) fun u s1 ⟨x,H1,I1,rx,q1⟩=>thn (hi pins s1 σ H1 _ I1 q1) fun iv s2 ⟨y,H2,I2,ry,a,v,ex,g,q2⟩=>?_)
 subst ex
 obtain rfl:u=Value.ref a:=rx
 exact⟨dict_typeIs I2 g,d_getItem hu I2 g ry fun w' s3 I3 rw'=>⟨v,H2,I3,rw',q2⟩⟩
theorem ps_dput (hu:X.A.units+1<cLine) (ho:PE X o td) (hi:PE X i ty) (hv:PE X value tv) (hs:swapsWith value (some (.Subscript o i pos')) pos.line X.env=pure false) :
  PS X (.Assign [.Subscript o i pos'] value pos) (sDPut td ty tv):=by
 intro pins s σ H D I h
 refine wpAny_Assign_Subscript (thn (hv pins s σ H _ I h) fun r s1 ⟨v,H1,I1,rv,q1⟩=>thn (ho pins s1 σ H1 _ I1 q1) fun u s2 ⟨x,H2,I2,rx,q2⟩=>thn (hi pins s2 σ H2 _ I2 q2) fun iv s3 ⟨y,H3,I3,ry,a,H4,ex,g,q3⟩=>?_) hs
 subst ex
 obtain rfl:u=Value.ref a:=rx
 exact d_setItem hu I3 g ry rv fun s4 I4=>⟨σ,H4,I4,q3⟩
end
theorem dk_empty {P:Program} {w:World} {H:Hp} (h:Heap) (hb:sysModules<h.objs.size):ObjOk P w H (h.push {cls:=.type "dict",data:=.dict #[]}) h.objs.size (.dK []):=
 ⟨Nat.zero_le _,beq_eq_false_iff_ne.mpr (Ne.symm (Nat.ne_of_lt hb)),[],.nil,Heap.DictOf.new h⟩
theorem dt_empty {P:Program} {w:World} {H:Hp} (h:Heap) (hb:sysModules<h.objs.size):ObjOk P w H (h.push {cls:=.type "dict",data:=.dict #[]}) h.objs.size (.dT []):=
 ⟨Nat.zero_le _,beq_eq_false_iff_ne.mpr (Ne.symm (Nat.ne_of_lt hb)),[],.nil,_,#[],0,Heap.get?_push_size _ rfl,⟨rfl,rfl,rfl⟩,rfl,rfl,List.nodup_nil⟩
def tDNewK:TE:=fun _ H Q=>∀p,H p=none->Q (.ref p) (upd H p (.dK []))
def tDNewT:TE:=fun _ H Q=>∀p,H p=none->Q (.ref p) (upd H p (.dT []))
section
variable {X:Cx} {pos:Pos}
theorem pe_dnewK:PE X (.Dict [] [] pos) tDNewK:=fun pins s σ H Q I h=>
 wpAny_Dict_empty ⟨.ref s.heap.objs.size,_,I.laid (a:=s.heap.objs.size) (o:=.dK []) (t':=s.toks) (fun _ _ q=>Heap.get?_push_of_some _ q) (Nat.le_refl _) (dk_empty s.heap I.big),rfl,h _ (I.hok.fresh (Nat.le_refl _))⟩
theorem pe_dnewT:PE X (.Dict [] [] pos) tDNewT:=fun pins s σ H Q I h=>
 wpAny_Dict_empty ⟨.ref s.heap.objs.size,_,I.laid (a:=s.heap.objs.size) (o:=.dT []) (t':=s.toks) (fun _ _ q=>Heap.get?_push_of_some _ q) (Nat.le_refl _) (dt_empty s.heap I.big),rfl,h _ (I.hok.fresh (Nat.le_refl _))⟩
end
structure M2 (X:Cx) (o:Expr) (m:Str) (apos:Pos) (e f:Expr) (cpos:Pos):Prop where
 base:attributeBase o m X.env (eval o X.env)=eval o X.env
 few:((backTo cpos (starEach [e,f] X.env)).all (fun x=>!x.1)&&(backToKw cpos (keywordEach [] X.env)).all (fun x=>x.1.isSome)
  && decide (([e,f]:List Expr).length+([]:List Keyword).length+(if([]:List Keyword).isEmpty then 0 else 1)<30))=true
 line:(apos.endLine==cpos.line)=true
 trees:backTo cpos (starEach [e,f] X.env)=[(false,eval e X.env),(false,eval f X.env)]
section
variable {X:Cx} {pins:List (Addr×Obj)} {σ:St} {H:Hp} {s:Shared} {a:Addr} {kvs:List (Key×V)} {A:Around} {E:Value->Shared->Prop}
theorem d_copyOf {Q:Value->Shared->Prop} (I:Inv X pins σ H s) (e:Rd H a (.dK kvs)) (h:∀p s',H p=none->Inv X pins σ (upd H p (.dK kvs)) s'->Q (.ref p) s'):wpAny (model X.prog X.w) A (call (.type "dict") [.ref a]) Q E s:=by
 obtain⟨z,hd,vs,rel,dd⟩:=dk_rd I.hok e
 refine kt_call_dict hd dd (by rw[<-rel.length];exact z) fun h' dd' hs=>?_
 refine h _ _ (I.hok.fresh (Nat.le_refl _)) (I.laid (a:=s.heap.objs.size) (o:=.dK kvs) (t':=s.toks) (fun b q hq=>?_) (Nat.le_refl _) (dk_new z (beq_eq_false_iff_ne.mpr (Ne.symm (Nat.ne_of_lt I.big))) rel dd'))
 exact(hs.2 b (Nat.ne_of_lt (Heap.lt_size hq))).trans (Heap.get?_push_of_some _ hq)
end
end L2
namespace L2
open PySem PySem.Spec PyProof.Rows
theorem boot_reversed5:bootBuiltins "reversed"=some (.type "reversed"):=by decide +kernel
section
variable {X:Cx} {pins:List (Addr×Obj)} {σ:St} {H:Hp} {s:Shared} {h':Heap}
theorem Inv.turnedNew {t':Nat} {ch:List Addr} {T:Addr} {ob:HO} (I:Inv X pins σ H s) (k:∀b o,b ∉ ch->s.heap.get? b=some o->h'.get? b=some o) (hf:∀b∈ch,FpOk X pins H b) (hT:s.heap.objs.size<=T)
  (new:ObjOk X.prog X.w (upd H T ob) h' T ob):Inv X pins σ (upd H T ob) {s with heap:=h',toks:=t'}:=by
 have hn:H T=none:=I.hok.fresh hT
 have nit:∀b u,H b=some u->b ∉ ch:=fun b u e z=>by
  have q:=(hf b z).1
  rw[q]at e;cases e
 refine I.step (g':=s.gens) (d':=s.drawn) (ch:=ch) (fun b hb=>⟨(hf b hb).2.2.2.1,(hf b hb).2.1,(hf b hb).2.2.2.2.1,(hf b hb).2.2.2.2.2⟩) (fun b o _ _ hc e _=>k b o hc e) (fun b o _ _ hc e _=>⟨o.slots,k b o hc e⟩)
  (fun b o _ e n=>?_) (fun b o hc e=>⟨o,k b o hc e⟩) (fun b xs e=>?_) (fun b o u e=>?_) (fun b ps e=>⟨#[],?_⟩) (fun m hm=>?_) (fun b u e=>?_) I.bare
 ·rw[upd_ne (Nat.ne_of_lt (Nat.lt_of_lt_of_le (Heap.lt_size e) hT))];exact n
 ·rw[upd_ne (ne_of_none e hn)];exact e
 ·rw[upd_ne (ne_of_none e hn)];exact e
 ·rw[upd_ne (ne_of_none e hn),e];simp
 ·obtain⟨o,es,ep,ho,r⟩:=hm
  exact⟨o,es,ep,k _ o (fun z=>(hf _ z).2.1 rfl) ho,r⟩
 ·by_cases hb:b=T
  ·subst hb
   rw[upd_same]at e
   cases e
   exact new
  ·rw[upd_ne hb]at e
   refine(I.hok b u e).stay (fun c v hc q=>k c v ?_ q) (fun c q=>by rw[upd_ne (ne_of_none q hn)];exact q) fun c xs q=>by rw[upd_ne (ne_of_none q hn)];exact q
   rcases hc with z|z
   ·rw[z];exact nit b u e
   ·exact nit c _ z
end
section
variable {X:Cx}
theorem pi_one {tg:Expr} {pins:List (Addr×Obj)} {σ:St} {H:Hp} {s:Shared} {R:It->Hp->Prop} {J:It} {tn:Nat->Heap->Prop} {tk:Nat} (I:Inv X pins σ H s) (o:Obj)
  (T:Turn X.prog X.w X.K tg J [s.heap.objs.size] s.heap.objs.size tn) (st:tn 0 (s.heap.push o)) (q:R J H):PIE X pins σ tg R (.ref s.heap.objs.size) {s with heap:=s.heap.push o,toks:=tk}:=by
 refine⟨s.heap.objs.size,[s.heap.objs.size],tn,J,H,rfl,I.kept fun b ob e=>Heap.get?_push_of_some _ e,T,st,fun b hb=>?_,q⟩
 have e:b=s.heap.objs.size:=by simpa using hb
 subst e
 exact I.fpOk (Nat.le_refl _) (I.hok.fresh (Nat.le_refl _))
end
def Itv (K:PySem.W.Frag) (a:Addr) (n:Nat):It:=
 ⟨fun i H=>i<n/\∃(xs:List V) (x:V),SqL K H a xs/\xs[n-1-i]?=some x,fun i H x H'=>H'=H/\∀xs,SqL K H a xs->xs[n-1-i]?=some x,fun i _=>n<=i⟩
theorem turn_rev {P:Program} {w:World} {K:PySem.W.Frag} {tg:Expr} (a it:Addr) (n:Nat):Turn P w K tg (Itv K a n) [it] it (fun i h=>i<=n/\h.IsRevIter it a ((n:Int)-1-(i:Nat))) where
 mem:=by simp
 obj:=fun i h st b hb=>by
  have e:b=it:=by simpa using hb
  subst e
  obtain⟨_,o,e,c,d⟩:=st
  exact⟨o,e,fun v z=>by rw[d]at z;cases z⟩
 keep:=fun i h h' st k=>⟨st.1,st.2.at fun o e=>k it (by simp) o e⟩
 item:=by
  intro X hP hw hK hc i pins s σ H E I hf st hg
  subst hP hw hK
  obtain⟨hin,xs,x,hq,hx⟩:=hg
  obtain⟨its,rv,p,hz⟩:=I.list hq
  obtain⟨u,hu,ru⟩:=rv.get hx
  obtain⟨f0,f1,f2,f3,f4,f5⟩:=hf it (by simp)
  obtain⟨_,hit⟩:=st
  have e1:(n:Int)-1-((i:Nat):Int)=((n-1-i:Nat):Int):=by omega
  rw[e1]at hit
  refine wpAny_pyNext_rev_item hit p.isList (x:=u) (by simpa using hu) fun h' st' sb=>?_
  have e2:((n-1-i:Nat):Int)-1=(n:Int)-1-((i+1:Nat):Int):=by omega
  rw[e2]at st'
  have I1:Inv X pins σ H {s with heap:=h'}:=I.turned (t':=s.toks) (fun b o hb e=>(sb.2 b hb).trans e) f0 f1 f3 f4 f5
  obtain⟨o,e,c,d⟩:=id st'
  exact⟨u,rfl,go_of (s:={s with heap:=h'}) e c d (by decide) ⟨x,H,I1,ru,⟨rfl,fun ys hy=>by rw[I.list_inj hy hq];exact hx⟩,⟨hin,st'⟩,fun b hb=>(hf b hb).1⟩⟩
 done:=by
  intro X hP hw hK hc i pins s σ H E I hf st hg
  subst hP hw hK
  obtain⟨f0,f1,f2,f3,f4,f5⟩:=hf it (by simp)
  obtain⟨hin,hit⟩:=st
  have hge:n<=i:=hg
  have e1:(n:Int)-1-((i:Nat):Int)=-1:=by omega
  rw[e1]at hit
  exact wpAny_pyNext_rev_end (I.ok.hd hc) hit fun h' eb=>⟨rfl,I.turned (t':=s.toks) (fun b o hb e=>eb b o hb e) f0 f1 f3 f4 f5⟩
 self:=fun A i s Q E st h=>wpAny_pyIter_revIter st.2 h
def iRev (K:PySem.W.Frag) (ta:TA):TI:=fun σ H R=>ta σ H fun vs H1=>∃(a:Addr) (xs:List V),vs=[.ref a]/\SqL K H1 a xs/\R (Itv K a xs.length) H1
section
variable {X:Cx} {tg:Expr}
theorem pi_reversed {e:Expr} {ta:TA} {p pos:Pos} (hg:Gl X "reversed") (hm:X.mg "reversed"=none) (ha:PA X [e] ta) (hs:starEach [e] X.env=[(false,eval e X.env)]:=by rfl):PI X tg (.Call (.Name "reversed" p) [e] [] pos) (iRev X.K ta):=by
 intro pins s σ H R I h
 refine Call_ (ld_blt I hg hm boot_reversed5 (PyProof.Rows.callWith_type1 (thn (ha pos pins s σ H _ I h) fun us s1 ⟨vs,H1,I1,r1,q1⟩=>?_) hs rfl))
 obtain⟨a,xs,e,hq,q⟩:=q1
 subst e
 cases r1 with
 |cons r rr=>
  cases rr
  cases r
  obtain⟨its,rv,p',hz⟩:=I1.list hq
  have hl:=rv.length
  have e1:((its.toArray.size:Nat):Int)-1=(xs.length:Int)-1-((0:Nat):Int):=by simp only[List.size_toArray];omega
  refine call_reversed_list p'.isList (wpAny_pyIter_revIter (l:=a) (i:=((its.toArray.size:Nat):Int)-1) ⟨_,Heap.get?_push_size _ rfl,rfl,rfl⟩ ?_)
  refine pi_one (tk:=s1.toks) I1 _ (turn_rev a _ xs.length) ⟨Nat.zero_le _,?_⟩ q
  rw[<-e1]
  exact⟨_,Heap.get?_push_size _ rfl,rfl,rfl⟩
end
section
variable {prog:Program} {w:World} {A:Around} {E:Value->Shared->Prop} {s:Shared}
theorem iter_keys {d:Addr} {o:Obj} {es:Array DictEntry} {ep:Nat} {Q:Value->Shared->Prop} (hd:(d==sysModules)=false) (ho:s.heap.get? d=some o) (hc:o.ExactDict) (hdat:o.data=.dict es ep)
  (hQ:Q (.ref s.heap.objs.size) {s with heap:=s.heap.push {cls:=.type "dict_keyiterator",data:=.fields #[.ref d,.int 0 0,.int es.size 0,.int ep 0]}}) :
  wpAny (model prog w) A (pyIter (.ref d)) Q E s:=by
 have hT:s.TypeIs (.ref d) "dict":=⟨o,ho,hc.1⟩
 refine wpAny_pyIter_slot hT F.slot_dict_iter (wpAny_call_entry F.slot_dict_iter hT F.entry_dict_iter ?_ (F.args_dict_iter_1 _))
 unfold Builtin.«dict.__iter__»
 refine wpAny_bind ?_
 unfold Builtin.Dict.dictSlotNone
 refine wpAny_bind (wpAny_notOrdered_dict hT ?_)
 show wpAny _ _ (pure (Value.ref d)) _ _ s
 refine wpAny_pure ?_
 show wpAny _ _ (Builtin.Dict.showsAll d >>= _) _ _ s
 unfold Builtin.Dict.showsAll
 rw[if_neg (by rw[hd];exact Bool.false_ne_true)]
 refine wpAny_bind (wpAny_pure ?_)
 refine wpAny_bind (wpAny_dictEntries ho hdat ?_)
 refine wpAny_bind (wpAny_dictEpoch ho hdat ?_)
 refine wpAny_bind (wpAny_newObj_type (wpAny_pure ⟨_,rfl,"dict_keyiterator",_,⟨_,Heap.get?_push_size _ rfl,rfl⟩,F.slot_dict_keyiterator_next.lookup,?_⟩))
 simpa[rawInt]using hQ
theorem next_key_item {it d:Addr} {i n ep:Nat} {od:Obj} {es:Array DictEntry} {en:DictEntry} {Q:Option Value->Shared->Prop} (hit:s.heap.IsKeyIter it d i n ep) (hod:s.heap.get? d=some od) (hdd:od.data=.dict es ep)
  (hsz:es.size=n) (hx:es[i]?=some en) (hQ:∀h',h'.IsKeyIter it d (i+1) n ep->Heap.SameBut it s.heap h'->Q (some en.key) {s with heap:=h'}):wpAny (model prog w) A (pyNext (.ref it)) Q E s:=by
 obtain⟨o,ho,hc,hd⟩:=id hit
 unfold pyNext
 refine wpAny_bind (wpAny_attempt (wpAny_callSpecial?_slot (name:=Str.ofString "__next__") hit.typeIs F.slot_dict_keyiterator_next
  (wpAny_call_entry F.slot_dict_keyiterator_next hit.typeIs F.entry_dict_keyiterator_next ?_ (F.args_dict_keyiterator_next_1 _))))
 refine wpAny_bind (wpAny_pure ?_)
 iterate 2 refine wpAny_bind ?_
 first|refine wpAny_bind (wpAny_typeNameOfWhole_keyiter hit.typeIs (wpAny_pure ?_))|refine wpAny_bind (wpAny_typeNameOf_keyiter hit.typeIs (wpAny_pure ?_))
 refine wpAny_bind (wpAny_fieldsOf ho hd ?_)
 have hown:Builtin.Dict_items.ownsTuple "dict_keyiterator"=false:=by decide
 simp only[hown,Bool.false_eq_true,if_false]
 show wpAny _ _ (if(Value.ref d==Value.none)=true then _ else _) _ _ s
 rw[if_neg (show ¬ ((Value.ref d==Value.none)=true)from Bool.false_ne_true)]
 refine wpAny_bind (wpAny_pure ?_)
 refine wpAny_bind (wpAny_dictEntries hod hdd ?_)
 rw[if_neg (by rw[hsz];simp)]
 refine wpAny_bind (wpAny_pure ?_)
 refine wpAny_bind (wpAny_dictEpoch hod hdd ?_)
 rw[if_neg (by simp)]
 refine wpAny_pure ?_
 obtain⟨hlt',hen⟩:=Array.getElem?_eq_some_iff.mp hx
 simp only[show ¬ ((i:Int)<0)from by omega,if_false,Int.toNat_natCast,Array.getElem?_eq_getElem hlt']
 refine wpAny_bind ?_
 first|refine wpAny_bind (wpAny_typeNameOfWhole_keyiter hit.typeIs (wpAny_pure ?_))|refine wpAny_bind (wpAny_typeNameOf_keyiter hit.typeIs (wpAny_pure ?_))
 refine wpAny_bind (wpAny_isOneOf_keyiter hit.typeIs ?_)
 show wpAny _ _ (setField (.ref it) 1 (rawInt ((i:Int)+1)) >>= _) _ _ s
 refine wpAny_bind (wpAny_setField ho hd (by simp) ?_)
 have hit':(s.heap.update it (Obj.mapFields (·.setIfInBounds 1 (rawInt ((i:Int)+1))))).IsKeyIter it d (i+1) n ep:=
  ⟨_,Heap.get?_update_self _ ho (Obj.isFreed_of_fields (Obj.data_mapFields hd _)),(Obj.cls_mapFields ..).trans hc,by rw[Obj.data_mapFields hd];simp[rawInt]⟩
 refine wpAny_bind (wpAny_holding ?_)
 refine wpAny_bind (wpAny_isOneOf_keyiter (s:={s with heap:=s.heap.update it (Obj.mapFields (·.setIfInBounds 1 (rawInt ((i:Int)+1))))}) hit'.typeIs ?_)
 show wpAny _ _ (pure es[i].key) _ _ _
 rw[hen]
 exact wpAny_pure (wpAny_pure ⟨_,rfl,wpAny_pure (hQ _ hit' (Heap.SameBut.update ..))⟩)
theorem next_key_end {it d:Addr} {i n ep:Nat} {od:Obj} {es:Array DictEntry} {Q:Option Value->Shared->Prop} (hh:A.handled=none) (hit:s.heap.IsKeyIter it d i n ep) (hod:s.heap.get? d=some od) (hdd:od.data=.dict es ep)
  (hsz:es.size=n) (hge:n<=i) (hQ:∀h',Heap.ExtBut it s.heap h'->Q none {s with heap:=h'}):wpAny (model prog w) A (pyNext (.ref it)) Q E s:=by
 obtain⟨o,ho,hc,hd⟩:=id hit
 unfold pyNext
 refine wpAny_bind (wpAny_attempt (wpAny_callSpecial?_slot (name:=Str.ofString "__next__") hit.typeIs F.slot_dict_keyiterator_next
  (wpAny_call_entry F.slot_dict_keyiterator_next hit.typeIs F.entry_dict_keyiterator_next ?_ (F.args_dict_keyiterator_next_1 _))))
 refine wpAny_bind (wpAny_pure ?_)
 iterate 2 refine wpAny_bind ?_
 first|refine wpAny_bind (wpAny_typeNameOfWhole_keyiter hit.typeIs (wpAny_pure ?_))|refine wpAny_bind (wpAny_typeNameOf_keyiter hit.typeIs (wpAny_pure ?_))
 refine wpAny_bind (wpAny_fieldsOf ho hd ?_)
 have hown:Builtin.Dict_items.ownsTuple "dict_keyiterator"=false:=by decide
 simp only[hown,Bool.false_eq_true,if_false]
 show wpAny _ _ (if(Value.ref d==Value.none)=true then _ else _) _ _ s
 rw[if_neg (show ¬ ((Value.ref d==Value.none)=true)from Bool.false_ne_true)]
 refine wpAny_bind (wpAny_pure ?_)
 refine wpAny_bind (wpAny_dictEntries hod hdd ?_)
 rw[if_neg (by rw[hsz];simp)]
 refine wpAny_bind (wpAny_pure ?_)
 refine wpAny_bind (wpAny_dictEpoch hod hdd ?_)
 rw[if_neg (by simp)]
 refine wpAny_pure ?_
 have hge':es.size<=i:=by rw[hsz];exact hge
 simp only[show ¬ ((i:Int)<0)from by omega,if_false,Int.toNat_natCast,Array.getElem?_eq_none hge']
 refine wpAny_bind ?_
 first|refine wpAny_bind (wpAny_typeNameOfWhole_keyiter hit.typeIs (wpAny_pure ?_))|refine wpAny_bind (wpAny_typeNameOf_keyiter hit.typeIs (wpAny_pure ?_))
 show wpAny _ _ (setField (.ref it) 0 .none >>= _) _ _ s
 refine wpAny_bind (wpAny_setField ho hd (by simp) ?_)
 show wpAny _ _ (newExc (.type "StopIteration") [] >>= _) _ _ _
 refine wpAny_bind ?_
 simp only[newExc,newTuple]
 refine wpAny_bind (wpAny_newObj_type ?_ (by size_fits))
 refine wpAny_bind (m:=firstArgMember _ _) (wpAny_of_eq (a:=Value.none) (by first|rfl|(simp only[firstArgMember];rfl)) ?_)
 refine wpAny_newObj_type ?_ (by size_fits)
 simp only[raiseNew]
 refine wpAny_bind (wpAny_handled ?_)
 rw[show A.in1.handled=none from hh]
 refine wpAny_bind (wpAny_pure (wpAny_throw ?_))
 refine wpAny_bind (wpAny_isInstance (T:="StopIteration") (b:=true) ⟨_,Heap.get?_push_size _ rfl,rfl⟩ isSubtype_stop ?_)
 exact wpAny_pure (hQ _ (((Heap.SameBut.update ..).extBut.push _).push _))
end
theorem paired_get {α β:Type} {G:α->β->Prop} {l₁:List α} {l₂:List β} (h:Paired G l₁ l₂):∀{i:Nat} {a:α},l₁[i]?=some a->∃b,l₂[i]?=some b/\G a b:=by
 induction h with
 |nil=>intro i a e;simp at e
 |@cons a b l₁ l₂ r t ih=>
  intro i a' e
  cases i with
  |zero=>
   simp only[List.getElem?_cons_zero,Option.some.injEq]at e
   subst e
   exact⟨b,rfl,r⟩
  |succ j=>
   simp only[List.getElem?_cons_succ]at e ⊢
   exact ih e
def Ite (K:PySem.W.Frag) (a:Addr):It:=
 ⟨fun i H=>∃(xs:List V) (x:V),SqL K H a xs/\xs[i]?=some x,fun i H v H'=>∃T x,v=.ref T/\H T=none/\H'=upd H T (.tup [.int (i:Nat),x])/\∀xs,SqL K H a xs->xs[i]?=some x,fun i H=>∃xs:List V,SqL K H a xs/\xs.length<=i⟩
theorem turn_enum {P:Program} {w:World} {K:PySem.W.Frag} {elts:List Expr} {kk:Nat} {tpos:Pos} (a e it:Addr) :
  Turn P w K (.Tuple elts kk tpos) (Ite K a) [e,it] e (fun i h=>(∃old,IsEnum h e it ((i:Nat):Int) old)/\h.IsListIter it a i/\e≠it) where
 mem:=by simp
 obj:=fun i h st b hb=>by
  obtain⟨⟨old,he⟩,⟨o,ho,hc,hd⟩,_⟩:=st
  have e':b=e\/b=it:=by simpa using hb
  rcases e' with z|z
  ·rw[z];exact⟨_,he,fun v q=>nomatch q⟩
  ·rw[z];exact⟨o,ho,fun v q=>by rw[hd]at q;cases q⟩
 keep:=fun i h h' st k=>let⟨⟨old,he⟩,hi,hne⟩:=st;⟨⟨old,k e (by simp) _ he⟩,hi.at fun o q=>k it (by simp) o q,hne⟩
 item:=by
  intro X hP hw hK hc i pins s σ H E I hf st hg
  subst hP hw hK
  obtain⟨⟨old,he⟩,hit,hne⟩:=st
  obtain⟨xs,x,hq,hx⟩:=hg
  obtain⟨its,rv,p,hz⟩:=I.list hq
  obtain⟨u,hu,ru⟩:=rv.get hx
  have hel:e<s.heap.objs.size:=Heap.lt_size he
  have hil:it<s.heap.objs.size:=by obtain⟨_,q,_⟩:=hit;exact Heap.lt_size q
  refine wpAny_pyNext_enum_item he hit p.isList (x:=u) (by simpa using hu) hne fun h' ho hit' hT hsz hk=>?_
  refine⟨_,rfl,wpAny_letOwnedTupleGo_enum (s:={s with heap:=h',toks:=s.toks+1}) ho fun h'' he' sb=>?_⟩
  have hT2:h''.get? s.heap.objs.size=some {cls:=.type "tuple",data:=.seq #[.int i s.toks,u]}:=(sb.2 _ (Nat.ne_of_gt hel)).trans hT
  have new:ObjOk X.prog X.w (upd H s.heap.objs.size (.tup [.int (i:Nat),x])) h'' s.heap.objs.size (.tup [.int (i:Nat),x]):=
   ⟨by show 2<=sizeLine;decide,[.int i s.toks,u],.cons ⟨_,rfl⟩ (.cons ru .nil),⟨_,hT2,rfl,_,rfl⟩⟩
  have I1:Inv X pins σ (upd H s.heap.objs.size (.tup [.int (i:Nat),x])) {s with heap:=h'',toks:=s.toks+1}:=
   I.turnedNew (ch:=[e,it]) (fun b ob hb q=>(sb.2 b (fun z=>hb (by simp[z]))).trans (hk b ob (fun z=>hb (by simp[z])) (fun z=>hb (by simp[z])) q)) hf (Nat.le_refl _) new
  refine⟨.ref s.heap.objs.size,_,I1,rfl,⟨_,x,rfl,I.hok.fresh (Nat.le_refl _),rfl,fun ys hy=>by rw[I.list_inj hy hq];exact hx⟩,⟨⟨u,?_⟩,hit'.at fun o q=>(sb.2 it (Ne.symm hne)).trans q,hne⟩,fun b hb=>?_⟩
  ·have e1:((i+1:Nat):Int)=(i:Int)+1:=by omega
   rw[e1];exact he'
  ·have hb':b<s.heap.objs.size:=by
    have e':b=e\/b=it:=by simpa using hb
    rcases e' with z|z
    ·rw[z];exact hel
    ·rw[z];exact hil
   rw[upd_ne (Nat.ne_of_lt hb')]
   exact(hf b hb).1
 done:=by
  intro X hP hw hK hc i pins s σ H E I hf st hg
  subst hP hw hK
  obtain⟨⟨old,he⟩,hit,hne⟩:=st
  obtain⟨xs,hq,hx⟩:=hg
  obtain⟨its,rv,p,hz⟩:=I.list hq
  obtain⟨f0,f1,f2,f3,f4,f5⟩:=hf it (by simp)
  have hl:=rv.length
  exact wpAny_pyNext_enum_end (I.ok.hd hc) he hit p.isList (by simp;omega) fun h' eb=>⟨rfl,I.turned (t':=s.toks) (fun b o hb q=>eb b o hb q) f0 f1 f3 f4 f5⟩
 self:=fun A i s Q E st h=>let⟨⟨_,he⟩,_⟩:=st;wpAny_pyIter_enum he h
def iEnum (K:PySem.W.Frag) (ta:TA):TI:=fun σ H R=>ta σ H fun vs H1=>∃a xs,vs=[.ref a]/\SqL K H1 a xs/\R (Ite K a) H1
theorem pi_enum {X:Cx} {e:Expr} {ta:TA} {p pos tpos:Pos} {elts:List Expr} {kk:Nat} (hg:Gl X "enumerate") (hm:X.mg "enumerate"=none) (ha:PA X [e] ta) (hs:starEach [e] X.env=[(false,eval e X.env)]:=by rfl) :
  PI X (.Tuple elts kk tpos) (.Call (.Name "enumerate" p) [e] [] pos) (iEnum X.K ta):=by
 intro pins s σ H R I h
 refine Call_ (ld_blt I hg hm boot_enumerate (PyProof.Rows.callWith_type1 (thn (ha pos pins s σ H _ I h) fun us s1 ⟨vs,H1,I1,r1,q1⟩=>?_) hs rfl))
 obtain⟨a,xs,ex,hq,q⟩:=q1
 subst ex
 cases r1 with
 |cons r rr=>
  cases rr
  cases r
  obtain⟨its,rv,p',hz⟩:=I1.list hq
  refine call_enumerate_list p'.isList fun h' he hit hsz hk=>wpAny_pyIter_enum he ?_
  have I2:Inv X pins σ H1 {s1 with heap:=h'}:=I1.kept (t':=s1.toks) hk
  refine⟨s1.heap.objs.size+1,[s1.heap.objs.size+1,s1.heap.objs.size],_,_,H1,rfl,I2,turn_enum a (s1.heap.objs.size+1) s1.heap.objs.size,⟨⟨.none,he⟩,hit,Nat.succ_ne_self _⟩,fun b hb=>?_,q⟩
  have e':b=s1.heap.objs.size+1\/b=s1.heap.objs.size:=by simpa using hb
  have hle:s1.heap.objs.size<=b:=by
   rcases e' with z|z
   ·rw[z];exact Nat.le_add_right _ _
   ·rw[z];exact Nat.le_refl _
  exact I1.fpOk hle (I1.hok.fresh hle)
end L2
section
namespace TL
open PySem PySem.Builtin PySem.Builtin.Str PySem.StrLaws
abbrev tl (x:Str):List Nat:=x.cps.toList
theorem tl_append (x y:Str):tl (x++y)=tl x++tl y:=by
 show(x++y).cps.toList=_
 rw[Str.cps_append,Array.toList_append]
def joinL (S:List Nat):List (List Nat)->List Nat
 |[]=>[]
 |[p]=>p
 |p::q::r=>p++(S++joinL S (q::r))
theorem tl_join (y:Str):∀parts:List Str,tl (Str.join y parts)=joinL (tl y) (parts.map tl)
 |[]=>rfl
 |[_]=>rfl
 |x::z::r=>by
  show tl (x++y++Str.join y (z::r))=tl x++(tl y++joinL (tl y) ((z::r).map tl))
  rw[tl_append,tl_append,tl_join y (z::r),List.append_assoc]
theorem join_eq (y:Str) (parts:List Str):Txt.join y parts=Str.join y parts:=glued_eq_join y parts
end TL
end
namespace L2
open PySem PySem.Spec PyProof.Rows
theorem strs_of_vals:∀{ys:List Str} {us:List Value},Vals (ys.map V.str) us->StrsAre us ys
 |[],_,.nil=>.nil
 |y::ys,_,.cons r t=>by
  obtain⟨k,rfl⟩:=r
  exact .cons y k (strs_of_vals t)
section
variable {X:Cx}
theorem mt_join:MtR X "str.join" (fun x xs H Q=>∃a p,∃ys:List Str,x=.str a/\xs=[.ref p]/\(SqL X.K H p (ys.map V.str)\/SqT X.K H p (ys.map V.str)) /\
  (ys.map (·.length)).sum+ys.length*a.length<=16777216/\Q (.str (Txt.join a ys)) H):=by
 intro pins s σ H x xs v us Q I rx rs h
 obtain⟨a,p,ys,rfl,rfl,hp,hz,h⟩:=h
 obtain⟨t,rfl⟩:=rx
 cases rs with
 |cons r1 rs=>
  cases rs
  cases r1
  rcases hp with hp|hp
  ·obtain⟨its,r,⟨o,n,ho,hc,_,hd⟩,_⟩:=I.list hp
   exact PyProof.Rows.join_list (items:=its.toArray) ⟨o,ho,hc,n,hd⟩ (by rw[List.toList_toArray];exact strs_of_vals r) hz fun t' k=>⟨.str _,H,I.tok k,⟨t',rfl⟩,h⟩
  ·obtain⟨its,r,ht,_⟩:=I.tuple hp
   exact PyProof.Rows.join_tuple (items:=its.toArray) ht (by rw[List.toList_toArray];exact strs_of_vals r) hz fun t' k=>⟨.str _,H,I.tok k,⟨t',rfl⟩,h⟩
end
section
variable {X:Cx} {o e:Expr} {to te:TE}
def tM1 (r:V->List V->Hp->VK->Prop) (to te:TE):TE:=fun σ H Q=>to σ H fun x H1=>(∃a,x=.str a)/\te σ H1 fun y H2=>r x [y] H2 Q
theorem pe_m1 {id:String} {name:Str} {apos pos:Pos} {r:V->List V->Hp->VK->Prop} (slot:Slot "str" name id) (ty:typeOf (.builtin id)=pure (.type "method_descriptor")) (rule:MtR X id r) (ho:PE X o to) (he:PE X e te)
  (hs:starEach [e] X.env=[(false,eval e X.env)]:=by rfl) (hbase:attributeBase o name X.env (eval o X.env)=eval o X.env:=by rfl) (hline:(apos.endLine==pos.line)=true:=by rfl) :
  PE X (.Call (.Attribute o name apos) [e] [] pos) (tM1 r to te):=by
 intro pins s σ H Q I h
 refine PySem.Call_method1 hbase hs hline (thn (ho pins s σ H _ I h) fun v s1 ⟨x,H1,I1,r1,q1⟩=>?_)
 obtain⟨⟨a,rfl⟩,q1⟩:=q1
 obtain⟨t,rfl⟩:=_root_.id r1
 refine⟨"str",_,F.plainAttrs_str,slot,ty,typeIs_str _ _ _,(fun _ e=>nomatch e),Calls.callWith_builtin rfl (Calls.evalArgs_plain (Calls.spliced_cons ?_))⟩
 exact thn (he pins s1 σ H1 _ I1 q1) fun u s2 ⟨y,H2,I2,r2,q2⟩=>Calls.spliced_nil (rule pins s2 σ H2 _ [y] _ [u] Q I2 r1 (.cons r2 .nil) q2)
theorem pe_join {apos pos:Pos} (ho:PE X o to) (he:PE X e te) (hs:starEach [e] X.env=[(false,eval e X.env)]:=by rfl) (hbase:attributeBase o "join" X.env (eval o X.env)=eval o X.env:=by rfl) (hline:(apos.endLine==pos.line)=true:=by rfl) :
  PE X (.Call (.Attribute o "join" apos) [e] [] pos) (tM1 (fun x xs H Q=>∃a p,∃ys:List Str,x=.str a/\xs=[.ref p]/\(SqL X.K H p (ys.map V.str)\/SqT X.K H p (ys.map V.str)) /\
   (ys.map (·.length)).sum+ys.length*a.length<=16777216/\Q (.str (Txt.join a ys)) H) to te):=
 pe_m1 F.slot_str_join F.type_str_join mt_join ho he hs hbase hline
end
end L2
namespace L2
open PySem PySem.Spec PyProof.Rows
def inClass (s:Stmt) (j:Nat):Stmt:=match s with
 |.ClassDef _ _ _ body _ _ _ _ _ _ _=>body.getD j (.Pass ⟨0,0,0,0⟩)
 |_=>.Pass ⟨0,0,0,0⟩
def defArgs (s:Stmt):Arguments:=match s with
 |.FunctionDef _ a _ _ _ _ _ _ _ _=>a
 |_=>{posonlyargs:=[],args:=[],vararg:=none,kwonlyargs:=[],kw_defaults:=[],kwarg:=none,defaults:=[]}
def defBody (s:Stmt):List Stmt:=match s with
 |.FunctionDef _ _ b _ _ _ _ _ _ _=>b
 |_=>[]
def defScope (s:Stmt):Scope:=match s with
 |.FunctionDef _ _ _ _ _ _ sc _ _ _=>sc
 |_=>{kind:=.function,names:=[],isGenerator:=false,isCoroutine:=false}
abbrev CX0:CXT:=fun _ _ _ _ _ _=>False
abbrev E0:XK:=fun _ _ _=>False
theorem pass0 {X:Cx}:Passes CX0 X E0:=fun _ _ _ _ _ _ _ h=>h.elim
structure Fun (K:PySem.W.Frag) (x qual:Str) (st:Stmt) (f:Addr) (fd:FuncData):Prop where
 ex:∃(oc:Value) (od:Option Addr) (kV doc pm:Value) (an:Option Addr) (cdv ct:Value) (osl:Array (Option Value)),
  fd=PySem.W.fnOf x qual (defArgs st) (defBody st) (defScope st) .none kV doc pm an cdv ct/\K.lookup f=some ⟨oc,od,.func fd,osl⟩/\PySem.W.codeIn K cdv qual=true
 kp:PySem.W.keepIn K (.ref f)=true
section
variable {P:Program} {w:World} {K:PySem.W.Frag} {mg:Str->Option Value} {base:Heap}
theorem Fun.ok {x qual:Str} {st:Stmt} {f:Addr} {fd:FuncData} {N ps:List Str} {k:Nat} {sp:Sp} (F:Fun K x qual st f fd) (S:FnScope N ps (defScope st)) (len:∀vs H Q E,sp vs H Q E->vs.length=ps.length)
  (hbody:∀(cdv:Value) (A:Around) (outer:List Env) (s:Shared) (H:Hp) (vs:List V) (Q:VK) (E:XK),Room k (A.deeper (envOfC qual (defScope st) s.heap.objs.size f cdv))->sp vs H Q E ->
   ∃t,PSs (cxOf CX0 P w K mg base N qual (defScope st) f cdv A outer s H E).nox (defBody st) t/\t {nx:=fun _ H'=>Q .non H',rt:=Q} (start N vs) H):FnOk P w K mg base CX0 (k+1) f fd ps sp:=by
 obtain⟨oc,od,kV,doc,pm,an,cdv,ct,osl,rfl,lk,hcd⟩:=F.ex
 refine fn_of lk hcd S len fun A outer s H vs Q E hr hsp=>?_
 obtain⟨t,h,q⟩:=hbody cdv A outer s H vs Q E hr hsp
 exact⟨t,h.nox,q⟩
theorem Fun.binds {x qual:Str} {st:Stmt} {f:Addr} {fd:FuncData} {ps:List Str} (F:Fun K x qual st f fd)
  (h:∀(kV doc pm:Value) (an:Option Addr) (cdv ct:Value) (us:List Value),us.length=ps.length->bindArgs (PySem.W.fnOf x qual (defArgs st) (defBody st) (defScope st) .none kV doc pm an cdv ct) ⟨us,[]⟩=pure (ps.zip us)):Binds K fd ps []:=by
 obtain⟨oc,od,kV,doc,pm,an,cdv,ct,osl,rfl,lk,hcd⟩:=F.ex
 exact .all (h kV doc pm an cdv ct)
theorem fun_mk {x qual:Str} {st:Stmt} {f:Addr} {oc:Value} {od an:Option Addr} {osl:Array (Option Value)} {kV doc pm cdv ct:Value} (l:K.lookup f=some ⟨oc,od,.func (PySem.W.fnOf x qual (defArgs st) (defBody st) (defScope st) .none kV doc pm an cdv ct),osl⟩)
  (c:PySem.W.codeIn K cdv qual=true) (k:PySem.W.keepIn K (.ref f)=true):Fun K x qual st f (PySem.W.fnOf x qual (defArgs st) (defBody st) (defScope st) .none kV doc pm an cdv ct):=⟨⟨oc,od,kV,doc,pm,an,cdv,ct,osl,rfl,l,c⟩,k⟩
end
theorem hu_of {A:Around} {k:Nat} (hr:Room k A):A.units+1<cLine:=Nat.lt_of_le_of_lt (Nat.add_le_add_left (by decide:1<=64) _) hr.units
section
variable {X:Cx}
theorem pv (i:Nat) {x:Str} {pos:Pos} (hN:X.N[i]?=some x:=by rfl) (hv:Vis X.env.scope x:=by first|exact Or.inl rfl|exact Or.inr (Or.inl rfl)|exact Or.inr (Or.inr rfl)) (hd:(x==("__debug__":Str))=false:=by decide)
  (hcd:(x==("__classdict__":Str))=false:=by decide):PE X (.Name x pos) (tVar i):=pe_var hN hv hd hcd
end
theorem iteF {A B:Prop} (h:B):if false=true then A else B:=by
 rw[if_neg Bool.false_ne_true]
 exact h
theorem iteT {A B:Prop} (h:A):if true=true then A else B:=by
 rw[if_pos rfl]
 exact h
def Same (H H':Hp):Prop:=∀b o,H b=some o->H' b=some o
theorem Same.trans {H H1 H2:Hp} (a:Same H H1) (b:Same H1 H2):Same H H2:=fun c o h=>b c o (a c o h)
theorem Same.free {H H':Hp} (e:Same H H') {l:Addr} (h:H' l=Option.none):H l=Option.none:=by
 cases q:H l with
 |none=>rfl
 |some o=>
  rw[e l o q]at h
  cases h
theorem Same.seq {K:PySem.W.Frag} {H H':Hp} {a:Addr} {xs:List V} (e:Same H H') (h:SqL K H a xs):SqL K H' a xs:=by
 rcases h with(h|⟨o,h⟩)|h
 ·exact .inl (.inl (e _ _ h))
 ·exact .inl (.inr ⟨o,e _ _ h⟩)
 ·exact .inr h
theorem nd_ix {α:Type} {l:List α} (hN:l.Nodup) {i j:Nat} {x:α} (a:l[i]?=some x) (b:l[j]?=some x):i=j:=by
 obtain⟨h1,e1⟩:=List.getElem?_eq_some_iff.mp a
 obtain⟨h2,e2⟩:=List.getElem?_eq_some_iff.mp b
 exact(List.getElem_inj hN).mp (e1.trans e2.symm)
theorem Same.made {H H1:Hp} {x dx C:Addr} (nx:H x=Option.none) (nd:H dx=Option.none) (k:∀b o,(upd (upd H dx (.own x)) x (.ins C dx [])) b=some o->b≠x->H1 b=some o):Same H H1:=fun b o e=>
 k b o (by rw[upd_ne (ne_of_none e nx),upd_ne (ne_of_none e nd)];exact e) (ne_of_none e nx)
end L2
end
section
section
namespace L2
open PySem PySem.Spec PyProof.Rows
open PySem.W (WData Codec OpenSpec Well WellAll ReadsW ReadsAllW)
mutual
inductive Dw (K:PySem.W.Frag) (H:Hp):V->WData->Prop
 |non:Dw K H .non .none
 |bl (b:Bool):Dw K H (.bl b) (.bool b)
 |int (i:Int):Dw K H (.int i) (.int i)
 |str (x:Str):Dw K H (.str x) (.str x)
 |byt (b:Array UInt8):Dw K H (.byt b) (.bytes b.toList)
 |lst {a:Addr} {xs:List V} {ds:List WData}:SqL K H a xs->DwAll K H xs ds->Dw K H (.ref a) (.list ds)
 |tup {a:Addr} {xs:List V} {ds:List WData}:SqT K H a xs->DwAll K H xs ds->Dw K H (.ref a) (.tuple ds)
inductive DwAll (K:PySem.W.Frag) (H:Hp):List V->List WData->Prop
 |nil:DwAll K H [] []
 |cons {v:V} {vs:List V} {d:WData} {ds:List WData}:Dw K H v d->DwAll K H vs ds->DwAll K H (v::vs) (d::ds)
end
theorem dw_ints {K:PySem.W.Frag} {H:Hp}:∀ns:List Int,DwAll K H (ns.map V.int) (ns.map WData.int)
 |[]=>.nil
 |n::r=>.cons (.int n) (dw_ints r)
theorem ints_dw {K:PySem.W.Frag} {H:Hp}:∀(ns:List Int) (xs:List V),DwAll K H xs (ns.map WData.int)->xs=ns.map V.int
 |[],xs,h=>by
  cases h
  rfl
 |n::r,xs,h=>by
  cases h with
  |cons h1 h2=>
   cases h1
   rw[ints_dw r _ h2]<;>rfl
section
variable {P:Program} {w:World} {K:PySem.W.Frag} {H:Hp} {h:Heap} {R:PySem.W.WRecords} {cl:Str->Option Addr}
theorem sqL_at {a:Addr} {xs:List V} (hok:HOk P w H h) (KX:K.In h) (q:SqL K H a xs):∃(its:List Value) (o:Obj) (n:Nat),Vals xs its/\h.get? a=some o/\o.cls=.type "list"/\o.data=.seq its.toArray n:=by
 rcases q with q|⟨o,its,n,e,hc,_,hd,_,hv⟩
 ·obtain⟨_,its,n,hv,e⟩:=(show ObjOk P w H h a (.lst xs)from q.ok hok)
  exact⟨its,_,n,hv,e,rfl,rfl⟩
 ·exact⟨its.toList,o,n,hv,KX _ _ e,hc,by simp[hd]⟩
theorem sqT_at {a:Addr} {xs:List V} (hok:HOk P w H h) (KX:K.In h) (q:SqT K H a xs):∃(its:List Value) (o:Obj) (n:Nat),Vals xs its/\h.get? a=some o/\o.cls=.type "tuple"/\o.data=.seq its.toArray n:=by
 rcases q with q|⟨o,its,n,e,hc,hd,_,hv⟩
 ·obtain⟨_,its,hv,o,e,hc,n,hd⟩:=(show ObjOk P w H h a (.tup xs)from q.ok hok)
  exact⟨its,o,n,hv,e,hc,hd⟩
 ·exact⟨its.toList,o,n,hv,KX _ _ e,hc,by simp[hd]⟩
mutual
theorem Dw.reads (hok:HOk P w H h) (KX:K.In h):∀(d:WData) (v:V) (u:Value),Dw K H v d->RelV v u->∃as,ReadsW R cl h u d as
 |.none,_,_,x,r=>by
  cases x
  cases r
  exact⟨_,ReadsW.none⟩
 |.bool b,_,_,x,r=>by
  cases x
  cases r
  exact⟨_,ReadsW.bool b⟩
 |.int i,_,_,x,r=>by
  cases x
  obtain⟨t,rfl⟩:=r
  exact⟨_,ReadsW.int i t⟩
 |.str s,_,_,x,r=>by
  cases x
  obtain⟨t,rfl⟩:=r
  exact⟨_,ReadsW.str s t⟩
 |.bytes b,_,_,x,r=>by
  cases x
  obtain⟨t,rfl⟩:=r
  exact⟨_,ReadsW.bytes _ t⟩
 |.list ds,_,_,x,r=>by
  cases x with
  |lst hs ha=>
   cases r
   obtain⟨its,o,n,rv,ho,hc,hd⟩:=sqL_at hok KX hs
   obtain⟨as,hr⟩:=Dw.readsAll hok KX ds _ its ha rv
   exact⟨_,ReadsW.list ho hc hd hr⟩
 |.tuple ds,_,_,x,r=>by
  cases x with
  |tup hs ha=>
   cases r
   obtain⟨its,o,n,rv,ho,hc,hd⟩:=sqT_at hok KX hs
   obtain⟨as,hr⟩:=Dw.readsAll hok KX ds _ its ha rv
   exact⟨_,ReadsW.tuple ho hc hd hr⟩
 |.float _,_,_,x,_=>by cases x
 |.dict _,_,_,x,_=>by cases x
 |.bytearray _,_,_,x,_=>by cases x
 |.set _,_,_,x,_=>by cases x
 |.frozenset _,_,_,x,_=>by cases x
 |.obj _ _,_,_,x,_=>by cases x
theorem Dw.readsAll (hok:HOk P w H h) (KX:K.In h):∀(ds:List WData) (vs:List V) (us:List Value),DwAll K H vs ds->Vals vs us->∃as,ReadsAllW R cl h us ds as
 |[],_,_,x,r=>by
  cases x
  cases r
  exact⟨_,ReadsAllW.nil⟩
 |d::ds,_,_,x,r=>by
  cases x with
  |cons h1 h2=>
   cases r with
   |cons r1 r2=>
    obtain⟨as,q1⟩:=Dw.reads hok KX d _ _ h1 r1
    obtain⟨bs,q2⟩:=Dw.readsAll hok KX ds _ _ h2 r2
    exact⟨_,ReadsAllW.cons q1 q2⟩
end
end
mutual
def plW:WData->Bool
 |.none=>true
 |.bool _=>true
 |.int _=>true
 |.str _=>true
 |.bytes _=>true
 |.list xs=>plWs xs
 |.tuple xs=>plWs xs
 |_=>false
def plWs:List WData->Bool
 |[]=>true
 |x::r=>plW x&&plWs r
end
theorem plWs_map {α:Type} {f:α->WData} (h:∀a,plW (f a)=true):∀l:List α,plWs (l.map f)=true
 |[]=>rfl
 |x::r=>by
  show(plW (f x)&&plWs (r.map f))=true
  rw[h x,plWs_map h r]<;>rfl
theorem pl_enc:∀(c:Codec) (a:c.denote),plW (c.enc a)=true
 |.unit,_=>rfl
 |.bool,_=>rfl
 |.int _ _,_=>rfl
 |.nat _ _,_=>rfl
 |.u8,_=>rfl
 |.bytes _ _,_=>rfl
 |.text _ _ _ _,_=>rfl
 |.list _ _ c,a=>plWs_map (fun x=>pl_enc c x) a
 |.pair c d,a=>by
  show(plW (c.enc a.1)&&(plW (d.enc a.2)&&true))=true
  rw[pl_enc c a.1,pl_enc d a.2]<;>rfl
 |.triple c d e,a=>by
  show(plW (c.enc a.1)&&(plW (d.enc a.2.1)&&(plW (e.enc a.2.2)&&true)))=true
  rw[pl_enc c a.1,pl_enc d a.2.1,pl_enc e a.2.2]<;>rfl
 |.option c,none=>rfl
 |.option c,some x=>pl_enc c x
theorem pl_encAll:∀(cs:List Codec) (a:Codec.denoteAll cs),plWs (Codec.encAll cs a)=true
 |[],_=>rfl
 |c::cs,a=>by
  show(plW (c.enc a.1)&&plWs (Codec.encAll cs a.2))=true
  rw[pl_enc c a.1,pl_encAll cs a.2]<;>rfl
theorem weight_mem:∀{xs:List WData} {d:WData},d∈xs->d.weight<=WData.weightAll xs
 |[],d,h=>absurd h (by simp)
 |x::r,d,h=>by
  show d.weight<=x.weight+1+WData.weightAll r
  rcases List.mem_cons.mp h with e|m
  ·rw[e]
   omega
  ·have z:=weight_mem m
   omega
def toV:Value->V
 |.none=>.non
 |.bool b=>.bl b
 |.int i _=>.int i
 |.str x _=>.str x
 |.bytes b _=>.byt b
 |.ref a=>.ref a
 |_=>.non
def OkU (A:List Addr):Value->Prop
 |.none=>True
 |.bool _=>True
 |.int _ _=>True
 |.str _ _=>True
 |.bytes _ _=>True
 |.ref a=>a∈A
 |_=>False
theorem OkU.mono {A B:List Addr} (h:∀a∈A,a∈B):∀{u:Value},OkU A u->OkU B u:=fun{u} x=>by
 cases u with
 |ref a=>exact h a x
 |none=>trivial
 |bool b=>trivial
 |int i t=>trivial
 |str s t=>trivial
 |bytes b t=>trivial
 |_=>exact False.elim x
theorem relV_toV {A:List Addr} {u:Value} (x:OkU A u):RelV (toV u) u:=by
 cases u with
 |ref a=>rfl
 |none=>rfl
 |bool b=>rfl
 |int i t=>exact⟨t,rfl⟩
 |str s t=>exact⟨t,rfl⟩
 |bytes b t=>exact⟨t,rfl⟩
 |_=>exact False.elim x
theorem vals_toV {A:List Addr}:∀{vs:List Value},(∀u∈vs,OkU A u)->Vals (vs.map toV) vs
 |[],_=>.nil
 |u::r,h=>.cons (relV_toV (h u (List.mem_cons_self ..))) (vals_toV fun x hx=>h x (List.mem_cons_of_mem _ hx))
def ArgOb (h:Heap) (A:List Addr) (a:Addr):Prop:=∃vs:List Value,vs.length<=sizeLine/\(∀u∈vs,OkU A u) /\
 (h.get? a=some {cls:=.type "list",data:=.seq vs.toArray}\/h.get? a=some {cls:=.type "tuple",data:=.seq vs.toArray})
theorem ArgOb.mono {h:Heap} {A B:List Addr} {a:Addr} (k:∀a∈A,a∈B) (x:ArgOb h A a):ArgOb h B a:=by
 obtain⟨vs,h1,h2,h3⟩:=x
 exact⟨vs,h1,fun u hu=>(h2 u hu).mono k,h3⟩
theorem wellAll_len {P:Params} {h:Heap}:∀{vs:List Value} {ds:List WData},WellAll P h vs ds->vs.length=ds.length
 |_,_,.nil=>rfl
 |_,_,.cons _ b=>by
  show _+1=_+1
  rw[wellAll_len b]
theorem well_list {P:Params} {h:Heap} {v:Value} {ds:List WData} (x:Well P h v (.list ds)):∃(a:Addr) (vs:List Value),v=.ref a/\h.get? a=some {cls:=.type "list",data:=.seq vs.toArray}/\WellAll P h vs ds:=by
 cases x with
 |list ho hall=>exact⟨_,_,rfl,ho,hall⟩
theorem well_tuple {P:Params} {h:Heap} {v:Value} {ds:List WData} (x:Well P h v (.tuple ds)):∃(a:Addr) (vs:List Value),v=.ref a/\h.get? a=some {cls:=.type "tuple",data:=.seq vs.toArray}/\WellAll P h vs ds:=by
 cases x with
 |tuple ho hall=>exact⟨_,_,rfl,ho,hall⟩
theorem well_cons {P:Params} {h:Heap} {us:List Value} {d:WData} {ds:List WData} (x:WellAll P h us (d::ds)):∃(v:Value) (vs:List Value),us=v::vs/\Well P h v d/\WellAll P h vs ds:=by
 cases x with
 |cons a b=>exact⟨_,_,rfl,a,b⟩
theorem line_of {n:Nat} (h:n<=1048576):n<=sizeLine:=Nat.le_trans h (by decide)
section
variable {P:Params} {h:Heap}
mutual
theorem area_one:∀(d:WData) (v:Value),Well P h v d->plW d=true->d.weight<=1048576->∃A:List Addr,OkU A v/\∀a∈A,ArgOb h A a
 |.none,_,x,_,_=>by
  cases x
  exact⟨[],trivial,fun a m=>absurd m (by simp)⟩
 |.bool b,_,x,_,_=>by
  cases x
  exact⟨[],trivial,fun a m=>absurd m (by simp)⟩
 |.int i,_,x,_,_=>by
  cases x
  exact⟨[],trivial,fun a m=>absurd m (by simp)⟩
 |.str s,_,x,_,_=>by
  cases x
  exact⟨[],trivial,fun a m=>absurd m (by simp)⟩
 |.bytes b,_,x,_,_=>by
  cases x
  exact⟨[],trivial,fun a m=>absurd m (by simp)⟩
 |.list ds,_,x,p,z=>by
  obtain⟨a,vs,rfl,ho,hall⟩:=well_list x
  have z2:WData.weightAll ds<=1048576:=z
  obtain⟨A,h1,h2⟩:=area_all ds _ hall p fun d hd=>Nat.le_trans (weight_mem hd) z2
  have k:∀b∈A,b∈a::A:=fun b hb=>List.mem_cons_of_mem _ hb
  refine⟨a::A,List.mem_cons_self ..,fun b hb=>?_⟩
  rcases List.mem_cons.mp hb with e|m
  ·rw[e]
   exact⟨vs,line_of (by rw[wellAll_len hall];exact Nat.le_trans (PySem.W.length_le_weightAllW ds) z2),fun u hu=>(h1 u hu).mono k,.inl ho⟩
  ·exact(h2 b m).mono k
 |.tuple ds,_,x,p,z=>by
  obtain⟨a,vs,rfl,ho,hall⟩:=well_tuple x
  have z2:WData.weightAll ds<=1048576:=z
  obtain⟨A,h1,h2⟩:=area_all ds _ hall p fun d hd=>Nat.le_trans (weight_mem hd) z2
  have k:∀b∈A,b∈a::A:=fun b hb=>List.mem_cons_of_mem _ hb
  refine⟨a::A,List.mem_cons_self ..,fun b hb=>?_⟩
  rcases List.mem_cons.mp hb with e|m
  ·rw[e]
   exact⟨vs,line_of (by rw[wellAll_len hall];exact Nat.le_trans (PySem.W.length_le_weightAllW ds) z2),fun u hu=>(h1 u hu).mono k,.inr ho⟩
  ·exact(h2 b m).mono k
 |.float _,_,_,p,_=>Bool.noConfusion (show false=true from p)
 |.dict _,_,_,p,_=>Bool.noConfusion (show false=true from p)
 |.bytearray _,_,_,p,_=>Bool.noConfusion (show false=true from p)
 |.set _,_,_,p,_=>Bool.noConfusion (show false=true from p)
 |.frozenset _,_,_,p,_=>Bool.noConfusion (show false=true from p)
 |.obj _ _,_,_,p,_=>Bool.noConfusion (show false=true from p)
theorem area_all:∀(ds:List WData) (vs:List Value),WellAll P h vs ds->plWs ds=true->(∀d∈ds,d.weight<=1048576)->∃A:List Addr,(∀u∈vs,OkU A u)/\∀a∈A,ArgOb h A a
 |[],_,x,_,_=>by
  cases x
  exact⟨[],fun u m=>absurd m (by simp),fun a m=>absurd m (by simp)⟩
 |d::ds,_,x,p,z=>by
  obtain⟨v,vs,rfl,x1,x2⟩:=well_cons x
  have q:plW d=true/\plWs ds=true:=Bool.and_eq_true_iff.mp p
  obtain⟨A,a1,a2⟩:=area_one d v x1 q.1 (z d (List.mem_cons_self ..))
  obtain⟨B,b1,b2⟩:=area_all ds vs x2 q.2 fun e he=>z e (List.mem_cons_of_mem _ he)
  have kA:∀b∈A,b∈A++B:=fun b hb=>List.mem_append.mpr (.inl hb)
  have kB:∀b∈B,b∈A++B:=fun b hb=>List.mem_append.mpr (.inr hb)
  refine⟨A++B,fun u hu=>?_,fun b hb=>?_⟩
  ·rcases List.mem_cons.mp hu with e|m
   ·rw[e]
    exact a1.mono kA
   ·exact(b1 u m).mono kB
  ·rcases List.mem_append.mp hb with m|m
   ·exact(a2 b m).mono kA
   ·exact(b2 b m).mono kB
end
end
def hoOf (o:Obj):Option HO:=match o.data with
 |.seq vs _=>if(o.cls==Value.type "list")=true then some (.frz o (.lst (vs.toList.map toV)))else some (.frz o (.tup (vs.toList.map toV)))
 |_=>none
def argH (K:PySem.W.Frag) (h:Heap) (A:List Addr):Hp:=fun b=>if b∈A then(if(K.lookup b).isNone=true then(h.get? b).bind hoOf else none)else none
def OnlyF (H:Hp):Prop:=∀b,H b=none\/∃o u,H b=some (.frz o u)
theorem hoOf_lst (vs:List Value):hoOf {cls:=.type "list",data:=.seq vs.toArray}=some (.frz {cls:=.type "list",data:=.seq vs.toArray} (.lst (vs.map toV))):=by
 show(if(Value.type "list"==Value.type "list")=true then some (HO.frz {cls:=.type "list",data:=.seq vs.toArray} (.lst (vs.toArray.toList.map toV)))else some (HO.frz {cls:=.type "list",data:=.seq vs.toArray} (.tup (vs.toArray.toList.map toV))))=_
 rw[if_pos (beq_self_eq_true _)]
theorem hoOf_tup (vs:List Value):hoOf {cls:=.type "tuple",data:=.seq vs.toArray}=some (.frz {cls:=.type "tuple",data:=.seq vs.toArray} (.tup (vs.map toV))):=by
 show(if(Value.type "tuple"==Value.type "list")=true then some (HO.frz {cls:=.type "tuple",data:=.seq vs.toArray} (.lst (vs.toArray.toList.map toV)))else some (HO.frz {cls:=.type "tuple",data:=.seq vs.toArray} (.tup (vs.toArray.toList.map toV))))=_
 rw[if_neg (by decide)]
section
variable {P:Program} {w:World} {K:PySem.W.Frag} {h:Heap} {A:List Addr}
theorem argH_at {b:Addr} {o:Obj} (hb:b∈A) (hk:K.lookup b=none) (e:h.get? b=some o):argH K h A b=hoOf o:=by
 unfold argH
 rw[if_pos hb,hk,if_pos (show(none:Option Obj).isNone=true from rfl),e]<;>rfl
theorem of_argH {b:Addr} {u:HO} (q:argH K h A b=some u):b∈A/\K.lookup b=none:=by
 unfold argH at q
 by_cases hb:b∈A
 ·rw[if_pos hb]at q
  cases hk:K.lookup b with
  |none=>exact⟨hb,rfl⟩
  |some o=>
   rw[hk,if_neg (by simp)]at q
   cases q
 ·rw[if_neg hb]at q
  cases q
theorem argH_is (ar:∀a∈A,ArgOb h A a) {b:Addr} {u:HO} (q:argH K h A b=some u):K.lookup b=none/\∃vs:List Value,vs.length<=sizeLine/\(∀u∈vs,OkU A u) /\
  ((h.get? b=some {cls:=.type "list",data:=.seq vs.toArray}/\u=.frz {cls:=.type "list",data:=.seq vs.toArray} (.lst (vs.map toV))) \/
   (h.get? b=some {cls:=.type "tuple",data:=.seq vs.toArray}/\u=.frz {cls:=.type "tuple",data:=.seq vs.toArray} (.tup (vs.map toV)))):=by
 obtain⟨hb,hk⟩:=of_argH q
 obtain⟨vs,h1,h2,h3⟩:=ar b hb
 refine⟨hk,vs,h1,h2,?_⟩
 rcases h3 with e|e
 ·rw[argH_at hb hk e,hoOf_lst]at q
  exact .inl ⟨e,(Option.some.inj q).symm⟩
 ·rw[argH_at hb hk e,hoOf_tup]at q
  exact .inr ⟨e,(Option.some.inj q).symm⟩
theorem argH_only (ar:∀a∈A,ArgOb h A a):OnlyF (argH K h A):=fun b=>by
 cases q:argH K h A b with
 |none=>exact .inl rfl
 |some u=>
  obtain⟨_,vs,_,_,⟨_,e⟩|⟨_,e⟩⟩:=argH_is ar q
  ·exact .inr ⟨_,_,by rw[e]⟩
  ·exact .inr ⟨_,_,by rw[e]⟩
theorem argH_ok (ar:∀a∈A,ArgOb h A a):HOk P w (argH K h A) h:=fun b u q=>by
 obtain⟨_,vs,h1,h2,⟨e,rfl⟩|⟨e,rfl⟩⟩:=argH_is ar q
 ·exact⟨e,by rw[List.length_map];exact h1,vs,_,vals_toV h2,e⟩
 ·exact⟨e,by rw[List.length_map];exact h1,vs,vals_toV h2,_,e,rfl,_,rfl⟩
theorem seq_inj {c c':Value} {vs us:List Value} (e:(some {cls:=c,data:=.seq vs.toArray}:Option Obj)=some {cls:=c',data:=.seq us.toArray}):c=c'/\vs=us:=by
 have e1:=Option.some.inj e
 have e2:c=c':=congrArg Obj.cls e1
 have e3:Data.seq vs.toArray=Data.seq us.toArray:=congrArg Obj.data e1
 injection e3 with e4
 refine⟨e2,?_⟩
 have e5:=congrArg Array.toList e4
 simpa using e5
theorem argL (KX:K.In h) (ar:∀a∈A,ArgOb h A a) {a:Addr} {vs:List Value} (ha:a∈A) (e:h.get? a=some {cls:=.type "list",data:=.seq vs.toArray}):(∀u∈vs,OkU A u)/\SqL K (argH K h A) a (vs.map toV):=by
 obtain⟨us,h1,h2,h3⟩:=ar a ha
 have hu:us=vs:=by
  rcases h3 with q|q
  ·rw[e]at q
   exact(seq_inj q).2.symm
  ·rw[e]at q
   exact absurd (Value.type.inj (seq_inj q).1) (by decide)
 subst hu
 refine⟨h2,?_⟩
 cases hk:K.lookup a with
 |none=>exact .inl (.inr ⟨_,by rw[argH_at ha hk e,hoOf_lst]⟩)
 |some o=>
  have e2:=KX a o hk
  rw[e]at e2
  obtain rfl:=Option.some.inj e2
  exact .inr ⟨_,us.toArray,_,hk,rfl,rfl,rfl,by rw[List.size_toArray];exact h1,by simpa using vals_toV h2⟩
theorem argT (KX:K.In h) (ar:∀a∈A,ArgOb h A a) {a:Addr} {vs:List Value} (ha:a∈A) (e:h.get? a=some {cls:=.type "tuple",data:=.seq vs.toArray}):(∀u∈vs,OkU A u)/\SqT K (argH K h A) a (vs.map toV):=by
 obtain⟨us,h1,h2,h3⟩:=ar a ha
 have hu:us=vs:=by
  rcases h3 with q|q
  ·rw[e]at q
   exact absurd (Value.type.inj (seq_inj q).1) (by decide)
  ·rw[e]at q
   exact(seq_inj q).2.symm
 subst hu
 refine⟨h2,?_⟩
 cases hk:K.lookup a with
 |none=>exact .inl (.inr ⟨_,by rw[argH_at ha hk e,hoOf_tup]⟩)
 |some o=>
  have e2:=KX a o hk
  rw[e]at e2
  obtain rfl:=Option.some.inj e2
  exact .inr ⟨_,us.toArray,_,hk,rfl,rfl,by rw[List.size_toArray];exact h1,by simpa using vals_toV h2⟩
mutual
theorem dw_one {Pm:Params} (KX:K.In h) (ar:∀a∈A,ArgOb h A a):∀(d:WData) (v:Value),Well Pm h v d->plW d=true->OkU A v->Dw K (argH K h A) (toV v) d
 |.none,_,x,_,_=>by
  cases x
  exact .non
 |.bool b,_,x,_,_=>by
  cases x
  exact .bl b
 |.int i,_,x,_,_=>by
  cases x
  exact .int i
 |.str s,_,x,_,_=>by
  cases x
  exact .str s
 |.bytes b,_,x,_,_=>by
  cases x
  have z:=Dw.byt (K:=K) (H:=argH K h A) b.toArray
  exact z
 |.list ds,_,x,p,hu=>by
  obtain⟨a,vs,rfl,ho,hall⟩:=well_list x
  obtain⟨h2,hs⟩:=argL KX ar hu ho
  exact .lst hs (dw_all KX ar ds _ hall p h2)
 |.tuple ds,_,x,p,hu=>by
  obtain⟨a,vs,rfl,ho,hall⟩:=well_tuple x
  obtain⟨h2,hs⟩:=argT KX ar hu ho
  exact .tup hs (dw_all KX ar ds _ hall p h2)
 |.float _,_,_,p,_=>Bool.noConfusion (show false=true from p)
 |.dict _,_,_,p,_=>Bool.noConfusion (show false=true from p)
 |.bytearray _,_,_,p,_=>Bool.noConfusion (show false=true from p)
 |.set _,_,_,p,_=>Bool.noConfusion (show false=true from p)
 |.frozenset _,_,_,p,_=>Bool.noConfusion (show false=true from p)
 |.obj _ _,_,_,p,_=>Bool.noConfusion (show false=true from p)
theorem dw_all {Pm:Params} (KX:K.In h) (ar:∀a∈A,ArgOb h A a):∀(ds:List WData) (vs:List Value),WellAll Pm h vs ds->plWs ds=true->(∀u∈vs,OkU A u)->DwAll K (argH K h A) (vs.map toV) ds
 |[],_,x,_,_=>by
  cases x
  exact .nil
 |d::ds,_,x,p,hu=>by
  obtain⟨v,vs,rfl,x1,x2⟩:=well_cons x
  have q:plW d=true/\plWs ds=true:=Bool.and_eq_true_iff.mp p
  exact .cons (dw_one KX ar d v x1 q.1 (hu _ (List.mem_cons_self ..))) (dw_all KX ar ds vs x2 q.2 fun u m=>hu u (List.mem_cons_of_mem _ m))
end
end
theorem spec_call {P:Program} {w:World} {K:PySem.W.Frag} {mg mb:Str->Option Value} {CX:CXT} {k:Nat} {fa:Addr} {fd:FuncData} {ps:List Str} {sp:Sp} {s₁:Shared} {vals:List Value} {ds:List WData} {R:PySem.W.WRecords} {cl:Str->Option Addr} {d0:WData}
  (KX:K.In s₁.heap) (hns:s₁.heap.Ns mainGlobals mg) (hb:s₁.heap.Ns builtinsNs mb) (hbb:∀x:Str,x≠"__name__"->mb x=bootBuiltins x) (hlim:s₁.heap.NoLimit) (hg:s₁.gens=#[])
  (hwl:WellAll w.params s₁.heap vals ds) (hpl:plWs ds=true) (hwt:∀d∈ds,d.weight<=1048576) (hr:Room k callerA)
  (F:∀base:Heap,K.In base->base.Ns mainGlobals mg->FnOk P w K mg base CX k fa fd ps sp) (hbind:∀(s:Shared) (us:List Value),us.length=ps.length->BindsTo s fd ⟨us,[]⟩ (ps.zip us)) (hlen:ds.length=ps.length)
  (hsp:∀(H:Hp) (xs:List V),OnlyF H->DwAll K H xs ds->sp xs H (fun v H'=>Dw K H' v d0) fun _ _ _=>False)
  (hCX:∀H e s',CX [] H s₁ (fun _ _ _=>False) e s'->False) :
  codeAny (model P w) callerA (.call (.ref fa) ⟨vals,[]⟩) (fun r s'=>∃u as,r=.ok (.ret u)/\ReadsW R cl s'.heap u d0 as/\OldK s₁.heap s'.heap/\s'.os=s₁.os/\AllBare s'.gens) s₁:=by
 obtain⟨A,ho,ar⟩:=area_all ds vals hwl hpl hwt
 have hO:OnlyF (argH K s₁.heap A):=argH_only ar
 have hok:HOk P w (argH K s₁.heap A) s₁.heap:=argH_ok ar
 have hS:=dw_all KX ar ds vals hwl hpl ho
 have hV:=vals_toV ho
 have hK:∀b u,argH K s₁.heap A b=some u->K.lookup b=none:=fun b u q=>(argH_is ar q).1
 have noA:∀{b:Addr} {o:Obj} {es:Array DictEntry} {ep:Nat},s₁.heap.get? b=some o->o.data=.dict es ep->argH K s₁.heap A b=none:=fun{b o es ep} e d=>by
  cases q:argH K s₁.heap A b with
  |none=>rfl
  |some u=>
   obtain⟨_,vs,_,_,⟨e2,_⟩|⟨e2,_⟩⟩:=argH_is ar q
   ·rw[e2]at e
    cases e
    have d':Data.seq vs.toArray _=Data.dict es ep:=d
    cases d'
   ·rw[e2]at e
    cases e
    have d':Data.seq vs.toArray _=Data.dict es ep:=d
    cases d'
 generalize argH K s₁.heap A=H at hO hok hS hK noA
 have base_of:∀{b:Addr} {o:Obj},s₁.heap.get? b=some o->H b=none->(hidT s₁.heap H).get? b=some o:=fun e n=>hidT_get e n
 have nsK:∀{b:Addr} {m:Str->Option Value},s₁.heap.Ns b m->(hidT s₁.heap H).Ns b m:=fun{b m} ⟨o,es,ep,e,d,r⟩=>⟨o,es,ep,base_of e (noA e d),d,r⟩
 have nK:∀b o,K.lookup b=some o->H b=none:=fun b o e=>by
  cases q:H b with
  |none=>rfl
  |some u=>
   rw[hK b u q]at e
   cases e
 have hKb:K.In (hidT s₁.heap H):=fun b o e=>base_of (KX b o e) (nK b o e)
 have hM:Mod K mg (hidT s₁.heap H):=⟨hKb,nsK hns,⟨mb,nsK hb,hbb⟩,let⟨mc,h1,h2⟩:=hlim;⟨mc,nsK h1,h2⟩⟩
 have e0:Env0 P w K mg (hidT s₁.heap H) callerA [] s₁ H:=⟨rfl,hM,fun b o e=>of_hidT e,Nat.le_of_eq (hidT_size _ _),trivial,fun b hb=>absurd (show b∈([]:List Addr)from hb) (by simp),hok,.of_eq hg⟩
 have hl:vals.length=ps.length:=by rw[wellAll_len hwl];exact hlen
 refine codeAny_mono ((F _ hKb (nsK hns)).run callerA [] s₁ H ⟨vals,[]⟩ vals (vals.map toV) _ _ hr e0 (hbind s₁ vals hl) hV (hsp H _ hO hS)) fun r s' x=>?_
 cases r with
 |error e=>exact(hCX H e s' x).elim
 |ok fl=>
  cases fl with
  |next=>exact False.elim x
  |brk=>exact False.elim x
  |cont=>exact False.elim x
  |ret u=>
   obtain⟨v,H',os,bare,un,hok',r',q⟩:=x
   have kept:∀b o,s₁.heap.get? b=some o->s'.heap.get? b=some o:=fun b o e=>by
    cases q2:H b with
    |none=>exact un.keep b o e q2 (by intro z;exact absurd (show b∈([]:List Addr)from z) (by simp)) (by simp)
    |some u2=>
     rcases hO b with z|⟨ob,u3,z⟩
     ·rw[q2]at z
      cases z
     ·have z2:=un.frzs b ob _ z
      obtain⟨e1,_⟩:=hok b _ z
      obtain⟨e2,_⟩:=hok' b _ z2
      rw[e]at e1
      cases e1
      exact e2
   have KX':K.In s'.heap:=fun b o e=>kept b o (KX b o e)
   obtain⟨as,hrd⟩:=Dw.reads (R:=R) (cl:=cl) hok' KX' d0 v u q r'
   exact⟨u,as,rfl,hrd,OldK.of_keep kept,os,bare⟩
theorem layable_weight {ds:List WData} (h:WData.layableAll ds=true):∀d∈ds,d.weight<=1048576:=fun d hd=>
 (PySem.W.layableW_iff.mp (List.all_eq_true.mp h d hd)).2.2
theorem encAll_len:∀(cs:List Codec) (a:Codec.denoteAll cs),(Codec.encAll cs a).length=cs.length
 |[],_=>rfl
 |c::cs,a=>by
  show(Codec.encAll cs a.2).length+1=cs.length+1
  rw[encAll_len cs a.2]
theorem walk_spec {r:OpenSpec} {k:Nat} {q:Program} {loose:List Str} {XP:(Str->Option Value)->Heap->Prop} {YP:World->Heap->Prop} {d:DefRec} {K:Params->PySem.W.Frag} {CX:World->CXT} {ps:List Str} {sp:World->Sp}
  (hwell:r.wellSaid=true) (hdf:d.params.defaults=[]) (hlen:r.args.length=ps.length) (hr:Room k callerA)
  (hY:∀(w:World) (h:Heap),YP w h->(K w.params).In h)
  (F:∀(w:World) (mg:Str->Option Value) (fa:Addr) (h:Heap),YP w h->(K w.params).In h->h.Ns mainGlobals mg->mg d.name=some (.ref fa) ->
   ∃fd:FuncData,(∀(s:Shared) (us:List Value),us.length=ps.length->BindsTo s fd ⟨us,[]⟩ (ps.zip us)) /\
    ∀base:Heap,(K w.params).In base->base.Ns mainGlobals mg->FnOk r.prog w (K w.params) mg base (CX w) k fa fd ps (sp w))
  (hsp:∀(w:World) (H:Hp) (xs:List V) (a:Codec.denoteAll r.args),OnlyF H->Codec.withinAll r.args a=true->Codec.app r.args r.asked a=true->DwAll (K w.params) H xs (Codec.encAll r.args a) ->
   sp w xs H (fun v H'=>Dw (K w.params) H' v (r.ret.enc (Codec.app r.args r.f a))) fun _ _ _=>False)
  (hCX:∀(w:World) (H:Hp) (s:Shared) (e:Value) (s':Shared),CX w [] H s (fun _ _ _=>False) e s'->False) :
  PySem.W.WalkOS q loose XP YP r d [] (fun f vs=>PySem.call f vs):=by
 intro w s_0 s₁ mg mb G Y fa o pm cd doc dV kV ho hd hcd hD hmg hg args vals as hpre hlay hrd hwl hlo
 obtain⟨a,e1,e2⟩:=PySem.W.os_pre_some hpre
 obtain⟨e3,hwi⟩:=Codec.encAll_of_decAll r.args args a e1
 subst e3
 have KX:=hY w _ Y
 obtain⟨fd,hb,hF⟩:=F w mg fa _ Y KX G.T.g hmg
 refine PySem.W.enter_call (codeAny_mono (spec_call (R:=[]) (cl:=classAt s_0.heap) (d0:=r.ret.enc (Codec.app r.args r.f a)) KX G.T.g G.T.b G.T.builtins G.T.nolimit hg hwl (pl_encAll _ _) (layable_weight hlay) hr hF hb (by rw[encAll_len];exact hlen)
  (fun H xs hO hS=>hsp w H xs a hO hwi e2 hS) fun H e s'=>hCX w H s₁ e s') fun r' s' hq=>?_)
 obtain⟨u,as',rfl,h1,h2,h3,h4⟩:=hq
 exact⟨.inl ⟨u,_,as',rfl,fun _=>rfl,h1,(OpenSpec.post_iff hwell hwi _ _).mpr rfl,fun z=>Bool.noConfusion (show false=true from z)⟩,h2,h3,h4⟩
theorem walk_specK {r:OpenSpec} {k:Nat} {q:Program} {loose:List Str} {XP:(Str->Option Value)->Heap->Prop} {YP:World->Heap->Prop} {d:DefRec} {K:Params->PySem.W.Frag} {CX:CXT} {ps:List Str} {sp:PySem.W.Frag->Sp}
  (hwell:r.wellSaid=true) (hdf:d.params.defaults=[]) (hlen:r.args.length=ps.length) (hr:Room k callerA)
  (hY:∀(w:World) (h:Heap),YP w h->(K w.params).In h)
  (F:∀(w:World) (mg:Str->Option Value) (fa:Addr) (h:Heap),YP w h->(K w.params).In h->h.Ns mainGlobals mg->mg d.name=some (.ref fa) ->
   ∃fd:FuncData,(∀(s:Shared) (us:List Value),us.length=ps.length->BindsTo s fd ⟨us,[]⟩ (ps.zip us)) /\
    ∀base:Heap,(K w.params).In base->base.Ns mainGlobals mg->FnOk r.prog w (K w.params) mg base CX k fa fd ps (sp (K w.params)))
  (hsp:∀(K:PySem.W.Frag) (H:Hp) (xs:List V) (a:Codec.denoteAll r.args),OnlyF H->Codec.withinAll r.args a=true->Codec.app r.args r.asked a=true->DwAll K H xs (Codec.encAll r.args a) ->
   sp K xs H (fun v H'=>Dw K H' v (r.ret.enc (Codec.app r.args r.f a))) fun _ _ _=>False)
  (hCX:∀(H:Hp) (s:Shared) (e:Value) (s':Shared),CX [] H s (fun _ _ _=>False) e s'->False) :
  PySem.W.WalkOS q loose XP YP r d [] (fun f vs=>PySem.call f vs):=
 walk_spec (K:=K) (CX:=fun _=>CX) (sp:=fun w=>sp (K w.params)) hwell hdf hlen hr hY F (fun w H xs a h1 h2 h3 h4=>hsp (K w.params) H xs a h1 h2 h3 h4) fun _ H s e s'=>hCX H s e s'
end L2
end
end
section
namespace L2
open PySem PySem.Spec PyProof.Rows
def CX1 (P:Program) (w:World) (C:Addr):CXT:=fun outer H s E e s'=>
 ∃(a:Addr) (a0:Value) (B:Heap) (H':Hp),e=.ref a/\s'.os=s.os/\AllBare s'.gens/\Un (frs outer) [] H H' s.heap s'.heap/\HOk P w H' s'.heap /\
  Heap.FlyingW B outer a (.ref C) a0 s'.heap/\(∀b o,s'.heap.get? b=some o->(H' b).isSome=true->B.get? b=some o) /\
  (∀b o,s.heap.get? b=some o->H b=none->b ∉ frs outer->B.get? b=some o) /\
  (∀b o,s.heap.get? b=some o->b ∉ frs outer->∃o',B.get? b=some o')/\E (.ref C) none H'
theorem objOk_there {P:Program} {w:World} {H:Hp} {h:Heap} {b:Addr} {u:HO} (x:ObjOk P w H h b u):∃o,h.get? b=some o:=by
 cases u with
 |lst xs=>obtain⟨_,_,_,_,r⟩:=x;exact⟨_,r⟩
 |tup xs=>obtain⟨_,_,_,o3,r,_⟩:=x;exact⟨_,r⟩
 |dK kvs=>obtain⟨_,_,_,_,_,_,_,r,_⟩:=x;exact⟨_,r⟩
 |dT kvs=>obtain⟨_,_,_,_,_,_,_,r,_⟩:=x;exact⟨_,r⟩
 |set S n=>obtain⟨_,_,_,_,r,_⟩:=x;exact⟨_,r⟩
 |ins C dx fs=>obtain⟨_,_,_,r,_⟩:=x;exact⟨_,r⟩
 |own y=>obtain⟨_,r⟩:=x;exact⟨_,r⟩
 |xd fs=>obtain⟨_,⟨_,_,_,r,_⟩,_⟩:=x;exact⟨_,r⟩
 |rng lo hi=>obtain⟨_,_,_,r⟩:=x;exact⟨_,r⟩
 |frz ob u=>obtain⟨r,_⟩:=x;exact⟨_,r⟩
 |tbl ps=>have r:h.get? b=some _:=x;exact⟨_,r⟩
 |met f y=>have r:h.get? b=some _:=x;exact⟨_,r⟩
 |ext φ=>obtain⟨_,⟨_,r⟩,_⟩:=x;exact⟨_,r⟩
structure Leaves (C:Addr) (E:XK) (X:Cx):Prop where
 xe:X.xe=fun e s'=>wpAny (model X.prog X.w) X.A (leaving X.env e) (fun _ s''=>CX1 X.prog X.w C X.outer X.H_0 X.s_0 E e s'') (fun e' s''=>CX1 X.prog X.w C X.outer X.H_0 X.s_0 E e' s'') s'
 ex:X.ex=[]
 stk:X.stack=X.env::X.outer
 fr:X.env.frame=some X.env.locals
theorem leaves_def {P:Program} {w:World} {K:PySem.W.Frag} {mg:Str->Option Value} {base:Heap} {N:List Str} {qual:Str} {scope:Scope} {f:Addr} {cd:Value} {A:Around} {outer:List Env} {s:Shared} {H:Hp} {E:XK} {C:Addr} :
  Leaves C E (cxOf (CX1 P w C) P w K mg base N qual scope f cd A outer s H E):=⟨rfl,rfl,rfl,rfl⟩
section
variable {X:Cx} {pins:List (Addr×Obj)} {σ:St} {H H':Hp} {s s':Shared} {C:Addr} {E:XK}
theorem frs_cons (L:Leaves C E X):frs X.stack=X.env.locals::X.fs:=by
 rw[L.stk]
 unfold frs Cx.fs
 rw[List.filterMap_cons,L.fr]
 rfl
theorem flies_on (L:Leaves C E X) (I:Inv X pins σ H s) {e:Value} (h:CX1 X.prog X.w C X.stack H s E e s'):X.xe e s':=by
 obtain⟨a,a0,B,H',rfl,os,bare,un,hok,fl,trk,kep,the,hE⟩:=h
 rw[L.xe]
 have fl':=fl
 rw[L.stk]at fl'
 have hfrm:X.A.frames=some (X.env::X.outer):=by rw[<-L.stk];exact I.ok.frames
 refine wpAny_leaves_onW hfrm L.fr fl' fun h2 fl2 up=>?_
 have e0:frs X.stack=X.env.locals::X.fs:=frs_cons L
 have exn:∀b:Addr,b ∉ X.ex:=fun b z=>by rw[L.ex]at z;exact absurd z (by simp)
 have young:∀b o,X.s_0.heap.get? b=some o->b≠X.env.locals:=fun b o q=>Nat.ne_of_lt (Nat.lt_of_lt_of_le (Heap.lt_size q) I.ok.above)
 have nst:∀b o,X.s_0.heap.get? b=some o->b ∉ X.fs->b ∉ frs X.stack:=fun b o q n z=>by
  rw[e0]at z
  rcases List.mem_cons.mp z with r|r
  ·exact young b o q r
  ·exact n r
 have tk2:∀b o,s'.heap.get? b=some o->(H' b).isSome=true->h2.get? b=some o:=fun b o q t=>fl2.1 b o (trk b o q t)
 refine⟨a,a0,B,H',rfl,os.trans I.os,bare,⟨fun b o q n hb _=>?_,fun b o q n hb _=>?_,fun b o q n _=>?_,fun b o q _=>?_,fun b xs q=>un.tups b xs (I.base.tups b xs q),fun b o u q=>un.frzs b o u (I.base.frzs b o u q),fun b ps q=>?_⟩,?_,fl2,?_,?_,?_,hE⟩
 ·exact fl2.1 b o (kep b o (I.base.keep b o q n hb (exn b)) (I.base.free b o q n (exn b)) (nst b o q hb))
 ·obtain⟨sl,q1⟩:=I.base.slot b o q n hb (exn b)
  have n1:=I.base.free b o q n (exn b)
  obtain⟨sl2,q2⟩:=un.slot b _ q1 n1 (by rw[e0];exact List.mem_cons_of_mem _ hb) (by simp)
  obtain⟨_,o2,q3,d3⟩:=fl'.2.2.1.mem (List.mem_filterMap.mpr (by
   obtain⟨env,he,hf⟩:=List.mem_filterMap.mp hb
   exact⟨env,List.mem_cons_of_mem _ he,hf⟩))
  rw[q2]at q3
  cases q3
  obtain⟨sl3,q4⟩:=up b _ q2 d3
  exact⟨sl3,q4⟩
 ·obtain⟨o1,q1⟩:=I.base.there b o q (exn b)
  exact un.free b o1 q1 (I.base.free b o q n (exn b)) (by simp)
 ·by_cases hb:b∈X.fs
  ·obtain⟨sl,q1⟩:=I.base.slot b o q (by
    cases z:X.H_0 b with
    |none=>rfl
    |some u=>have:=I.ok.frf b hb;rw[z]at this;cases this) hb (exn b)
   have n1:=I.base.free b o q (I.ok.frf b hb) (exn b)
   obtain⟨sl2,q2⟩:=un.slot b _ q1 n1 (by rw[e0];exact List.mem_cons_of_mem _ hb) (by simp)
   obtain⟨_,o2,q3,d3⟩:=fl'.2.2.1.mem (List.mem_filterMap.mpr (by
    obtain⟨env,he,hf⟩:=List.mem_filterMap.mp hb
    exact⟨env,List.mem_cons_of_mem _ he,hf⟩))
   rw[q2]at q3
   cases q3
   obtain⟨sl3,q4⟩:=up b _ q2 d3
   exact⟨_,q4⟩
  ·obtain⟨o1,q1⟩:=I.base.there b o q (exn b)
   obtain⟨o2,q2⟩:=the b o1 q1 (nst b o q hb)
   exact⟨o2,fl2.1 b o2 q2⟩
 ·obtain⟨m1,q1⟩:=I.base.tbls b ps q
  obtain⟨m2,q2⟩:=un.tbls b _ q1
  exact⟨m1++m2,by rw[q2,Array.append_assoc]⟩
 ·intro b o q
  refine(hok b o q).stay (fun c u hc r=>tk2 c u r ?_) (fun _ z=>z) fun _ _ z=>z
  rcases hc with z|z
  ·rw[z,q];rfl
  ·rw[z];rfl
 ·intro b o q t
  cases z:H' b with
  |none=>rw[z]at t;cases t
  |some u=>
   obtain⟨o1,q1⟩:=objOk_there (hok b u z)
   have q2:=trk b o1 q1 t
   have q3:=fl2.1 b o1 q2
   rw[q]at q3
   cases q3
   exact q2
 ·exact fun b o q n hb=>kep b o (I.base.keep b o q n hb (exn b)) (I.base.free b o q n (exn b)) (nst b o q hb)
 ·intro b o q hb
  obtain⟨o1,q1⟩:=I.base.there b o q (exn b)
  exact the b o1 q1 (nst b o q hb)
theorem passes1 (L:Leaves C E X):Passes (CX1 X.prog X.w C) X E:=fun _ _ _ _ _ _ I h=>flies_on L I h
end
section
variable {X:Cx} {C:Addr} {E:XK}
theorem ps_raise {x:Str} {np cpos pos:Pos} {bmB:List Value} {Bn newId initId:String} (L:Leaves C E X) (hc:X.calm=true) (hg:Gl X x) (hm:X.mg x=some (.ref C)) (hq:PySem.W.excIn X.K C bmB newId=true)
  (FB:ExcBaseFacts Bn newId initId bmB) (hd:(x==("__debug__":Str))=false:=by decide) :
  PS X (.Raise (some (.Call (.Name x np) [] [] cpos)) none pos) (fun _ _ H=>E (.ref C) none H):=by
 intro pins s σ H D I h
 obtain⟨tl,N,nm,q,bs,hdct,sn,sub,ab,col,dd,k0,k1,k2,k3,k5,mN,hC,hN,hni,T⟩:∃bm N nm q bs hdct sn sub ab col dd k0 k1 k2 k3 k5 mN,
   s.heap.get? C=some (excClassObj nm q C N bs bm hdct sn sub ab col dd k0 k1 k2 k3 k5 newId)/\s.heap.Ns N mN/\mN "__init__"=none/\OwnTail s.heap bmB bm:=by
  have Y:=I.kIn
  unfold PySem.W.excIn at hq
  split at hq
  ·rename_i dd cd sl ho
   split at hq
   ·rename_i C' bm k0 k1 k2 k3 n k5 hmr hs
    simp only[Bool.and_eq_true,beq_iff_eq,Bool.not_eq_true']at hq
    obtain⟨⟨⟨⟨⟨z1,z2⟩,z3⟩,z4⟩,z5⟩,z6⟩:=hq
    subst z1 z2
    obtain⟨nm,bs,mro,ns,qn,hdi,sn,sub,ab,col,del⟩:=cd
    dsimp only at hmr z3 z5 z6
    subst hmr z3
    have hsl:sl=#[k0,k1,k2,k3,some (.builtin n),k5]:=by
     obtain⟨l⟩:=sl
     exact congrArg Array.mk hs
    subst hsl
    exact⟨bm,ns,nm,qn,bs,hdi,sn,sub,ab,col,dd,k0,k1,k2,k3,k5,_,Y _ _ ho,.of_isNs (PySem.W.isNs_of_in Y z5),PySem.W.nsMap_none_of_in Y z5 z6,PySem.W.tail_of_in Y z4⟩
   ·cases hq
  ·cases hq
 refine wpAny_Raise_call_subT (C:=C) (nm:=nm) (q:=q) (N:=N) (bs:=bs) (bm:=tl) (hdct:=hdct) (sn:=sn) (sub:=sub) (ab:=ab) (col:=col) (dd:=dd) (k0:=k0) (k1:=k1) (k2:=k2) (k3:=k3) (k5:=k5)
  FB (mN:=mN) (T.hasType FB.hasBase) (I.ok.hd hc) rfl hni (ld_glob I hg hm ⟨rfl,?_⟩ hd)
 refine evalArgs_empty ⟨rfl,Nat.zero_le _,hC,hN,T,fun h1 e me=>?_⟩
 rw[L.xe]
 have hfrm:X.A.frames=some (X.env::X.outer):=by rw[<-L.stk];exact I.ok.frames
 have e0:frs X.stack=X.env.locals::X.fs:=frs_cons L
 have ff:s.heap.FunFrames X.base (X.env::X.outer):=by have:=I.stack;rw[L.stk]at this;exact this
 have fin:∀env∈(X.env::X.outer),∀b,env.frame=some b->b∈frs (X.env::X.outer):=fun env he b hb=>List.mem_filterMap.mpr ⟨env,he,hb⟩
 refine wpAny_leaves_madeW (base:=PySem.W.hideAll s.heap (frs (X.env::X.outer))) (h:=s.heap) hfrm L.fr (fun b o z=>PySem.W.of_hideAll _ z) (PySem.W.funFrames_hide ff fin) me fun h2 t fl tup tn up=>?_
 have exn:∀b:Addr,b ∉ X.ex:=fun b z=>by rw[L.ex]at z;exact absurd z (by simp)
 rw[<-L.stk]at fl
 have young:∀b o,X.s_0.heap.get? b=some o->b≠X.env.locals:=fun b o z=>Nat.ne_of_lt (Nat.lt_of_lt_of_le (Heap.lt_size z) I.ok.above)
 have nst:∀b o,X.s_0.heap.get? b=some o->b ∉ X.fs->b ∉ frs X.stack:=fun b o z n r=>by
  rw[e0]at r
  rcases List.mem_cons.mp r with r|r
  ·exact young b o z r
  ·exact n r
 have gr:∀b o,s.heap.get? b=some o->b ∉ frs X.stack->(PySem.W.hideAll s.heap (frs X.stack)).get? b=some o:=fun b o z n=>PySem.W.hideAll_get _ z n
 have keep2:∀b o,s.heap.get? b=some o->b ∉ frs X.stack->h2.get? b=some o:=fun b o z n=>fl.1 b o (gr b o z n)
 have trn:∀b o,H b=some o->b ∉ frs X.stack:=fun b o z r=>by rw[I.stkFree b r]at z;cases z
 have up2:∀b o,s.heap.get? b=some o->b∈X.fs->∃sl,h2.get? b=some {o with slots:=sl}:=fun b o z r=>by
  obtain⟨_,o2,q3,d3⟩:=I.funs.mem r
  rw[z]at q3
  cases q3
  exact up b o (me.keeps b o z) d3
 refine⟨e,.ref t,PySem.W.hideAll s.heap (frs X.stack),H,rfl,I.os,I.bare,⟨fun b o z n hb _=>?_,fun b o z n hb _=>?_,fun b o z n _=>I.base.free b o z n (exn b),fun b o z _=>?_,I.base.tups,I.base.frzs,I.base.tbls⟩,?_,fl,?_,?_,?_,h⟩
 ·exact keep2 b o (I.base.keep b o z n hb (exn b)) (nst b o z hb)
 ·obtain⟨sl,z1⟩:=I.base.slot b o z n hb (exn b)
  obtain⟨sl2,z2⟩:=up2 b _ z1 hb
  exact⟨sl2,z2⟩
 ·obtain⟨o1,z1⟩:=I.base.there b o z (exn b)
  by_cases hb:b∈X.fs
  ·obtain⟨sl,z2⟩:=up2 b o1 z1 hb
   exact⟨_,z2⟩
  ·exact⟨o1,keep2 b o1 z1 (nst b o z hb)⟩
 ·intro b o z
  refine(I.hok b o z).stay (fun c u hc r=>keep2 c u r ?_) (fun _ r=>r) fun _ _ r=>r
  rcases hc with r1|r1
  ·rw[r1];exact trn b o z
  ·exact trn c _ r1
 ·intro b o z t1
  cases z1:H b with
  |none=>rw[z1]at t1;cases t1
  |some u=>
   have nf:=trn b u z1
   obtain⟨o1,z2⟩:=objOk_there (I.hok b u z1)
   have z3:=keep2 b o1 z2 nf
   rw[z]at z3
   cases z3
   exact gr b o z2 nf
 ·exact fun b o z n hb=>gr b o (I.base.keep b o z n hb (exn b)) (nst b o z hb)
 ·intro b o z hb
  obtain⟨o1,z1⟩:=I.base.there b o z (exn b)
  exact⟨o1,gr b o1 z1 (nst b o z hb)⟩
end
abbrev Cx.caught (X:Cx) (e:Value):Cx:={X with A:=X.A.mark (some e),calm:=false}
section
variable {X:Cx} {pins:List (Addr×Obj)} {σ:St} {H:Hp} {s:Shared}
theorem Inv.caught (I:Inv X pins σ H s) (e:Value):Inv (X.caught e) pins σ H s:=
 ⟨⟨I.ok.mod,I.ok.kind,I.ok.glob,I.ok.blt,I.ok.above,I.ok.inj,I.ok.has,I.ok.cab,(fun z=>nomatch z),I.ok.frames,I.ok.stk,I.ok.exf,I.ok.bs,I.ok.bsz,I.ok.noex,I.ok.exfs,I.ok.funs,I.ok.frf⟩,
  I.os,I.bare,I.base,I.loc,I.cell,I.free,I.freeC,I.pin,I.hok,I.len⟩
theorem Inv.uncaught {e:Value} (hd:X.calm=true->X.A.handled=none) (I:Inv (X.caught e) pins σ H s):Inv X pins σ H s:=
 ⟨⟨I.ok.mod,I.ok.kind,I.ok.glob,I.ok.blt,I.ok.above,I.ok.inj,I.ok.has,I.ok.cab,hd,I.ok.frames,I.ok.stk,I.ok.exf,I.ok.bs,I.ok.bsz,I.ok.noex,I.ok.exfs,I.ok.funs,I.ok.frf⟩,
  I.os,I.bare,I.base,I.loc,I.cell,I.free,I.freeC,I.pin,I.hok,I.len⟩
theorem Inv.landed {s':Shared} {B:Heap} {H':Hp} {a C:Addr} {a0:Value} {h2:Heap} (I:Inv X pins σ H s) (hst:X.stack=X.env::X.outer) (hfr:X.env.frame=some X.env.locals)
  (os:s'.os=s.os) (bare:AllBare s'.gens) (un:Un (frs X.stack) [] H H' s.heap s'.heap) (hok:HOk X.prog X.w H' s'.heap)
  (trk:∀b o,s'.heap.get? b=some o->(H' b).isSome=true->B.get? b=some o) (kep:∀b o,s.heap.get? b=some o->H b=none->b ∉ frs X.stack->B.get? b=some o)
  (the:∀b o,s.heap.get? b=some o->b ∉ frs X.stack->∃o',B.get? b=some o') (fl:Heap.FlyingW B X.stack a (.ref C) a0 s'.heap) (st:B.StaysIn h2) (up:s'.heap.UpToSlots h2):Inv X pins σ H' {s' with heap:=h2}:=by
 have slots:∀b o,s.heap.get? b=some o->H b=none->b∈frs X.stack->∃sl,h2.get? b=some {o with slots:=sl}:=fun b o q n m=>by
  obtain⟨sl,q1⟩:=un.slot b o q n m (by simp)
  obtain⟨_,o2,q2,d2⟩:=fl.2.2.1.mem m
  rw[q1]at q2
  cases q2
  obtain⟨sl2,q3⟩:=up b _ q1 d2
  exact⟨sl2,q3⟩
 have un2:Un (frs X.stack) [] H H' s.heap h2:=by
  refine⟨fun b o q n m _=>st b o (kep b o q n m),fun b o q n m _=>slots b o q n m,un.free,fun b o q _=>?_,un.tups,un.frzs,un.tbls⟩
  by_cases m:b∈frs X.stack
  ·obtain⟨sl,q1⟩:=slots b o q (I.stkFree b m) m
   exact⟨_,q1⟩
  ·obtain⟨o1,q1⟩:=the b o q m
   exact⟨o1,st b o1 q1⟩
 have hok2:HOk X.prog X.w H' h2:=fun b o q=>by
  refine(hok b o q).stay (fun c u hc r=>st c u (trk c u r ?_)) (fun _ z=>z) fun _ _ z=>z
  rcases hc with z|z
  ·rw[z,q];rfl
  ·rw[z];rfl
 exact I.call' (s':={s' with heap:=h2}) (ch:=[]) os un2 hok2 bare fun b z=>absurd z (by simp)
end
section
variable {X:Cx} {C f:Addr} {k:Nat} {fd:FuncData} {ps:List Str} {sp:Sp} {t:TA} {th:TS} {i:Nat} {x y cn:Str} {e:Expr} {es:List Expr} {px py cpos apos np hpos pos:Pos} {b0:Stmt} {suite:List Stmt}
def tTry (sp:Sp) (i:Nat) (t:TA) (th:TS):TS:=fun D σ H=>t σ H fun vs H1=>sp vs H1 (fun v H2=>D.nx (σ.set i (some v)) H2) (fun _ _ H2=>th D σ H2)
theorem ps_tryCall (hxe:X.xe=fun _ _=>False) (hst:X.stack=X.env::X.outer) (hfr:X.env.frame=some X.env.locals) (hcalm:X.calm=true)
  (F:FnOk X.prog X.w X.K X.mg X.base (CX1 X.prog X.w C) k f fd ps sp) (hr:Room k X.A) (hg:Gl X y) (hm:X.mg y=some (.ref f)) (hk:PySem.W.keepIn X.K (.ref f)=true) (hb:Binds X.K fd ps []) (ha:PA X (e::es) t)
  (hN:X.N.Nodup) (hi:X.N[i]?=some x) (hx:Loc X.env.scope x) (hgC:Gl X cn) (hmC:X.mg cn=some (.ref C)) (hcC:PySem.W.ktsIn X.K C "BaseException"=true) (hs:∀ev:Value,PSs (X.caught ev) (b0::suite) th)
  (hsw:swapsWith (.Call (.Name y py) (e::es) [] cpos) (some (.Name x px)) apos.line X.env=pure false:=by rfl)
  (hf:X.fn x=true\/X.env.scope.names.lookup x=some .local:=by first|exact .inl rfl|exact .inr rfl|assumption)
  (hdb:(y==("__debug__":Str))=false:=by decide) (hdc:(cn==("__debug__":Str))=false:=by decide) (he:starEach (e::es) X.env=(false,eval e X.env)::starEach es X.env:=by rfl)
  (hpl:(backTo cpos (starEach es X.env)).any (·.1)=false:=by rfl) :
  PS X (.Try [.Assign [.Name x px] (.Call (.Name y py) (e::es) [] cpos) apos] [.ExceptHandler (some (.Name cn np)) none (b0::suite) hpos] [] [] pos) (tTry sp i t th):=by
 intro pins s σ H D I h
 refine wpAny_Try_except (wpAny_execs_cons (wpAny_Assign_Name ?_ hsw))
 refine wpAny_Call_Name_kw (ld_glob I hg hm ?_ hdb)
 refine PySem.W.callWith_K (h₀:=X.base) I.ok.mod.kin hk (wpAny_mono (ha cpos pins s σ H _ I h) (fun us s1 hq=>?_) fun _ _ z=>by rw[hxe]at z;exact z.elim) he hpl
 obtain⟨vs,H1,I1,rv,q1⟩:=hq
 refine⟨I1.kIn,?_⟩
 have hl:us.length=ps.length:=by rw[<-rv.length];exact F.len _ _ _ _ q1
 have hbt:BindsTo s1 fd ⟨us,[]⟩ (ps.zip us):=by
  have z:=hb s1 us I1.kIn (by rw[List.append_nil];exact hl)
  rw[List.append_nil]at z
  exact z
 refine wpAny_call (codeAny_mono (F.run X.A X.stack s1 H1 ⟨us,[]⟩ us vs _ _ hr I1.env0 hbt rv q1) fun r s2 hq=>?_)
 cases r with
 |ok fl=>
  cases fl with
  |ret u=>
   obtain⟨v,H2,I2,r2,q2⟩:=I1.after hq
   exact store_ok I2 hN hi hx r2 (fun s3 I3=>wpAny_execs_nil (wpAny_execs_nil ⟨_,H2,I3,q2⟩)) hf
  |next=>exact False.elim hq
  |brk=>exact False.elim hq
  |cont=>exact False.elim hq
 |error ev=>
  obtain⟨a,a0,B,H2,rfl,os,bare,un,hok,fl,trk,kep,the,hE⟩:=hq
  have hfrm:X.A.frames=some (X.env::X.outer):=by rw[<-hst];exact I.ok.frames
  have fl':=fl
  rw[hst]at fl'
  refine wpAny_looks_onW hfrm hfr fl' fun h3 held3 up3=>?_
  refine wpAny_landsW held3 fun h4 fl4 up4=>?_
  have I4:Inv X pins σ H2 {s2 with heap:=h4}:=I1.landed hst hfr os bare un hok trk kep the fl fl4.1 (up3.trans up4)
  obtain⟨ob,hob,hobc⟩:=fl4.there
  obtain⟨nm,q',N,bs,bm,hdct,sn,sub,ab,col,dd,k0,k1,k2,k3,k5,newId,hC,hbase,hbT⟩:=PySem.W.kts_cls I4.kIn hcC
  refine wpAny_handleBy_cons (codeAny_handlers_test (ld_glob (I4.caught (.ref a)) hgC hmC ?_ hdc)) (by intro z;cases z)
  refine wpAny_excMatches_sub_self hC hob hobc hbase (codeAny_handlers_suite ?_)
  refine lands_againW fl4 fun h5 fl5 up5=>?_
  have I5:Inv X pins σ H2 {s2 with heap:=h5}:=I1.landed hst hfr os bare un hok trk kep the fl fl5.1 ((up3.trans up4).trans up5)
  have w:=hs (.ref a) pins _ σ H2 D (I5.caught (.ref a)) hE
  refine wpAny_mono w (fun fl s3 q=>?_) fun _ _ z=>?_
  ·have hd:=I5.ok.hd
   show SP X pins D fl s3
   cases fl with
   |next=>obtain⟨σ',H',J,q⟩:=q;exact⟨σ',H',J.uncaught hd,q⟩
   |brk=>obtain⟨σ',H',J,q⟩:=q;exact⟨σ',H',J.uncaught hd,q⟩
   |cont=>obtain⟨σ',H',J,q⟩:=q;exact⟨σ',H',J.uncaught hd,q⟩
   |ret u=>obtain⟨v,σ',H',J,r,q⟩:=q;exact⟨v,σ',H',J.uncaught hd,r,q⟩
  ·have z':X.xe _ _:=z
   rw[hxe]at z'
   exact z'.elim
end
abbrev NItem:=Int ⊕ List Int
inductive NItems (P:Program) (w:World) (h:Heap):List NItem->List Value->Prop
 |nil:NItems P w h [] []
 |int {i:Int} {t:Tok} {ks:List NItem} {vs:List Value}:NItems P w h ks vs->NItems P w h (.inl i::ks) (.int i t::vs)
 |tup {l:List Int} {b:Addr} {ks:List NItem} {vs:List Value}:IsTupleKey (intKind P w) h l b->NItems P w h ks vs->NItems P w h (.inr l::ks) (.ref b::vs)
def IsNest (P:Program) (w:World) (h:Heap) (ks:List NItem) (a:Addr):Prop:=
 ∃o items n,h.get? a=some o/\o.cls=.type "tuple"/\o.data=.seq items n/\NItems P w h ks items.toList
def nHash1 (P:Program) (w:World):NItem->Int
 |.inl i=>(intKind P w).hash i
 |.inr l=>tupleKeyHash (intKind P w) l
def nDraw1:NItem->Nat
 |.inl _=>1
 |.inr l=>l.length+1
def nHash (P:Program) (w:World) (ks:List NItem):Int:=reduceHash (Builtin.Tuple.tupleHashOf (ks.map (nHash1 P w)))
def nDraws (ks:List NItem):Nat:=(ks.map nDraw1).sum+1
theorem isInt_self (P:Program) (w:World) (i:Int) (t:Tok):(intKind P w).is i (.int i t)=true:=by simp[intKind,Value.isInt]
section
variable {P:Program} {w:World} {A:Around} {E:Value->Shared->Prop} {s:Shared} {h h':Heap}
theorem NItems.inj {x y:List NItem} {vs:List Value} (hx:NItems P w h x vs) (hy:NItems P w h y vs):x=y:=by
 induction hx generalizing y with
 |nil=>cases hy;rfl
 |int _ ih=>
  cases hy with
  |int q=>rw[ih q]
 |tup k _ ih=>
  cases hy with
  |tup k2 q=>rw[ih q,k.inj k2]
theorem NItems.length {x:List NItem} {vs:List Value} (hx:NItems P w h x vs):x.length=vs.length:=by
 induction hx with
 |nil=>rfl
 |int _ ih=>simp[ih]
 |tup _ _ ih=>simp[ih]
theorem IsNest.typeIs {ks:List NItem} {a:Addr} (x:IsNest P w s.heap ks a):s.TypeIs (.ref a) "tuple":=let⟨o,_,_,ho,hc,_⟩:=x;⟨o,ho,hc⟩
theorem IsNest.inj {x y:List NItem} {a:Addr} (hx:IsNest P w h x a) (hy:IsNest P w h y a):x=y:=by
 obtain⟨o,its,n,h1,_,h2,h3⟩:=hx
 obtain⟨o2,its2,n2,g1,_,g2,g3⟩:=hy
 rw[h1]at g1
 cases g1
 rw[h2]at g2
 injection g2 with e1 _
 subst e1
 exact h3.inj g3
theorem NItems.keeps {ks:List NItem} {vs:List Value} {d:Addr} {o:Obj} {es ep} (x:NItems P w h ks vs) (ho:h.get? d=some o) (hd:o.data=.dict es ep) (hs:Heap.SameBut d h h'):NItems P w h' ks vs:=by
 induction x with
 |nil=>exact .nil
 |int _ ih=>exact .int ih
 |tup k _ ih=>exact .tup (k.keeps ho hd hs) ih
theorem IsNest.keeps {ks:List NItem} {a d:Addr} {o:Obj} {es ep} (x:IsNest P w h ks a) (ho:h.get? d=some o) (hd:o.data=.dict es ep) (hs:Heap.SameBut d h h'):IsNest P w h' ks a:=by
 obtain⟨o2,its,n,h1,h2,h3,h4⟩:=x
 have ne:a≠d:=fun z=>by
  rw[z,ho]at h1
  cases h1
  rw[hd]at h3
  cases h3
 exact⟨o2,its,n,(hs.2 a ne).trans h1,h2,h3,h4.keeps ho hd hs⟩
theorem nest_pyHash {ks:List NItem} {a:Addr} {Q:Int->Shared->Prop} (hu:A.units+64<cLine) (hk:IsNest P w s.heap ks a) (hq:Q (nHash P w ks) {s with toks:=s.toks+nDraws ks}) :
  wpAny (model P w) A (pyHash (.ref a)) Q E s:=by
 have hT:=hk.typeIs
 obtain⟨o,items,n,ho,_,hd,hi⟩:=hk
 unfold pyHash
 first|unfold pyHashByItsType|skip
 first|refine wpAny_bind (wpAny_cRoomFor_or (.inr (by omega)) ?_)|skip
 refine wpAny_bind (wpAny_specialOf hT F.slot_tuple_hash.lookup ?_)
 show wpAny _ _ (if(some (Value.builtin "tuple.__hash__")==some Value.none)=true then _ else _) Q E s
 rw[if_neg (by rw[beq_builtin_none];exact Bool.false_ne_true)]
 refine wpAny_bind (wpAny_specialOf hT F.slot_tuple_hash.lookup ?_)
 show wpAny _ _ (callSpecialIfBoundUnlessNone? (.ref a) "__hash__" _ >>= _) Q E s
 refine wpAny_bind (wpAny_callSpecialIfBoundUnlessNone?_slot hT F.slot_tuple_hash (wpAny_call_entry F.slot_tuple_hash hT F.entry_tuple_hash ?_ (F.args_tuple_hash_1 _)))
 show wpAny _ _ (Builtin.Tuple.tupleItemsOf (.ref a) >>= _) _ _ s
 refine wpAny_bind (wpAny_tupleItemsOf ho hd ?_)
 refine wpAny_bind ?_
 rw[<-Array.forIn_toList]
 refine wpAny_forIn_list _
  (fun rest (b:Array Int) s'=>∃done left,ks=done++left/\NItems P w s.heap left rest/\b.toList=done.map (nHash1 P w)/\s'={s with toks:=s.toks+(done.map nDraw1).sum})
  _ ?_ ?_ _ _ ⟨[],ks,rfl,hi,rfl,rfl⟩
 ·rintro x rest b s' ⟨done,left,rfl,hl,hb,rfl⟩
  cases hl with
  |@int i t ks' _ hl'=>
   refine wpAny_bind ((intKind P w).pyHash (k:=i) (isInt_self P w i t) ?_)
   first
    |exact wpAny_pure ⟨done++[.inl i],ks',by simp,hl',by simp[hb,nHash1],by simp[Nat.add_assoc,nDraw1]⟩
    |exact wpAny_bind (wpAny_pure (wpAny_pure ⟨done++[.inl i],ks',by simp,hl',by simp[hb,nHash1],by simp[Nat.add_assoc,nDraw1]⟩))
  |@tup l c ks' _ k hl'=>
   refine wpAny_bind (wpAny_pyHash_tuple (knd:=intKind P w) (ks:=l) ?_ k ?_)
   ·show A.units+1<cLine
    omega
   first
    |exact wpAny_pure ⟨done++[.inr l],ks',by simp,hl',by simp[hb,nHash1],by simp[Nat.add_assoc,nDraw1]⟩
    |exact wpAny_bind (wpAny_pure (wpAny_pure ⟨done++[.inr l],ks',by simp,hl',by simp[hb,nHash1],by simp[Nat.add_assoc,nDraw1]⟩))
 ·rintro b s' ⟨done,left,rfl,hl,hb,rfl⟩
  cases hl
  rw[List.append_nil]at hq
  show wpAny _ _ (retInt (Builtin.Tuple.tupleHashOf b.toList)) _ _ _
  rw[hb]
  refine wpAny_ret_mkInt ?_
  show wpAny _ _ (if(decide (-(2:Int) ^ 63<=Builtin.Tuple.tupleHashOf (done.map (nHash1 P w)))&&decide (Builtin.Tuple.tupleHashOf (done.map (nHash1 P w))<2 ^ 63))=true then _ else _) Q E _
  unfold nHash reduceHash nDraws at hq
  by_cases hr:(decide (-(2:Int) ^ 63<=Builtin.Tuple.tupleHashOf (done.map (nHash1 P w)))&&decide (Builtin.Tuple.tupleHashOf (done.map (nHash1 P w))<2 ^ 63))=true
  ·rw[if_pos hr]
   rw[if_pos hr]at hq
   exact wpAny_pure (by simpa[Nat.add_assoc]using hq)
  ·rw[if_neg hr]
   rw[if_neg hr]at hq
   exact wpAny_bind (wpAny_rule (wpAny_pure (by simpa[Nat.add_assoc]using hq)))
def isTupItem:NItem->Bool
 |.inl _=>false
 |.inr _=>true
theorem nest_eq_tree {x y:List NItem} {a b:Addr} {R:Fin->Shared->Prop} (hu:A.units+32<cLine) (hsh:x.map isTupItem=y.map isTupItem) (hx:IsNest P w s.heap x a) (hy:IsNest P w s.heap y b)
  (hq:R (.done (.ret (.bool (decide (x=y))))) s):wpAny (model P w) A (Builtin.«tuple.__eq__» ⟨[.ref a,.ref b],[]⟩) R E s:=by
 have hTb:=hy.typeIs
 obtain⟨oa,xs,na,hoa,_,hda,hia⟩:=hx
 obtain⟨ob,ys,nb,hob,_,hdb,hib⟩:=hy
 show wpAny _ _ (isInstance (.ref b) (.type "tuple") >>= _) _ _ s
 refine wpAny_bind (wpAny_isInstance hTb isSubtype_tuple_tuple ?_)
 simp only[Bool.not_true,Bool.false_eq_true,if_false]
 refine wpAny_bind (wpAny_tupleItemsOf hoa hda ?_)
 refine wpAny_bind (wpAny_tupleItemsOf hob hdb ?_)
 refine wpAny_bind ?_
 refine wpAny_forIn_list _
  (fun rest r s'=>r.1=none/\s'=s/\∃x' y' xs' ys',rest=List.zip xs' ys'/\NItems P w s.heap x' xs'/\NItems P w s.heap y' ys'/\x'.map isTupItem=y'.map isTupItem/\decide (x'=y')=decide (x=y)/\(xs'.length==ys'.length)=(xs.size==ys.size))
  _ ?_ ?_ _ _ ⟨rfl,rfl,x,y,xs.toList,ys.toList,rfl,hia,hib,hsh,rfl,by simp⟩
 ·rintro⟨u,v⟩ rest r s' ⟨hr,rfl,x',y',xs',ys',hz,hx',hy',hsm,hdec,hlen⟩
  have go:∃(k1 k2:NItem) (x'' y'':List NItem) (xs'' ys'':List Value),x'=k1::x''/\y'=k2::y''/\xs'=u::xs''/\ys'=v::ys''/\rest=List.zip xs'' ys''/\NItems P w s'.heap x'' xs''/\NItems P w s'.heap y'' ys'' /\
    (∀(A:Around) (E:Value->Shared->Prop) (Q:Bool->Shared->Prop),A.units<cLine->Q (decide (k1=k2)) s'->wpAny (model P w) A (eqBool u v) Q E s'):=by
   cases hx' with
   |nil=>simp at hz
   |@int i t x'' xs'' hx''=>
    cases hy' with
    |nil=>simp at hz
    |@int j t2 y'' ys'' hy''=>
     simp only[List.zip_cons_cons,List.cons.injEq,Prod.mk.injEq]at hz
     obtain⟨⟨rfl,rfl⟩,rfl⟩:=hz
     refine⟨.inl i,.inl j,x'',y'',xs'',ys'',rfl,rfl,rfl,rfl,rfl,hx'',hy'',fun A E Q _ q=>(intKind P w).eqBool (isInt_self P w i t) (isInt_self P w j t2) ?_⟩
     have e:decide ((Sum.inl i:NItem)=Sum.inl j)=decide (i=j):=by simp
     rw[e]at q
     exact q
    |tup k2 hy''=>simp[isTupItem]at hsm
   |@tup l c x'' xs'' k1 hx''=>
    cases hy' with
    |nil=>simp at hz
    |int hy''=>simp[isTupItem]at hsm
    |@tup l2 c2 y'' ys'' k2 hy''=>
     simp only[List.zip_cons_cons,List.cons.injEq,Prod.mk.injEq]at hz
     obtain⟨⟨rfl,rfl⟩,rfl⟩:=hz
     refine⟨.inr l,.inr l2,x'',y'',xs'',ys'',rfl,rfl,rfl,rfl,rfl,hx'',hy'',fun A E Q hA q=>wpAny_eqBool_tuple (knd:=intKind P w) hA k1 k2 ?_⟩
     have e:decide ((Sum.inr l:NItem)=Sum.inr l2)=decide (l=l2):=by simp
     rw[e]at q
     exact q
  obtain⟨k1,k2,x'',y'',xs'',ys'',e1,e2,e3,e4,e5,n1,n2,hq2⟩:=go
  subst e1 e2 e3 e4 e5
  refine wpAny_bind (hq2 _ _ _ (by omega) ?_)
  by_cases hk:k1=k2
  ·subst hk
   rw[decide_eq_true rfl]
   simp only[Bool.not_true,Bool.false_eq_true,if_false]
   refine wpAny_pure ⟨rfl,rfl,x'',y'',xs'',ys'',rfl,n1,n2,by simpa using hsm,?_,by simpa using hlen⟩
   rw[<-hdec]
   by_cases hxy:x''=y''
   ·simp[hxy]
   ·simp[hxy]
  ·rw[decide_eq_false hk]
   simp only[Bool.not_false,if_true]
   have hf:decide (x=y)=false:=by rw[<-hdec];simp[hk]
   rw[hf]at hq
   exact wpAny_bind (wpAny_pure (wpAny_pure (wpAny_pure hq)))
 ·rintro⟨r1,r2⟩ s' ⟨hr,rfl,x',y',xs',ys',hz,hx',hy',hsm,hdec,hlen⟩
  simp only at hr
  subst hr
  refine wpAny_pure ?_
  have hfin:(xs.size==ys.size)=decide (x=y):=by
   rw[<-hdec,<-hlen]
   have c1:=hx'.length
   have c2:=hy'.length
   have c3:=congrArg List.length hsm
   rw[List.length_map,List.length_map]at c3
   cases xs' with
   |nil=>
    cases hx'
    cases y' with
    |nil=>
     cases hy'
     simp
    |cons _ _=>simp at c3
   |cons _ _=>
    cases ys' with
    |nil=>
     cases hy'
     cases x' with
     |nil=>simp at c1
     |cons _ _=>simp at c3
    |cons _ _=>simp at hz
  show R (.done (.ret (.bool (xs.size==ys.size)))) s'
  rw[hfin]
  exact hq
theorem nest_eqBool {x y:List NItem} {a b:Addr} {Q:Bool->Shared->Prop} (hu:A.units+64<cLine) (hsh:x.map isTupItem=y.map isTupItem) (hx:IsNest P w s.heap x a) (hy:IsNest P w s.heap y b) (hq:Q (decide (x=y)) s) :
  wpAny (model P w) A (eqBool (.ref a) (.ref b)) Q E s:=by
 unfold eqBool
 try with_reducible refine wpAny_holding ?_
 show wpAny _ _ (if(Value.ref a==Value.ref b)=true then _ else _) Q E s
 by_cases hab:(Value.ref a==Value.ref b)=true
 ·rw[if_pos hab]
  have e:a=b:=by have:=eq_of_beq hab;injection this
  subst e
  obtain rfl:=hx.inj hy
  exact wpAny_bind (wpAny_rule (wpAny_pure (by simpa using hq)))
 ·rw[if_neg hab]
  refine wpAny_bind (wpAny_richCompare_same_room (op:=.Eq) hx.typeIs hy.typeIs F.slot_tuple_eq
   (wpAny_call_entry F.slot_tuple_eq hx.typeIs F.entry_tuple_eq (nest_eq_tree ?_ hsh hx hy ⟨_,rfl,(fun e=>nomatch e),wpAny_truthy_bool hq⟩) (F.args_tuple_eq_2 _ _)) (by omega))
  show A.units+1+32<cLine
  omega
theorem nest_quiet1 {l:List Int} {a:Addr} {n:Nat} {Q:Bool->Shared->Prop} (hk:IsTupleKey (intKind P w) s.heap l a) (hq:Q true s):wpAny (model P w) A (eqIsQuiet (n+2) (.ref a)) Q E s:=by
 have hT:=hk.typeIs
 obtain⟨o,items,m,ho,_,hd,hi⟩:=hk
 unfold eqIsQuiet
 refine wpAny_bind (wpAny_specialOf hT F.slot_tuple_eq.lookup ?_)
 show wpAny _ _ (isInstance (.ref a) (.type "tuple") >>= _) _ _ s
 refine wpAny_bind (wpAny_isInstance hT isSubtype_tuple_tuple ?_)
 simp only[Bool.not_true,Bool.false_eq_true,if_false]
 refine wpAny_bind (wpAny_seqItems ho hd ?_)
 refine wpAny_bind ?_
 show wpAny _ _ (forIn items _ _) _ _ s
 rw[<-Array.forIn_toList]
 refine wpAny_forIn_list _ (fun rest r s'=>r.1=none/\s'=s/\∀v∈rest,carriedByValue v=true) _ ?_ ?_ _ _ ⟨rfl,rfl,hi.byValue⟩
 ·rintro v rest r s' ⟨hr,rfl,hall⟩
  rw[eqIsQuiet_byValue _ (hall v List.mem_cons_self)]
  refine wpAny_bind (wpAny_pure ?_)
  simp only[Bool.not_true,Bool.false_eq_true,if_false]
  exact wpAny_pure ⟨rfl,rfl,fun u hu'=>hall u (List.mem_cons_of_mem _ hu')⟩
 ·rintro⟨r1,r2⟩ s' ⟨hr,rfl,_⟩
  simp only at hr
  subst hr
  exact wpAny_pure hq
theorem nest_quiet {ks:List NItem} {a:Addr} {Q:Bool->Shared->Prop} (hk:IsNest P w s.heap ks a) (hq:Q true s):wpAny (model P w) A (eqIsQuiet 8 (.ref a)) Q E s:=by
 have hT:=hk.typeIs
 obtain⟨o,items,m,ho,_,hd,hi⟩:=hk
 unfold eqIsQuiet
 refine wpAny_bind (wpAny_specialOf hT F.slot_tuple_eq.lookup ?_)
 show wpAny _ _ (isInstance (.ref a) (.type "tuple") >>= _) _ _ s
 refine wpAny_bind (wpAny_isInstance hT isSubtype_tuple_tuple ?_)
 simp only[Bool.not_true,Bool.false_eq_true,if_false]
 refine wpAny_bind (wpAny_seqItems ho hd ?_)
 refine wpAny_bind ?_
 show wpAny _ _ (forIn items _ _) _ _ s
 rw[<-Array.forIn_toList]
 refine wpAny_forIn_list _ (fun rest r s'=>r.1=none/\s'=s/\∃l,NItems P w s.heap l rest) _ ?_ ?_ _ _ ⟨rfl,rfl,ks,hi⟩
 ·rintro v rest r s' ⟨hr,rfl,l,hl⟩
  cases hl with
  |@int i t l' _ hl'=>
   rw[eqIsQuiet_byValue _ (show carriedByValue (Value.int i t)=true from rfl)]
   refine wpAny_bind (wpAny_pure ?_)
   simp only[Bool.not_true,Bool.false_eq_true,if_false]
   exact wpAny_pure ⟨rfl,rfl,l',hl'⟩
  |@tup l1 c l' _ k hl'=>
   refine wpAny_bind (nest_quiet1 (n:=5) k ?_)
   simp only[Bool.not_true,Bool.false_eq_true,if_false]
   exact wpAny_pure ⟨rfl,rfl,l',hl'⟩
 ·rintro⟨r1,r2⟩ s' ⟨hr,rfl,_⟩
  simp only at hr
  subst hr
  exact wpAny_pure hq
end
def nestKind (P:Program) (w:World) (sh:List Bool):HeapKind P w (List NItem) where
 is:=fun h ks a=>ks.map isTupItem=sh/\IsNest P w h ks a
 hash:=nHash P w
 draws:=nDraws
 room:=fun A=>A.units+64<cLine
 inj:=fun hx hy=>hx.2.inj hy.2
 keeps:=fun x ho hd hs=>⟨x.1,x.2.keeps ho hd hs⟩
 pyHash:=fun hu hk hq=>nest_pyHash hu hk.2 hq
 eqBool:=fun hu hx hy hq=>nest_eqBool hu (hx.1.trans hy.1.symm) hx.2 hy.2 hq
 quiet:=fun hk hq=>nest_quiet hk.2 hq
inductive NVals (H:Hp):List NItem->List V->Prop
 |nil:NVals H [] []
 |int {i:Int} {ks:List NItem} {vs:List V}:NVals H ks vs->NVals H (.inl i::ks) (.int i::vs)
 |tup {l:List Int} {b:Addr} {ks:List NItem} {vs:List V}:H b=some (.tup (l.map V.int))->NVals H ks vs->NVals H (.inr l::ks) (.ref b::vs)
def NKeyAt (H:Hp) (ks:List NItem) (a:Addr):Prop:=∃vs,H a=some (.tup vs)/\NVals H ks vs
theorem NVals.keeps {H H':Hp} {ks:List NItem} {vs:List V} (x:NVals H ks vs) (k:∀b ys,H b=some (.tup ys)->H' b=some (.tup ys)):NVals H' ks vs:=by
 induction x with
 |nil=>exact .nil
 |int _ ih=>exact .int ih
 |tup h _ ih=>exact .tup (k _ _ h) ih
theorem NKeyAt.keeps {H H':Hp} {ks:List NItem} {a:Addr} (x:NKeyAt H ks a) (k:∀b ys,H b=some (.tup ys)->H' b=some (.tup ys)):NKeyAt H' ks a:=
 let⟨vs,h,n⟩:=x;⟨vs,k _ _ h,n.keeps k⟩
def nestO (P:Program) (w:World) (sh:List Bool) (d:Addr) (xs:List (List NItem×Addr×Value)) (ep:Nat):HO:=
 .ext fun h=>(d==sysModules)=false/\xs.length<=sizeLine/\(∀x∈xs,x.1.map isTupItem=sh)/\(xs.map (·.1)).Nodup /\
  ∃o es,h.get? d=some o/\o.ExactDict/\o.data=.dict es ep/\es.toList=xs.map (entryOfKey (nestKind P w sh))
def NestAt (P:Program) (w:World) (sh:List Bool) (H:Hp) (d:Addr) (ks:List (List NItem)):Prop:=
 ∃xs ep,H d=some (nestO P w sh d xs ep)/\xs.map (·.1)=ks/\∀x∈xs,NKeyAt H x.1 x.2.1
def addN (ks:List (List NItem)) (k:List NItem):List (List NItem):=if(ks.any fun x=>decide (x=k))=true then ks else ks++[k]
theorem nest_stays {P:Program} {w:World} {sh:List Bool} {H H':Hp} {d:Addr} {ks:List (List NItem)} (x:NestAt P w sh H d ks) (hd:H' d=H d) (k:∀b ys,H b=some (.tup ys)->H' b=some (.tup ys)):NestAt P w sh H' d ks:=by
 obtain⟨xs,ep,h,e,n⟩:=x
 exact⟨xs,ep,hd.trans h,e,fun y hy=>(n y hy).keeps k⟩
section
variable {P:Program} {w:World} {sh:List Bool} {H:Hp} {h:Heap} {d a:Addr}
theorem int_items:∀{l:List Int} {us:List Value},Vals (l.map V.int) us->ItemsAre (intKind P w) l us
 |[],_,r=>by
  rw[List.map_nil]at r
  cases r
  exact .nil
 |i::l,_,r=>by
  rw[List.map_cons]at r
  cases r with
  |cons q t=>
   obtain⟨tk,rfl⟩:=q
   exact .cons (isInt_self P w i tk) (int_items t)
theorem nkey_is {ks:List NItem} (ok:HOk P w H h) (x:NKeyAt H ks a):IsNest P w h ks a:=by
 obtain⟨vs,e,n⟩:=x
 obtain⟨_,its,r,o,h1,h2,m,h3⟩:=(show ObjOk P w H h a (.tup vs)from ok a _ e)
 refine⟨o,its.toArray,m,h1,h2,h3,?_⟩
 show NItems P w h ks its.toArray.toList
 rw[List.toList_toArray]
 clear e h1 h2 h3 m o
 rename_i hz
 clear hz
 induction n generalizing its with
 |nil=>cases r;exact .nil
 |int _ ih=>
  cases r with
  |cons q t=>
   obtain⟨tk,rfl⟩:=q
   exact .int (ih _ t)
 |@tup l b ks vs hb _ ih=>
  cases r with
  |cons q t=>
   cases q
   obtain⟨_,its2,r2,o2,g1,g2,m2,g3⟩:=(show ObjOk P w H h b (.tup (l.map V.int))from ok b _ hb)
   exact .tup ⟨o2,its2.toArray,m2,g1,g2,g3,by simpa using int_items r2⟩ (ih _ t)
theorem nest_of {xs:List (List NItem×Addr×Value)} {ep:Nat} (ok:HOk P w H h) (e:H d=some (nestO P w sh d xs ep)) (n:∀x∈xs,NKeyAt H x.1 x.2.1) :
  (d==sysModules)=false/\xs.length<=sizeLine/\(∀x∈xs,x.1.map isTupItem=sh)/\(xs.map (·.1)).Nodup/\(∃o es,h.get? d=some o/\o.ExactDict/\o.data=.dict es ep/\es.toList=xs.map (entryOfKey (nestKind P w sh)))/\h.DictOfH (nestKind P w sh) d xs:=by
 obtain⟨⟨h1,h2,h3,h4,o,es,h5,h6,h7,h8⟩,_,_⟩:=ok d _ e
 exact⟨h1,h2,h3,h4,⟨o,es,h5,h6,h7,h8⟩,o,es,ep,h5,h6,h7,h8,fun x hx=>⟨h3 x hx,nkey_is ok (n x hx)⟩,h4⟩
theorem nestO_ok {xs:List (List NItem×Addr×Value)} {ep:Nat} {H':Hp} (h1:(d==sysModules)=false) (h2:xs.length<=sizeLine) (h3:∀x∈xs,x.1.map isTupItem=sh) (h4:(xs.map (·.1)).Nodup) {o:Obj} {es:Array DictEntry}
  (h5:h.get? d=some o) (h6:o.ExactDict) (h7:o.data=.dict es ep) (h8:es.toList=xs.map (entryOfKey (nestKind P w sh))):ObjOk P w H' h d (nestO P w sh d xs ep):=
 ⟨⟨h1,h2,h3,h4,o,es,h5,h6,h7,h8⟩,⟨o,h5⟩,fun _ _ ⟨g1,g2,g3,g4,o,es,g5,g⟩ k=>⟨g1,g2,g3,g4,o,es,k o g5,g⟩⟩
theorem mem_of_any {ks:List (List NItem)} {k:List NItem} (z:(ks.any fun x=>decide (x=k))=true):k∈ks:=by
 obtain⟨x,hx,q⟩:=List.any_eq_true.mp z
 exact of_decide_eq_true q▸hx
theorem any_of_mem {ks:List (List NItem)} {k:List NItem} (z:k∈ks):(ks.any fun x=>decide (x=k))=true:=List.any_eq_true.mpr ⟨k,z,decide_eq_true rfl⟩
theorem storedH_keys {xs:List (List NItem×Addr×Value)} {k:List NItem} {v:Value}:(storedH xs k a v).map (·.1)=addN (xs.map (·.1)) k:=by
 unfold addN
 cases e:atKey xs k with
 |none=>
  rw[storedH_new e,List.map_append]
  have hn:¬ k∈xs.map (·.1):=fun m=>by
   obtain⟨x,hx,q⟩:=List.mem_map.mp m
   have z:(xs.find? fun x=>decide (x.1=k))=none:=by
    unfold atKey at e
    exact Option.map_eq_none_iff.mp e
   have z2:=List.find?_eq_none.mp z x hx
   exact z2 (decide_eq_true q)
  rw[if_neg (fun z=>hn (mem_of_any z))]
  rfl
 |some p=>
  rw[storedH_old e,keys_map_putAt]
  have hm:k∈xs.map (·.1):=by
   unfold atKey at e
   obtain⟨x,hx,_⟩:=Option.map_eq_some_iff.mp e
   have q:=List.find?_some hx
   exact List.mem_map.mpr ⟨x,List.mem_of_find?_eq_some hx,of_decide_eq_true q⟩
  rw[if_pos (any_of_mem hm)]
theorem storedH_mem {xs:List (List NItem×Addr×Value)} {k:List NItem} {v:Value} {x:List NItem×Addr×Value} (hx:x∈storedH xs k a v):(∃y∈xs,y.1=x.1/\y.2.1=x.2.1)\/(x.1=k/\x.2.1=a):=by
 cases e:atKey xs k with
 |none=>
  rw[storedH_new e]at hx
  rcases List.mem_append.mp hx with z|z
  ·exact .inl ⟨x,z,rfl,rfl⟩
  ·have z:=List.mem_singleton.mp z
   exact .inr (by rw[z];exact⟨rfl,rfl⟩)
 |some p=>
  rw[storedH_old e]at hx
  obtain⟨y,hy,rfl⟩:=List.mem_map.mp hx
  refine .inl ⟨y,hy,?_⟩
  unfold putAt
  by_cases q:y.1=k
  ·rw[if_pos q];exact⟨rfl,rfl⟩
  ·rw[if_neg q];exact⟨rfl,rfl⟩
end
section
variable {X:Cx} {sh:List Bool} {pins:List (Addr×Obj)} {σ:St} {H:Hp} {s:Shared} {d a:Addr} {A:Around} {E:Value->Shared->Prop}
theorem n_setItem {ks:List (List NItem)} {k:List NItem} {r:Value} {Q:Unit->Shared->Prop} (hu:A.units+65<cLine) (I:Inv X pins σ H s) (g:NestAt X.prog X.w sh H d ks) (hk:NKeyAt H k a) (hsh:k.map isTupItem=sh) (hl:ks.length<sizeLine)
  (hq:∀o s',NestAt X.prog X.w sh (upd H d o) d (addN ks k)->Inv X pins σ (upd H d o) s'->Q () s'):wpAny (model X.prog X.w) A (setItem (.ref d) (.ref a) r) Q E s:=by
 obtain⟨xs,ep,e,e2,n⟩:=g
 obtain⟨h1,h2,h3,h4,_,dd⟩:=nest_of I.hok e n
 have room:(nestKind X.prog X.w sh).room A.in1:=by
  show A.units+1+64<cLine
  omega
 have xl:xs.length=ks.length:=by rw[<-e2,List.length_map]
 have sl:(storedH xs k a r).length<=sizeLine:=by
  have z:=congrArg List.length (storedH_keys (a:=a) (xs:=xs) (k:=k) (v:=r))
  rw[List.length_map]at z
  rw[z,e2]
  unfold addN
  split
  ·omega
  ·rw[List.length_append]
   show ks.length+1<=sizeLine
   omega
 refine wpAny_setItem_heap (hsz:=h2) room ⟨hsh,nkey_is I.hok hk⟩ dd fun h' dd' hs=>?_
 obtain⟨q,es,ep',hq1,hq2,hq3,hq4,_,hq5⟩:=dd'
 have tp:∀b ys,H b=some (.tup ys)->upd H d (nestO X.prog X.w sh d (storedH xs k a r) ep') b=some (.tup ys):=fun b ys z=>by
  rw[upd_ne (ne_of z e (fun y=>nomatch y))]
  exact z
 have h3':∀x∈storedH xs k a r,x.1.map isTupItem=sh:=fun x hx=>by
  rcases storedH_mem hx with⟨y,hy,z,_⟩|⟨z,_⟩
  ·rw[<-z];exact h3 y hy
  ·rw[z];exact hsh
 refine hq (nestO X.prog X.w sh d (storedH xs k a r) ep') _ ⟨_,ep',upd_same,by rw[storedH_keys,e2],fun x hx=>?_⟩ (d_write I (by rw[e];exact True.intro) hs ⟨q,hq1⟩ (nestO_ok h1 sl h3' hq5 hq1 hq2 hq3 hq4))
 rcases storedH_mem hx with⟨y,hy,z1,z2⟩|⟨z1,z2⟩
 ·rw[<-z1,<-z2];exact(n y hy).keeps tp
 ·rw[z1,z2];exact hk.keeps tp
theorem len_dict_any {o:Obj} {es:Array DictEntry} {ep:Nat} {Q:Value->Shared->Prop} (hd:(d==sysModules)=false) (ho:s.heap.get? d=some o) (hc:o.ExactDict) (hdat:o.data=.dict es ep) (hfit:(es.size:Int)<2 ^ 63)
  (hq:∀t t',Q (.int es.size t) {s with toks:=t'}):wpAny (model X.prog X.w) A (call (.builtin "len") [.ref d]) Q E s:=by
 have hT:s.TypeIs (.ref d) "dict":=⟨o,ho,hc.1⟩
 refine Calls.call_function_entry kind_len plain_len entry_len (args_len1 _) ?_
 unfold Builtin.«len»
 refine wpAny_bind (m:=oneArg "len" _) (wpAny_pure ?_)
 refine wpAny_bind (m:=callSpecial? (.ref d) (Str.ofString "__len__")) (wpAny_callSpecial?_slot (name:=Str.ofString "__len__") hT F.slot_dict_len
  (wpAny_call_entry F.slot_dict_len hT F.entry_dict_len ?_ (F.args_dict_len_1 _)))
 show wpAny _ _ (dictSize d >>= _) _ _ s
 unfold dictSize
 refine wpAny_bind (wpAny_bind (wpAny_dictEntries ho hdat (wpAny_pure ?_)))
 show wpAny _ _ (Builtin.Dict.pendingCount d >>= _) _ _ s
 refine wpAny_bind (wpAny_pendingCount_other hd ?_)
 refine wpAny_ret_mkInt ?_
 rw[Nat.add_zero]
 show wpAny _ _ (holding [Value.int ((es.size:Nat):Int) s.toks] (asIndex (Value.int ((es.size:Nat):Int) s.toks)) >>= _) _ _ _
 refine wpAny_bind (wpAny_holding (wpAny_pure ?_))
 refine wpAny_bind (wpAny_letGo ?_)
 show wpAny _ _ (if((es.size:Nat):Int)<0 then _ else _) _ _ _
 rw[if_neg (by omega)]
 show wpAny _ _ (if((es.size:Nat):Int)>=2 ^ 63 then _ else _) _ _ _
 rw[if_neg (by omega)]
 exact wpAny_bind (wpAny_mkInt (wpAny_pure ⟨_,rfl,hq _ _⟩))
end
def sNPut (P:Program) (w:World) (sh:List Bool) (td ty tv:TE):TS:=fun D σ H=>tv σ H fun _ H1=>td σ H1 fun x H2=>ty σ H2 fun y H3=>∃d a ks k,x=.ref d/\y=.ref a/\NestAt P w sh H3 d ks/\NKeyAt H3 k a/\k.map isTupItem=sh /\
 ks.length<sizeLine/\∀o,NestAt P w sh (upd H3 d o) d (addN ks k)->D.nx σ (upd H3 d o)
def Itn (P:Program) (w:World) (sh:List Bool) (d:Addr) (xs:List (List NItem×Addr×Value)) (ep:Nat):It:=
 ⟨fun i H=>H d=some (nestO P w sh d xs ep)/\(∀x∈xs,NKeyAt H x.1 x.2.1)/\i<xs.length,fun i H x H'=>H'=H/\∃k q u,xs[i]?=some (k,q,u)/\x=.ref q,fun i H=>H d=some (nestO P w sh d xs ep)/\(∀x∈xs,NKeyAt H x.1 x.2.1)/\xs.length<=i⟩
def iNKeys (P:Program) (w:World) (sh:List Bool) (td:TE):TI:=fun σ H R=>td σ H fun x H1=>∃d xs ep,x=.ref d/\H1 d=some (nestO P w sh d xs ep)/\(∀x∈xs,NKeyAt H1 x.1 x.2.1)/\R (Itn P w sh d xs ep) H1
def tDNewN (P:Program) (w:World) (sh:List Bool):TE:=fun _ H Q=>∀p o,H p=none->NestAt P w sh (upd H p o) p []->Q (.ref p) (upd H p o)
section
variable {X:Cx} {sh:List Bool} {o i e value tg:Expr} {pos pos':Pos} {td ty tv:TE}
theorem ps_nput (hu:X.A.units+65<cLine) (ho:PE X o td) (hi:PE X i ty) (hv:PE X value tv) (hs:swapsWith value (some (.Subscript o i pos')) pos.line X.env=pure false) :
  PS X (.Assign [.Subscript o i pos'] value pos) (sNPut X.prog X.w sh td ty tv):=by
 intro pins s σ H D I h
 refine wpAny_Assign_Subscript (thn (hv pins s σ H _ I h) fun r s1 ⟨v,H1,I1,rv,q1⟩=>thn (ho pins s1 σ H1 _ I1 q1) fun u s2 ⟨x,H2,I2,rx,q2⟩=>thn (hi pins s2 σ H2 _ I2 q2) fun iv s3 ⟨y,H3,I3,ry,d,a,ks,k,ex,ey,g,hk,hsh,hl,q3⟩=>?_) hs
 subst ex ey
 obtain rfl:u=Value.ref d:=rx
 obtain rfl:iv=Value.ref a:=ry
 exact n_setItem hu I3 g hk hsh hl fun o' s4 n4 I4=>⟨σ,_,I4,q3 o' n4⟩
theorem pe_dnewN:PE X (.Dict [] [] pos) (tDNewN X.prog X.w sh):=fun pins s σ H Q I h=>by
 have hd:(s.heap.objs.size==sysModules)=false:=beq_eq_false_iff_ne.mpr (Ne.symm (Nat.ne_of_lt I.big))
 refine wpAny_Dict_empty ⟨.ref s.heap.objs.size,_,I.laid (a:=s.heap.objs.size) (o:=nestO X.prog X.w sh s.heap.objs.size [] 0) (t':=s.toks) (fun _ _ q=>Heap.get?_push_of_some _ q) (Nat.le_refl _)
  (nestO_ok hd (Nat.zero_le _) (fun _ z=>nomatch z) List.nodup_nil (Heap.get?_push_size _ rfl) ⟨rfl,rfl,rfl⟩ rfl rfl),rfl,h _ _ (I.hok.fresh (Nat.le_refl _)) ⟨[],0,upd_same,rfl,fun _ z=>nomatch z⟩⟩
theorem call_lenN:CallR X (.builtin "len") (fun xs H Q=>∃d ks,xs=[V.ref d]/\NestAt X.prog X.w sh H d ks/\Q (.int ks.length) H):=by
 intro pins s σ H xs us Q I r h
 obtain⟨d,ks,rfl,⟨es,ep,e,e2,n⟩,q⟩:=h
 obtain⟨u,rfl,ru⟩:=vals1 r
 cases ru
 obtain⟨h1,h2,h3,h4,⟨o,xs,h5,h6,h7,h8⟩,_⟩:=nest_of I.hok e n
 have hl:xs.size=ks.length:=by rw[size_of_entries h8,<-e2,List.length_map]
 have hs:xs.size<=sizeLine:=by rw[size_of_entries h8];exact h2
 refine len_dict_any h1 h5 h6 h7 (by rw[sizeLine_eq]at hs;omega) fun t t'=>⟨.int ks.length,H,I.tok _,⟨t,by rw[hl]⟩,q⟩
theorem turn_keysN {P:Program} {w:World} {K:PySem.W.Frag} {d:Addr} {xs:List (List NItem×Addr×Value)} {ep:Nat} (it:Addr):Turn P w K tg (Itn P w sh d xs ep) [it] it (fun i h=>h.IsKeyIter it d i xs.length ep) where
 mem:=by simp
 obj:=fun i h st b hb=>by
  have e:b=it:=by simpa using hb
  subst e
  obtain⟨oi,e,c,dd⟩:=st
  exact⟨oi,e,fun v z=>by rw[dd]at z;cases z⟩
 keep:=fun i h h' st k=>st.at fun oi e=>k it (by simp) oi e
 item:=by
  intro X hP hw hK hc i pins s σ H E I hf st hg
  subst hP hw hK
  obtain⟨hd,hn,hi⟩:=hg
  obtain⟨f0,f1,f2,f3,f4,f5⟩:=hf it (by simp)
  obtain⟨h1,h2,h3,h4,⟨o,es,h5,h6,h7,h8⟩,_⟩:=nest_of I.hok hd hn
  obtain⟨⟨k,q,u⟩,hx⟩:∃p,xs[i]?=some p:=⟨xs[i],List.getElem?_eq_getElem hi⟩
  have hen:=entry_at h8 i
  rw[hx]at hen
  refine next_key_item st h5 h7 (size_of_entries h8) hen fun h' st' sb=>?_
  have I1:Inv X pins σ H {s with heap:=h'}:=I.turned (t':=s.toks) (fun b ob hb e=>(sb.2 b hb).trans e) f0 f1 f3 f4 f5
  obtain⟨oi,e,c,dd⟩:=id st'
  exact⟨_,rfl,go_of (s:={s with heap:=h'}) e c dd (by decide) ⟨.ref q,H,I1,rfl,⟨rfl,k,q,u,hx,rfl⟩,st',fun b hb=>(hf b hb).1⟩⟩
 done:=by
  intro X hP hw hK hc i pins s σ H E I hf st hg
  subst hP hw hK
  obtain⟨hd,hn,hi⟩:=hg
  obtain⟨f0,f1,f2,f3,f4,f5⟩:=hf it (by simp)
  obtain⟨h1,h2,h3,h4,⟨o,es,h5,h6,h7,h8⟩,_⟩:=nest_of I.hok hd hn
  exact next_key_end (I.ok.hd hc) st h5 h7 (size_of_entries h8) hi fun h' eb=>⟨rfl,I.turned (t':=s.toks) (fun b ob hb e=>eb b ob hb e) f0 f1 f3 f4 f5⟩
 self:=fun A i s Q E st h=>by
  refine wpAny_pyIter_slot st.typeIs F.slot_dict_keyiterator_iter (wpAny_call_entry F.slot_dict_keyiterator_iter st.typeIs F.entry_dict_keyiterator_iter ?_ (F.args_dict_keyiterator_iter_1 _))
  show wpAny _ _ (ret (.ref it)) _ _ s
  exact wpAny_pure ⟨_,rfl,"dict_keyiterator",_,st.typeIs,F.slot_dict_keyiterator_next.lookup,h⟩
theorem pi_nkeys (he:PE X e td):PI X tg e (iNKeys X.prog X.w sh td):=by
 intro pins s σ H R I h
 refine thn (he pins s σ H _ I h) fun u s1 ⟨x,H1,I1,rx,d,xs,ep,ex,hd,hn,q⟩=>?_
 subst ex
 obtain rfl:u=Value.ref d:=rx
 obtain⟨h1,h2,h3,h4,⟨o,es,h5,h6,h7,h8⟩,_⟩:=nest_of I1.hok hd hn
 refine iter_keys h1 h5 h6 h7 (pi_one (tk:=s1.toks) I1 _ (turn_keysN _) ⟨_,Heap.get?_push_size _ rfl,rfl,?_⟩ q)
 rw[size_of_entries h8]<;>rfl
end
theorem for_nest {P:Program} {w:World} {sh:List Bool} {d:Addr} {xs:List (List NItem×Addr×Value)} {ep:Nat} {g:TG} {tb:TS} {D:Ends} {σ:St} {H:Hp} (Pv:Nat->St->Hp->Prop) (h0:Pv 0 σ H)
  (hl:∀i σ H,i<=xs.length->Pv i σ H->H d=some (nestO P w sh d xs ep)/\∀x∈xs,NKeyAt H x.1 x.2.1)
  (hs:∀i k q u σ H,xs[i]?=some (k,q,u)->Pv i σ H->g (.ref q) σ H fun σ2 H2=>tb {D with nx:=Pv (i+1),ct:=Pv (i+1),bk:=D.nx} σ2 H2) (hd:∀σ H,Pv xs.length σ H->D.nx σ H) :
  ∃W:Nat->Nat->St->Hp->Prop,(∃m,W 0 m σ H)/\∀i m σ H,W i m σ H ->
   ((Itn P w sh d xs ep).stop i H/\D.nx σ H)\/((Itn P w sh d xs ep).go i H/\∃N:St->Hp->Prop,(∀σ' H',N σ' H'->∃m',m'<m/\W (i+1) m' σ' H')/\∀x H',(Itn P w sh d xs ep).yld i H x H'->g x σ H' fun σ2 H2=>tb {D with nx:=N,ct:=N,bk:=D.nx} σ2 H2):=by
 refine⟨fun i m σ H=>m=xs.length-i/\i<=xs.length/\Pv i σ H,⟨xs.length,by simp,Nat.zero_le _,h0⟩,?_⟩
 rintro i m σ H ⟨rfl,hi,p⟩
 obtain⟨q1,q2⟩:=hl i σ H hi p
 by_cases hlt:i<xs.length
 ·refine .inr ⟨⟨q1,q2,hlt⟩,Pv (i+1),fun σ' H' p'=>⟨xs.length-(i+1),by omega,rfl,hlt,p'⟩,fun x H' y=>?_⟩
  obtain⟨e,k,q,u,y,rfl⟩:=y
  subst e
  exact hs i k q u σ _ y p
 ·have e:i=xs.length:=by omega
  subst e
  exact .inl ⟨⟨q1,q2,Nat.le_refl _⟩,hd σ H p⟩
section
variable {X:Cx}
theorem call_isinst:CallR X (.builtin "isinstance") (fun xs H Q=>∃x c cv t b,xs=[x,c]/\((∃C,c=.ref C/\cv=.ref C)\/∃n,c=.ty n/\cv=.type n)/\TyOf X.K H x t/\PySem.W.kitOne X.K t cv=some b/\Q (.bl b) H):=by
 intro pins s σ H xs us Q I r h
 obtain⟨x,c,cv,t,b,rfl,rc,ty,k,q⟩:=h
 cases r with
 |cons r1 r2=>
  cases r2 with
  |@cons _ u2 _ _ r2 r3=>
   cases r3
   have e:u2=cv:=by
    rcases rc with⟨C,rfl,rfl⟩|⟨n,rfl,rfl⟩
    ·exact r2
    ·exact r2
   subst e
   exact isinst_ok I r1 ty k fun tk=>⟨.bl b,H,I.tok _,rfl,q⟩
end
section
variable {prog:Program} {w:World} {A:Around}
theorem walks_raw (hh:A.handled=none) (I d:Addr) (hne:d≠I) {o:Obj} {es:Array DictEntry} {ep:Nat} (hdat:o.data=.dict es ep) :
  Walks prog w A I [I,d] [I] es.size (fun i v=>∃en,es[i]?=some en/\v=en.key) (fun i h=>h.IsKeyIter I d i es.size ep/\h.get? d=some o) where
 sub:=fun b hb=>by simp at hb;simp[hb]
 frame:=fun _ _ _ st hk=>⟨st.1.at fun q e=>hk I (by simp) q e,hk d (by simp) o st.2⟩
 item:=fun i s Q E hi st hQ=>by
  obtain⟨en,hx⟩:∃en,es[i]?=some en:=⟨es[i],Array.getElem?_eq_getElem hi⟩
  refine next_key_item st.1 st.2 hdat rfl hx fun h' st' sb=>?_
  exact hQ _ h' s.toks ⟨en,hx,rfl⟩ ⟨st',(sb.2 d hne).trans st.2⟩ fun b q hb e=>(sb.2 b (fun z=>hb (by simp[z]))).trans e
 done:=fun s Q E st hQ=>next_key_end hh st.1 st.2 hdat rfl (Nat.le_refl _) fun h' eb=>hQ h' s.toks fun b q hb e=>eb b q (fun z=>hb (by simp[z])) e
 self:=fun i s Q E st hQ=>by
  refine wpAny_pyIter_slot st.1.typeIs F.slot_dict_keyiterator_iter (wpAny_call_entry F.slot_dict_keyiterator_iter st.1.typeIs F.entry_dict_keyiterator_iter ?_ (F.args_dict_keyiterator_iter_1 _))
  show wpAny _ _ (ret (.ref I)) _ _ s
  exact wpAny_pure ⟨_,rfl,"dict_keyiterator",_,st.1.typeIs,F.slot_dict_keyiterator_next.lookup,hQ⟩
theorem src_raw {d:Addr} {o:Obj} {es:Array DictEntry} {ep:Nat} (lo:(d==sysModules)=false) (hc:o.ExactDict) (hdat:o.data=.dict es ep) :
  PySem.W.KdlSrc prog w "dict" d d es.size (fun i v=>∃en,es[i]?=some en/\v=en.key) (fun h=>h.get? d=some o) where
 type:=fun _ hm=>⟨o,hm,hc.1⟩
 there:=fun _ hm=>⟨Heap.lt_size hm,Heap.lt_size hm⟩
 keep:=fun _ _ hm hk=>hk d (.inl rfl) o hm
 notList:=by decide
 notTuple:=by decide
 hint:=fun _ _ _ _ hm hq=>PySem.W.kdl_hint_dict ⟨o,hm,hc.1⟩ hq
 iter:=fun A s hh hm=>⟨_,_,(fun _ _ hq=>iter_keys lo hm hc hdat hq),walks_raw hh _ d (Nat.ne_of_lt (Heap.lt_size hm)) hdat,⟨⟨_,Heap.get?_push_size _ rfl,rfl,rfl⟩,Heap.get?_push_of_some _ hm⟩⟩
end
section
variable {X:Cx}
theorem call_listT (hcm:X.calm=true):CallR X (.type "list") (fun xs H Q=>∃d kvs,xs=[V.ref d]/\H d=some (.dT kvs)/\∀l (as:List Addr),H l=none->as.length=kvs.length ->
  (∀(i:Nat) (k:List Key) (v:V) (a:Addr),kvs[i]?=some (k,v)->as[i]?=some a->H a=some (.tup (k.map kV)))->Q (.ref l) (upd H l (.lst (as.map V.ref)))):=by
 intro pins s σ H xs us Q I r h
 obtain⟨d,kvs,rfl,e,q⟩:=h
 obtain⟨u,rfl,ru⟩:=vals1 r
 cases ru
 obtain⟨z,hd,ys,rel,o,es,ep,h5,h6,h7,h8,_⟩:=dt_of I.hok e
 have hl:es.size=kvs.length:=by rw[size_of_entries h8];exact(Paired.length rel).symm
 refine PySem.W.kdl_call (src_raw hd h6 h7) (I.ok.hd hcm) h5 (by rw[hl];exact z) fun h' tk acc c hk hS hacc=>?_
 have hlen:acc.size=kvs.length:=hacc.1.trans hl
 have hy:ys.length=kvs.length:=(Paired.length rel).symm
 have key:∀(i:Nat) (v:Value),acc[i]?=some v->∃p,ys[i]?=some p/\v=.ref p.2.1:=fun i v hv=>by
  obtain⟨en,he,rfl⟩:=hacc.2 i v hv
  have z2:=entry_at h8 i
  rw[he]at z2
  cases hp:ys[i]? with
  |none=>rw[hp]at z2;cases z2
  |some p=>
   rw[hp]at z2
   refine⟨p,rfl,?_⟩
   have z3:en=entryOfKey (tupleKind (mixKind X.prog X.w)) p:=Option.some.inj z2
   rw[z3]
   rfl
 have hvals:Vals ((ys.map fun p=>p.2.1).map V.ref) acc.toList:=by
  have all:∀(l:List (List Key×Addr×Value)) (m:List Value),l.length=m.length->(∀(i:Nat) v,m[i]?=some v->∃p,l[i]?=some p/\v=.ref p.2.1)->Vals ((l.map fun p=>p.2.1).map V.ref) m:=by
   intro l
   induction l with
   |nil=>intro m hm _;cases m with|nil=>exact .nil|cons _ _=>simp at hm
   |cons p l ih=>
    intro m hm hv
    cases m with
    |nil=>simp at hm
    |cons v m=>
     obtain⟨p2,e1,e2⟩:=hv 0 v rfl
     have e1:p=p2:=Option.some.inj e1
     subst e1
     exact .cons e2 (ih m (by simpa using hm) fun i v hv2=>by simpa using hv (i+1) v (by simpa using hv2))
  exact all ys acc.toList (hy.trans (hlen.symm.trans Array.length_toList.symm)) fun i v hv=>key i v (by rw[<-Array.getElem?_toList];exact hv)
 have new:ObjOk X.prog X.w (upd H s.heap.objs.size (.lst ((ys.map fun p=>p.2.1).map V.ref))) h' s.heap.objs.size (.lst ((ys.map fun p=>p.2.1).map V.ref)):=
  ⟨by simp only[List.length_map];rw[hy];exact z,acc.toList,c,hvals,by rw[Array.toArray_toList];exact hS⟩
 refine⟨.ref s.heap.objs.size,_,I.laid (t':=tk) hk (Nat.le_refl _) new,rfl,q _ _ (I.hok.fresh (Nat.le_refl _)) (by simp[hy]) fun i k v a hk2 ha=>?_⟩
 obtain⟨p,hp,e1,e2,_⟩:=paired_get rel hk2
 rw[List.getElem?_map,hp]at ha
 cases ha
 exact e2
end
def MDict (K:PySem.W.Frag) (w:World) (a:Addr) (f:Str->Option V):Prop:=
 (a==sysModules)=false/\∃es n,K.lookup a=some ⟨.type "dict",none,.dict es n,#[]⟩/\PySem.W.KeysLit w.params es.toList/\∀x,RelO (f x) (findBy Value.isStrOf es x)
def tMIn (K:PySem.W.Frag) (w:World) (ty td:TE):TE:=fun σ H Q=>ty σ H fun y H1=>td σ H1 fun x H2=>∃a z f,x=.ref a/\y=.str z/\MDict K w a f/\Q (.bl (f z).isSome) H2
def tMNotIn (K:PySem.W.Frag) (w:World) (ty td:TE):TE:=fun σ H Q=>ty σ H fun y H1=>td σ H1 fun x H2=>∃a z f,x=.ref a/\y=.str z/\MDict K w a f/\Q (.bl (!(f z).isSome)) H2
def tMGet2 (K:PySem.W.Frag) (w:World) (td ty tx:TE):TE:=fun σ H Q=>td σ H fun x H1=>∃a f,x=.ref a/\MDict K w a f/\ty σ H1 fun y H2=>tx σ H2 fun d H3=>∃z,y=.str z/\Q ((f z).getD d) H3
section
variable {X:Cx} {i o e f:Expr} {td ty tx:TE} {apos cpos:Pos}
theorem mdict_map {pins:List (Addr×Obj)} {σ:St} {H:Hp} {s:Shared} {a:Addr} {g:Str->Option V} (I:Inv X pins σ H s) (m:MDict X.K X.w a g):∃es,s.heap.MapOf (strKind X.prog X.w) a (fun k=>findBy Value.isStrOf es k)/\∀x,RelO (g x) (findBy Value.isStrOf es x):=by
 obtain⟨_,es,n,hl,hk,hr⟩:=m
 exact⟨es,PySem.W.mapOf_K I.kIn hl hk,hr⟩
theorem pc_min (hi:PE X i ty) (ho:PE X o td):PC X .In i o (tMIn X.K X.w ty td):=by
 intro pins s σ H Q I h
 refine thn (hi pins s σ H _ I h) fun iv s1 ⟨y,H1,I1,ry,q1⟩=>thn (ho pins s1 σ H1 _ I1 q1) fun u s2 ⟨x,H2,I2,rx,a,z,g,ex,ey,m,q2⟩=>?_
 subst ex ey
 obtain rfl:u=Value.ref a:=rx
 obtain⟨t,rfl⟩:=ry
 obtain⟨es,hm,hr⟩:=mdict_map I2 m
 refine wpAny_in_of (strKind_is X.prog X.w z t) m.1 hm ?_
 rw[<-(hr z).isSome_eq]
 exact⟨.bl (g z).isSome,H2,I2.tok _,rfl,q2⟩
theorem pc_mnotin (hi:PE X i ty) (ho:PE X o td):PC X .NotIn i o (tMNotIn X.K X.w ty td):=by
 intro pins s σ H Q I h
 refine thn (hi pins s σ H _ I h) fun iv s1 ⟨y,H1,I1,ry,q1⟩=>thn (ho pins s1 σ H1 _ I1 q1) fun u s2 ⟨x,H2,I2,rx,a,z,g,ex,ey,m,q2⟩=>?_
 subst ex ey
 obtain rfl:u=Value.ref a:=rx
 obtain⟨t,rfl⟩:=ry
 obtain⟨es,hm,hr⟩:=mdict_map I2 m
 refine wpAny_notIn_of (strKind_is X.prog X.w z t) m.1 hm ?_
 rw[<-(hr z).isSome_eq]
 exact⟨.bl (!(g z).isSome),H2,I2.tok _,rfl,q2⟩
theorem pe_mget2 (ho:PE X o td) (he:PE X e ty) (hf:PE X f tx) (m:M2 X o "get" apos e f cpos):PE X (.Call (.Attribute o "get" apos) [e,f] [] cpos) (tMGet2 X.K X.w td ty tx):=by
 intro pins s σ H Q I h
 refine wpAny_Call_method m.base m.few m.line PySem.F.plainAttrs_dict PySem.F.slot_dict_get PySem.F.type_dict_get (thn (ho pins s σ H _ I h) fun u s1 ⟨x,H1,I1,rx,a,g,ex,md,q1⟩=>?_)
 subst ex
 obtain rfl:u=Value.ref a:=rx
 obtain⟨es,hm,_⟩:=mdict_map I1 md
 refine⟨hm.typeIs,hm.noDict,?_⟩
 rw[m.trees]
 refine Calls.callWith_builtin rfl (Calls.evalArgs_plain (Calls.spliced_cons (thn (he pins s1 σ H1 _ I1 q1) fun iv s2 ⟨y,H2,I2,ry,q2⟩=>
  Calls.spliced_cons (thn (hf pins s2 σ H2 _ I2 q2) fun fv s3 ⟨d,H3,I3,rd,z,ey,q3⟩=>Calls.spliced_nil ?_))))
 subst ey
 obtain⟨t,rfl⟩:=ry
 obtain⟨es3,hm3,hr3⟩:=mdict_map I3 md
 exact call_meetsIn PySem.F.slot_dict_get hm3.typeIs PySem.F.entry_dict_get (PySem.F.args_dict_get_3 _ _ _) (meets_dict_get_default (strKind X.prog X.w) a (strKind_is X.prog X.w z t) md.1 fv) ⟨_,hm3,_,H3,I3.tok _,(hr3 z).getD rd,q3⟩
end
end L2
end
section
namespace Mth
open Vacfaa
def toks:Expr->List Text
 |.num _ n=>[decimal n]
 |.var _ x=>[x]
 |.fn _ x b=>[40]::ascii "fun"::x::(toks b++[[41]])
 |.app _ f a=>[40]::(toks f++toks a++[[41]])
 |.letE _ x e b=>[40]::ascii "let"::x::(toks e++toks b++[[41]])
 |.ifz _ c t e=>[40]::ascii "if"::(toks c++toks t++toks e++[[41]])
 |.pair _ a b=>[40]::ascii "pair"::(toks a++toks b++[[41]])
 |.fst _ e=>[40]::ascii "fst"::(toks e++[[41]])
 |.snd _ e=>[40]::ascii "snd"::(toks e++[[41]])
 |.new _ e=>[40]::ascii "new"::(toks e++[[41]])
 |.get _ e=>[40]::ascii "get"::(toks e++[[41]])
 |.set _ r e=>[40]::ascii "set"::(toks r++toks e++[[41]])
 |.add _ a b=>[40]::ascii "add"::(toks a++toks b++[[41]])
def Wd (w:Text):Prop:=w≠[]/\∀b∈w,b≠40/\b≠41/\b≠32
def Stop (r:Text):Prop:=r=[]\/∃b q,r=b::q/\(b=32\/b=41\/b=40)
theorem tk_word:∀(v:Text) (w r:Text),(∀b∈v,b≠40/\b≠41/\b≠32)->tokensOf w (v++r)=tokensOf (w++v) r
 |[],w,r,_=>by simp
 |b::v,w,r,h=>by
  have h1:=h b (by simp)
  rw[List.cons_append,tokensOf,if_neg (by intro z;rcases z with z|z;exact h1.1 z;exact h1.2.1 z),if_neg h1.2.2,tk_word v _ r (fun c hc=>h c (by simp[hc]))]
  simp
theorem tk_stop {w r:Text} (hw:w≠[]) (h:Stop r):tokensOf w r=w::tokensOf [] r:=by
 have hw2:w.isEmpty=false:=by cases w with|nil=>exact absurd rfl hw|cons=>rfl
 rcases h with rfl|⟨b,q,rfl,hb⟩
 ·simp[tokensOf,hw2]
 ·rcases hb with rfl|rfl|rfl<;>simp[tokensOf,hw2]
theorem tk_wd {w r:Text} (hw:Wd w) (h:Stop r):tokensOf [] (w++r)=w::tokensOf [] r:=by
 rw[tk_word w [] r hw.2,List.nil_append,tk_stop hw.1 h]
theorem tk_blank (r:Text):tokensOf [] (32::r)=tokensOf [] r:=by simp[tokensOf]
theorem tk_open (r:Text):tokensOf [] (40::r)=[40]::tokensOf [] r:=by simp[tokensOf]
theorem tk_close (r:Text):tokensOf [] (41::r)=[41]::tokensOf [] r:=by simp[tokensOf]
theorem stop_blank (r:Text):Stop (32::r):=.inr ⟨32,r,rfl,.inl rfl⟩
theorem stop_close (r:Text):Stop (41::r):=.inr ⟨41,r,rfl,.inr (.inl rfl)⟩
def Good:Expr->Prop
 |.num _ n=>n<=99
 |.var _ x=>isName x=true
 |.fn _ x b=>isName x=true/\Good b
 |.app _ f a=>Good f/\Good a
 |.letE _ x e b=>isName x=true/\Good e/\Good b
 |.ifz _ c t e=>Good c/\Good t/\Good e
 |.pair _ a b=>Good a/\Good b
 |.fst _ e=>Good e
 |.snd _ e=>Good e
 |.new _ e=>Good e
 |.get _ e=>Good e
 |.set _ r e=>Good r/\Good e
 |.add _ a b=>Good a/\Good b
theorem good_of_closed:∀(e:Expr) (s:List Name),isClosed s e=true->Good e:=by
 intro e
 induction e with
 |num l n=>intro s h;exact(of_decide_eq_true (show decide (n<=NUMBER)=true from h):n<=99)
 |var l x=>intro s h;simp only[isClosed,Bool.and_eq_true]at h;exact h.1
 |fn l x b ih=>intro s h;simp only[isClosed,Bool.and_eq_true]at h;exact⟨h.1,ih _ h.2.2⟩
 |app l f a ih1 ih2=>intro s h;simp only[isClosed,Bool.and_eq_true]at h;exact⟨ih1 _ h.1,ih2 _ h.2⟩
 |letE l x e b ih1 ih2=>intro s h;simp only[isClosed,Bool.and_eq_true]at h;exact⟨h.1,ih1 _ h.2.2.1,ih2 _ h.2.2.2⟩
 |ifz l c t e ih1 ih2 ih3=>intro s h;simp only[isClosed,Bool.and_eq_true]at h;exact⟨ih1 _ h.1,ih2 _ h.2.1,ih3 _ h.2.2⟩
 |pair l a b ih1 ih2=>intro s h;simp only[isClosed,Bool.and_eq_true]at h;exact⟨ih1 _ h.1,ih2 _ h.2⟩
 |fst l e ih=>intro s h;exact ih _ h
 |snd l e ih=>intro s h;exact ih _ h
 |new l e ih=>intro s h;exact ih _ h
 |get l e ih=>intro s h;exact ih _ h
 |set l a b ih1 ih2=>intro s h;simp only[isClosed,Bool.and_eq_true]at h;exact⟨ih1 _ h.1,ih2 _ h.2⟩
 |add l a b ih1 ih2=>intro s h;simp only[isClosed,Bool.and_eq_true]at h;exact⟨ih1 _ h.1,ih2 _ h.2⟩
theorem num_all:∀n:Fin 100,numberOf (decimal n.val)=some n.val/\(decimal n.val).length<=2/\(decimal n.val).all isDigit=true/\(decimal n.val).isEmpty=false:=by decide +kernel
theorem num_of {n:Nat} (h:n<=99):numberOf (decimal n)=some n:=(num_all ⟨n,by omega⟩).1
theorem num_digits {n:Nat} (h:n<=99):(decimal n).all isDigit=true:=(num_all ⟨n,by omega⟩).2.2.1
theorem num_ne {n:Nat} (h:n<=99):decimal n≠[]:=fun z=>by have:=(num_all ⟨n,by omega⟩).2.2.2;rw[z]at this;cases this
theorem digit_not {b:UInt8} (h:isDigit b=true):b≠40/\b≠41/\b≠32:=by
 refine⟨?_,?_,?_⟩<;>(rintro rfl;revert h;decide)
theorem small_not {b:UInt8} (h:isSmall b=true):b≠40/\b≠41/\b≠32:=by
 refine⟨?_,?_,?_⟩<;>(rintro rfl;revert h;decide)
theorem small_no_digit {b:UInt8} (h:isSmall b=true):isDigit b=false:=by
 have h2:97<=b:=by simp only[isSmall,Bool.and_eq_true]at h;exact of_decide_eq_true h.1
 have h3:¬ b<=57:=fun z=>by
  have:=UInt8.le_trans h2 z
  revert this;decide
 simp[isDigit,h3]
theorem name_ne {x:Name} (h:isName x=true):x≠[]:=by
 rintro rfl
 revert h;decide
theorem name_small {x:Name} (h:isName x=true):∀b∈x,isSmall b=true:=by
 simp only[isName,Bool.and_eq_true]at h
 exact List.all_eq_true.mp h.2.2.1
theorem wd_name {x:Name} (h:isName x=true):Wd x:=⟨name_ne h,fun b hb=>small_not (name_small h b hb)⟩
theorem wd_num {n:Nat} (h:n<=99):Wd (decimal n):=⟨num_ne h,fun b hb=>digit_not (List.all_eq_true.mp (num_digits h) b hb)⟩
theorem wd_word {w:Text} (h:(!w.isEmpty&&w.all isSmall)=true):Wd w:=by
 simp only[Bool.and_eq_true,Bool.not_eq_true']at h
 exact⟨fun z=>by rw[z]at h;exact absurd h.1 (by decide),fun b hb=>small_not (List.all_eq_true.mp h.2 b hb)⟩
theorem tk_expr:∀(e:Expr),Good e->∀r,Stop r->tokensOf [] (textOf e++r)=toks e++tokensOf [] r:=by
 intro e
 induction e with
 |num l n=>intro g r hr;exact tk_wd (wd_num g) hr
 |var l x=>intro g r hr;exact tk_wd (wd_name g) hr
 |fn l x b ih=>
  intro g r hr
  simp only[textOf,inBrackets,spaced,gluedBy,List.cons_append,List.append_assoc,List.nil_append,toks]
  rw[tk_open,tk_wd (wd_word (by decide)) (stop_blank _),tk_blank,tk_wd (wd_name g.1) (stop_blank _),tk_blank,ih g.2 _ (stop_close _),tk_close]
 |app l f a ih1 ih2=>
  intro g r hr
  simp only[textOf,inBrackets,spaced,gluedBy,List.cons_append,List.append_assoc,List.nil_append,toks]
  rw[tk_open,ih1 g.1 _ (stop_blank _),tk_blank,ih2 g.2 _ (stop_close _),tk_close]
 |letE l x e b ih1 ih2=>
  intro g r hr
  simp only[textOf,inBrackets,spaced,gluedBy,List.cons_append,List.append_assoc,List.nil_append,toks]
  rw[tk_open,tk_wd (wd_word (by decide)) (stop_blank _),tk_blank,tk_wd (wd_name g.1) (stop_blank _),tk_blank,ih1 g.2.1 _ (stop_blank _),tk_blank,ih2 g.2.2 _ (stop_close _),tk_close]
 |ifz l c t e ih1 ih2 ih3=>
  intro g r hr
  simp only[textOf,inBrackets,spaced,gluedBy,List.cons_append,List.append_assoc,List.nil_append,toks]
  rw[tk_open,tk_wd (wd_word (by decide)) (stop_blank _),tk_blank,ih1 g.1 _ (stop_blank _),tk_blank,ih2 g.2.1 _ (stop_blank _),tk_blank,ih3 g.2.2 _ (stop_close _),tk_close]
 |pair l a b ih1 ih2=>
  intro g r hr
  simp only[textOf,inBrackets,spaced,gluedBy,List.cons_append,List.append_assoc,List.nil_append,toks]
  rw[tk_open,tk_wd (wd_word (by decide)) (stop_blank _),tk_blank,ih1 g.1 _ (stop_blank _),tk_blank,ih2 g.2 _ (stop_close _),tk_close]
 |fst l e ih=>
  intro g r hr
  simp only[textOf,inBrackets,spaced,gluedBy,List.cons_append,List.append_assoc,List.nil_append,toks]
  rw[tk_open,tk_wd (wd_word (by decide)) (stop_blank _),tk_blank,ih g _ (stop_close _),tk_close]
 |snd l e ih=>
  intro g r hr
  simp only[textOf,inBrackets,spaced,gluedBy,List.cons_append,List.append_assoc,List.nil_append,toks]
  rw[tk_open,tk_wd (wd_word (by decide)) (stop_blank _),tk_blank,ih g _ (stop_close _),tk_close]
 |new l e ih=>
  intro g r hr
  simp only[textOf,inBrackets,spaced,gluedBy,List.cons_append,List.append_assoc,List.nil_append,toks]
  rw[tk_open,tk_wd (wd_word (by decide)) (stop_blank _),tk_blank,ih g _ (stop_close _),tk_close]
 |get l e ih=>
  intro g r hr
  simp only[textOf,inBrackets,spaced,gluedBy,List.cons_append,List.append_assoc,List.nil_append,toks]
  rw[tk_open,tk_wd (wd_word (by decide)) (stop_blank _),tk_blank,ih g _ (stop_close _),tk_close]
 |set l a b ih1 ih2=>
  intro g r hr
  simp only[textOf,inBrackets,spaced,gluedBy,List.cons_append,List.append_assoc,List.nil_append,toks]
  rw[tk_open,tk_wd (wd_word (by decide)) (stop_blank _),tk_blank,ih1 g.1 _ (stop_blank _),tk_blank,ih2 g.2 _ (stop_close _),tk_close]
 |add l a b ih1 ih2=>
  intro g r hr
  simp only[textOf,inBrackets,spaced,gluedBy,List.cons_append,List.append_assoc,List.nil_append,toks]
  rw[tk_open,tk_wd (wd_word (by decide)) (stop_blank _),tk_blank,ih1 g.1 _ (stop_blank _),tk_blank,ih2 g.2 _ (stop_close _),tk_close]
def Lab:Expr->Nat->Nat->Prop
 |.num l _,n,n'=>l=n/\n'=n+1
 |.var l _,n,n'=>l=n/\n'=n+1
 |.fn l _ b,n,n'=>l=n/\Lab b (n+1) n'
 |.app l f a,n,n'=>l=n/\∃m,Lab f (n+1) m/\Lab a m n'
 |.letE l _ e b,n,n'=>l=n/\∃m,Lab e (n+1) m/\Lab b m n'
 |.ifz l c t e,n,n'=>l=n/\∃m k,Lab c (n+1) m/\Lab t m k/\Lab e k n'
 |.pair l a b,n,n'=>l=n/\∃m,Lab a (n+1) m/\Lab b m n'
 |.fst l e,n,n'=>l=n/\Lab e (n+1) n'
 |.snd l e,n,n'=>l=n/\Lab e (n+1) n'
 |.new l e,n,n'=>l=n/\Lab e (n+1) n'
 |.get l e,n,n'=>l=n/\Lab e (n+1) n'
 |.set l r e,n,n'=>l=n/\∃m,Lab r (n+1) m/\Lab e m n'
 |.add l a b,n,n'=>l=n/\∃m,Lab a (n+1) m/\Lab b m n'
def sz (e:Expr):Nat:=(nodesOf e).length
theorem split_range {l:Nat} {a b:List Nat} {n:Nat} (h:l::(a++b)=List.range' n (a.length+b.length+1)):l=n/\a=List.range' (n+1) a.length/\b=List.range' (n+1+a.length) b.length:=by
 rw[List.range'_succ]at h
 injection h with h1 h2
 have e:List.range' (n+1) (a.length+b.length)=List.range' (n+1) a.length++List.range' (n+1+a.length) b.length:=by
  rw[List.range'_append_1]
 rw[e]at h2
 obtain⟨q1,q2⟩:=List.append_inj h2 (by simp)
 exact⟨h1,q1,q2⟩
theorem len_labels (e:Expr):(labelsOf e).length=sz e:=by simp[labelsOf,sz]
theorem lab1 {l:Nat} {e:Expr} {n:Nat} (h:l::labelsOf e=List.range' n (sz e+1)):l=n/\labelsOf e=List.range' (n+1) (sz e):=by
 rw[List.range'_succ]at h
 injection h with h1 h2
 exact⟨h1,h2⟩
theorem lab2 {l:Nat} {a b:Expr} {n:Nat} (h:l::(labelsOf a++labelsOf b)=List.range' n (sz a+sz b+1)):l=n/\labelsOf a=List.range' (n+1) (sz a)/\labelsOf b=List.range' (n+1+sz a) (sz b):=by
 have:=split_range (l:=l) (a:=labelsOf a) (b:=labelsOf b) (n:=n) (by rw[len_labels,len_labels];exact h)
 rw[len_labels,len_labels]at this
 exact this
theorem lab_of:∀(e:Expr) (n:Nat),labelsOf e=List.range' n (sz e)->Lab e n (n+sz e):=by
 intro e
 induction e with
 |num l k=>intro n h;simp[labelsOf,nodesOf,labelOf,sz]at h;exact⟨h,rfl⟩
 |var l k=>intro n h;simp[labelsOf,nodesOf,labelOf,sz]at h;exact⟨h,rfl⟩
 |fn l x b ih=>
  intro n h
  obtain⟨h1,h2⟩:=lab1 (l:=l) (e:=b) (n:=n) (by simpa[labelsOf,nodesOf,sz,labelOf]using h)
  have e0:sz (.fn l x b)=sz b+1:=by simp[sz,nodesOf]
  refine⟨h1,?_⟩
  rw[e0,show n+(sz b+1)=n+1+sz b by omega]
  exact ih (n+1) h2
 |app l f a ih1 ih2=>
  intro n h
  obtain⟨h1,h2,h3⟩:=lab2 (l:=l) (a:=f) (b:=a) (n:=n) (by simpa[labelsOf,nodesOf,sz,labelOf,Nat.add_assoc]using h)
  have e0:sz (.app l f a)=sz f+sz a+1:=by simp[sz,nodesOf]
  refine⟨h1,n+1+sz f,ih1 _ h2,?_⟩
  rw[e0,show n+(sz f+sz a+1)=n+1+sz f+sz a by omega]
  exact ih2 _ h3
 |letE l x e b ih1 ih2=>
  intro n h
  obtain⟨h1,h2,h3⟩:=lab2 (l:=l) (a:=e) (b:=b) (n:=n) (by simpa[labelsOf,nodesOf,sz,labelOf,Nat.add_assoc]using h)
  have e0:sz (.letE l x e b)=sz e+sz b+1:=by simp[sz,nodesOf]
  refine⟨h1,n+1+sz e,ih1 _ h2,?_⟩
  rw[e0,show n+(sz e+sz b+1)=n+1+sz e+sz b by omega]
  exact ih2 _ h3
 |ifz l c t e ih1 ih2 ih3=>
  intro n h
  have e0:sz (.ifz l c t e)=sz c+(sz t+sz e)+1:=by simp[sz,nodesOf]
  rw[e0]at h
  have h':l::(labelsOf c++(labelsOf t++labelsOf e))=List.range' n ((labelsOf c).length+(labelsOf t++labelsOf e).length+1):=by
   rw[List.length_append,len_labels,len_labels,len_labels]
   simpa[labelsOf,nodesOf,labelOf]using h
  obtain⟨h1,h2,h3⟩:=split_range h'
  rw[List.length_append,len_labels,len_labels,len_labels]at h3
  rw[len_labels]at h2
  have e1:List.range' (n+1+sz c) (sz t+sz e)=List.range' (n+1+sz c) (sz t)++List.range' (n+1+sz c+sz t) (sz e):=by rw[List.range'_append_1]
  rw[e1]at h3
  obtain⟨h4,h5⟩:=List.append_inj h3 (by rw[len_labels];simp)
  refine⟨h1,n+1+sz c,n+1+sz c+sz t,ih1 _ h2,ih2 _ h4,?_⟩
  rw[e0,show n+(sz c+(sz t+sz e)+1)=n+1+sz c+sz t+sz e by omega]
  exact ih3 _ h5
 |pair l a b ih1 ih2=>
  intro n h
  obtain⟨h1,h2,h3⟩:=lab2 (l:=l) (a:=a) (b:=b) (n:=n) (by simpa[labelsOf,nodesOf,sz,labelOf,Nat.add_assoc]using h)
  have e0:sz (.pair l a b)=sz a+sz b+1:=by simp[sz,nodesOf]
  refine⟨h1,n+1+sz a,ih1 _ h2,?_⟩
  rw[e0,show n+(sz a+sz b+1)=n+1+sz a+sz b by omega]
  exact ih2 _ h3
 |fst l e ih=>
  intro n h
  obtain⟨h1,h2⟩:=lab1 (l:=l) (e:=e) (n:=n) (by simpa[labelsOf,nodesOf,sz,labelOf]using h)
  have e0:sz (.fst l e)=sz e+1:=by simp[sz,nodesOf]
  refine⟨h1,?_⟩
  rw[e0,show n+(sz e+1)=n+1+sz e by omega]
  exact ih (n+1) h2
 |snd l e ih=>
  intro n h
  obtain⟨h1,h2⟩:=lab1 (l:=l) (e:=e) (n:=n) (by simpa[labelsOf,nodesOf,sz,labelOf]using h)
  have e0:sz (.snd l e)=sz e+1:=by simp[sz,nodesOf]
  refine⟨h1,?_⟩
  rw[e0,show n+(sz e+1)=n+1+sz e by omega]
  exact ih (n+1) h2
 |new l e ih=>
  intro n h
  obtain⟨h1,h2⟩:=lab1 (l:=l) (e:=e) (n:=n) (by simpa[labelsOf,nodesOf,sz,labelOf]using h)
  have e0:sz (.new l e)=sz e+1:=by simp[sz,nodesOf]
  refine⟨h1,?_⟩
  rw[e0,show n+(sz e+1)=n+1+sz e by omega]
  exact ih (n+1) h2
 |get l e ih=>
  intro n h
  obtain⟨h1,h2⟩:=lab1 (l:=l) (e:=e) (n:=n) (by simpa[labelsOf,nodesOf,sz,labelOf]using h)
  have e0:sz (.get l e)=sz e+1:=by simp[sz,nodesOf]
  refine⟨h1,?_⟩
  rw[e0,show n+(sz e+1)=n+1+sz e by omega]
  exact ih (n+1) h2
 |set l a b ih1 ih2=>
  intro n h
  obtain⟨h1,h2,h3⟩:=lab2 (l:=l) (a:=a) (b:=b) (n:=n) (by simpa[labelsOf,nodesOf,sz,labelOf,Nat.add_assoc]using h)
  have e0:sz (.set l a b)=sz a+sz b+1:=by simp[sz,nodesOf]
  refine⟨h1,n+1+sz a,ih1 _ h2,?_⟩
  rw[e0,show n+(sz a+sz b+1)=n+1+sz a+sz b by omega]
  exact ih2 _ h3
 |add l a b ih1 ih2=>
  intro n h
  obtain⟨h1,h2,h3⟩:=lab2 (l:=l) (a:=a) (b:=b) (n:=n) (by simpa[labelsOf,nodesOf,sz,labelOf,Nat.add_assoc]using h)
  have e0:sz (.add l a b)=sz a+sz b+1:=by simp[sz,nodesOf]
  refine⟨h1,n+1+sz a,ih1 _ h2,?_⟩
  rw[e0,show n+(sz a+sz b+1)=n+1+sz a+sz b by omega]
  exact ih2 _ h3
theorem sz_pos (e:Expr):1<=sz e:=by cases e<;>simp[sz,nodesOf]
theorem numberOf_name {x:Name} (h:isName x=true):numberOf x=none:=by
 have hs:=name_small h
 cases x with
 |nil=>exact absurd rfl (name_ne h)
 |cons b r=>
  have e:isDigit b=false:=small_no_digit (hs b (by simp))
  simp[numberOf,e]
theorem digit_no_small {b:UInt8} (h:isDigit b=true):isSmall b=false:=by
 cases q:isSmall b with
 |false=>rfl
 |true=>rw[small_no_digit q]at h;cases h
theorem toks_head:∀e:Expr,Good e->∃w q,toks e=w::q/\RESERVED.contains w=false/\w≠[41]:=by
 have br:∀q:List Text,∃w r,([40]:Text)::q=w::r/\RESERVED.contains w=false/\w≠[41]:=fun q=>⟨[40],q,rfl,by decide,by decide⟩
 intro e g
 cases e with
 |num l n=>
  refine⟨decimal n,[],rfl,?_,?_⟩
  ·have:∀n:Fin 100,RESERVED.contains (decimal n.val)=false:=by decide +kernel
   exact this ⟨n,by have:n<=99:=g;omega⟩
  ·have:∀n:Fin 100,decimal n.val≠[41]:=by decide +kernel
   exact this ⟨n,by have:n<=99:=g;omega⟩
 |var l x=>
  have g:isName x=true:=g
  refine⟨x,[],rfl,?_,?_⟩
  ·simp only[isName,Bool.and_eq_true,Bool.not_eq_true']at g;exact g.2.2.2
  ·rintro rfl;exact absurd g (by decide)
 |_=>exact br _
theorem res_not {w:Text} (h:RESERVED.contains w=false) (v:Text) (hv:RESERVED.contains v=true):w≠v:=by
 rintro rfl
 rw[h]at hv
 cases hv
theorem w_let_fun:(ascii "let"=ascii "fun")=False:=by simp only[eq_iff_iff,iff_false];decide
theorem w_if_fun:(ascii "if"=ascii "fun")=False:=by simp only[eq_iff_iff,iff_false];decide
theorem w_if_let:(ascii "if"=ascii "let")=False:=by simp only[eq_iff_iff,iff_false];decide
theorem w_pair_fun:(ascii "pair"=ascii "fun")=False:=by simp only[eq_iff_iff,iff_false];decide
theorem w_pair_let:(ascii "pair"=ascii "let")=False:=by simp only[eq_iff_iff,iff_false];decide
theorem w_pair_if:(ascii "pair"=ascii "if")=False:=by simp only[eq_iff_iff,iff_false];decide
theorem w_fst_fun:(ascii "fst"=ascii "fun")=False:=by simp only[eq_iff_iff,iff_false];decide
theorem w_fst_let:(ascii "fst"=ascii "let")=False:=by simp only[eq_iff_iff,iff_false];decide
theorem w_fst_if:(ascii "fst"=ascii "if")=False:=by simp only[eq_iff_iff,iff_false];decide
theorem w_fst_pair:(ascii "fst"=ascii "pair")=False:=by simp only[eq_iff_iff,iff_false];decide
theorem w_snd_fun:(ascii "snd"=ascii "fun")=False:=by simp only[eq_iff_iff,iff_false];decide
theorem w_snd_let:(ascii "snd"=ascii "let")=False:=by simp only[eq_iff_iff,iff_false];decide
theorem w_snd_if:(ascii "snd"=ascii "if")=False:=by simp only[eq_iff_iff,iff_false];decide
theorem w_snd_pair:(ascii "snd"=ascii "pair")=False:=by simp only[eq_iff_iff,iff_false];decide
theorem w_snd_fst:(ascii "snd"=ascii "fst")=False:=by simp only[eq_iff_iff,iff_false];decide
theorem w_new_fun:(ascii "new"=ascii "fun")=False:=by simp only[eq_iff_iff,iff_false];decide
theorem w_new_let:(ascii "new"=ascii "let")=False:=by simp only[eq_iff_iff,iff_false];decide
theorem w_new_if:(ascii "new"=ascii "if")=False:=by simp only[eq_iff_iff,iff_false];decide
theorem w_new_pair:(ascii "new"=ascii "pair")=False:=by simp only[eq_iff_iff,iff_false];decide
theorem w_new_fst:(ascii "new"=ascii "fst")=False:=by simp only[eq_iff_iff,iff_false];decide
theorem w_new_snd:(ascii "new"=ascii "snd")=False:=by simp only[eq_iff_iff,iff_false];decide
theorem w_get_fun:(ascii "get"=ascii "fun")=False:=by simp only[eq_iff_iff,iff_false];decide
theorem w_get_let:(ascii "get"=ascii "let")=False:=by simp only[eq_iff_iff,iff_false];decide
theorem w_get_if:(ascii "get"=ascii "if")=False:=by simp only[eq_iff_iff,iff_false];decide
theorem w_get_pair:(ascii "get"=ascii "pair")=False:=by simp only[eq_iff_iff,iff_false];decide
theorem w_get_fst:(ascii "get"=ascii "fst")=False:=by simp only[eq_iff_iff,iff_false];decide
theorem w_get_snd:(ascii "get"=ascii "snd")=False:=by simp only[eq_iff_iff,iff_false];decide
theorem w_get_new:(ascii "get"=ascii "new")=False:=by simp only[eq_iff_iff,iff_false];decide
theorem w_set_fun:(ascii "set"=ascii "fun")=False:=by simp only[eq_iff_iff,iff_false];decide
theorem w_set_let:(ascii "set"=ascii "let")=False:=by simp only[eq_iff_iff,iff_false];decide
theorem w_set_if:(ascii "set"=ascii "if")=False:=by simp only[eq_iff_iff,iff_false];decide
theorem w_set_pair:(ascii "set"=ascii "pair")=False:=by simp only[eq_iff_iff,iff_false];decide
theorem w_set_fst:(ascii "set"=ascii "fst")=False:=by simp only[eq_iff_iff,iff_false];decide
theorem w_set_snd:(ascii "set"=ascii "snd")=False:=by simp only[eq_iff_iff,iff_false];decide
theorem w_set_new:(ascii "set"=ascii "new")=False:=by simp only[eq_iff_iff,iff_false];decide
theorem w_set_get:(ascii "set"=ascii "get")=False:=by simp only[eq_iff_iff,iff_false];decide
theorem w_add_fun:(ascii "add"=ascii "fun")=False:=by simp only[eq_iff_iff,iff_false];decide
theorem w_add_let:(ascii "add"=ascii "let")=False:=by simp only[eq_iff_iff,iff_false];decide
theorem w_add_if:(ascii "add"=ascii "if")=False:=by simp only[eq_iff_iff,iff_false];decide
theorem w_add_pair:(ascii "add"=ascii "pair")=False:=by simp only[eq_iff_iff,iff_false];decide
theorem w_add_fst:(ascii "add"=ascii "fst")=False:=by simp only[eq_iff_iff,iff_false];decide
theorem w_add_snd:(ascii "add"=ascii "snd")=False:=by simp only[eq_iff_iff,iff_false];decide
theorem w_add_new:(ascii "add"=ascii "new")=False:=by simp only[eq_iff_iff,iff_false];decide
theorem w_add_get:(ascii "add"=ascii "get")=False:=by simp only[eq_iff_iff,iff_false];decide
theorem w_add_set:(ascii "add"=ascii "set")=False:=by simp only[eq_iff_iff,iff_false];decide
theorem read_leaf {f n:Nat} {t:Text} {ts:List Text} (h1:t≠[41]) (h2:t≠[40]):Vacfaa.read (f+1) n (t::ts)=(match numberOf t with
  |some k=>some ⟨.num n k,n+1,ts⟩
  |none=>some ⟨.var n t,n+1,ts⟩):=by
 rw[Vacfaa.read.eq_def]
 simp only[if_neg h1,if_pos h2]
 rfl
theorem closing_ok {n:Nat} {a:Expr} {e:Expr} {ts:List Text}:closing ⟨a,n,[41]::ts⟩ e=some ⟨e,n,ts⟩:=by simp[closing]
theorem read_ok:∀(e:Expr),Good e->∀(n n' f:Nat) (ts:List Text),Lab e n n'->sz e<=f->Vacfaa.read f n (toks e++ts)=some ⟨e,n',ts⟩:=by
 intro e
 induction e with
 |num l k=>
  intro g n n' f ts h hf
  obtain⟨rfl,rfl⟩:=h
  obtain⟨f,rfl⟩:∃k,f=k+1:=⟨f-1,by have:=sz_pos (.num l k);omega⟩
  have g:k<=99:=g
  have w:=wd_num g
  rw[toks,List.cons_append,read_leaf (fun z=>by rw[z]at w;exact(w.2 41 (by simp)).2.1 rfl) (fun z=>by rw[z]at w;exact(w.2 40 (by simp)).1 rfl),num_of g]
  rfl
 |var l x=>
  intro g n n' f ts h hf
  obtain⟨rfl,rfl⟩:=h
  obtain⟨f,rfl⟩:∃k,f=k+1:=⟨f-1,by have:=sz_pos (.var l x);omega⟩
  have g:isName x=true:=g
  have w:=wd_name g
  rw[toks,List.cons_append,read_leaf (fun z=>by rw[z]at w;exact(w.2 41 (by simp)).2.1 rfl) (fun z=>by rw[z]at w;exact(w.2 40 (by simp)).1 rfl),numberOf_name g]
  rfl
 |fn l x b ih=>
  intro g n n' f ts h hf
  obtain⟨rfl,h1⟩:=h
  have e0:sz (.fn l x b)=sz b+1:=by simp[sz,nodesOf]
  obtain⟨f,rfl⟩:∃k,f=k+1:=⟨f-1,by omega⟩
  have r1:=ih g.2 _ _ f ([41]::ts) h1 (by omega)
  simp only[toks,List.cons_append,List.append_assoc,List.nil_append]
  rw[Vacfaa.read.eq_def]
  simp only[show(([40]:Text)=[41])=False by simp,if_false,ne_eq,not_true_eq_false,if_true,r1,Option.bind_some,closing_ok]
 |app l a b ih1 ih2=>
  intro g n n' f ts h hf
  obtain⟨rfl,m,h1,h2⟩:=h
  have e0:sz (.app l a b)=sz a+sz b+1:=by simp[sz,nodesOf]
  have p1:=sz_pos a
  have p2:=sz_pos b
  obtain⟨f,rfl⟩:∃k,f=k+1:=⟨f-1,by omega⟩
  have r1:=ih1 g.1 _ _ f (toks b++([41]::ts)) h1 (by omega)
  have r2:=ih2 g.2 _ _ f ([41]::ts) h2 (by omega)
  obtain⟨w,q,ew,hw,hw2⟩:=toks_head a g.1
  simp only[toks,List.cons_append,List.append_assoc,List.nil_append]
  rw[ew]at r1 ⊢
  simp only[List.cons_append]at r1 ⊢
  rw[Vacfaa.read.eq_def]
  simp only[show(([40]:Text)=[41])=False by simp,if_false,ne_eq,not_true_eq_false,if_neg (res_not hw (ascii "fun") (by decide)),if_neg (res_not hw (ascii "let") (by decide)),if_neg (res_not hw (ascii "if") (by decide)),if_neg (res_not hw (ascii "pair") (by decide)),
   if_neg (res_not hw (ascii "fst") (by decide)),if_neg (res_not hw (ascii "snd") (by decide)),if_neg (res_not hw (ascii "new") (by decide)),if_neg (res_not hw (ascii "get") (by decide)),if_neg (res_not hw (ascii "set") (by decide)),if_neg (res_not hw (ascii "add") (by decide)),r1,Option.bind_some,r2,closing_ok]
 |letE l x a b ih1 ih2=>
  intro g n n' f ts h hf
  obtain⟨rfl,m,h1,h2⟩:=h
  have e0:sz (.letE l x a b)=sz a+sz b+1:=by simp[sz,nodesOf]
  have p1:=sz_pos a
  have p2:=sz_pos b
  obtain⟨f,rfl⟩:∃k,f=k+1:=⟨f-1,by omega⟩
  have r1:=ih1 g.2.1 _ _ f (toks b++([41]::ts)) h1 (by omega)
  have r2:=ih2 g.2.2 _ _ f ([41]::ts) h2 (by omega)
  simp only[toks,List.cons_append,List.append_assoc,List.nil_append]
  rw[Vacfaa.read.eq_def]
  simp only[show(([40]:Text)=[41])=False by simp,if_false,ne_eq,not_true_eq_false,w_let_fun,w_if_fun,w_if_let,w_pair_fun,w_pair_let,w_pair_if,w_fst_fun,w_fst_let,w_fst_if,w_fst_pair,w_snd_fun,w_snd_let,w_snd_if,w_snd_pair,w_snd_fst,w_new_fun,w_new_let,w_new_if,w_new_pair,w_new_fst,w_new_snd,w_get_fun,w_get_let,w_get_if,w_get_pair,w_get_fst,w_get_snd,w_get_new,w_set_fun,w_set_let,w_set_if,w_set_pair,w_set_fst,w_set_snd,w_set_new,w_set_get,w_add_fun,w_add_let,w_add_if,w_add_pair,w_add_fst,w_add_snd,w_add_new,w_add_get,w_add_set,if_true,r1,Option.bind_some,r2,closing_ok]
 |ifz l a b c ih1 ih2 ih3=>
  intro g n n' f ts h hf
  obtain⟨rfl,m,k,h1,h2,h3⟩:=h
  have e0:sz (.ifz l a b c)=sz a+(sz b+sz c)+1:=by simp[sz,nodesOf]
  have p1:=sz_pos a
  have p2:=sz_pos b
  have p3:=sz_pos c
  obtain⟨f,rfl⟩:∃k,f=k+1:=⟨f-1,by omega⟩
  have r1:=ih1 g.1 _ _ f (toks b++(toks c++([41]::ts))) h1 (by omega)
  have r2:=ih2 g.2.1 _ _ f (toks c++([41]::ts)) h2 (by omega)
  have r3:=ih3 g.2.2 _ _ f ([41]::ts) h3 (by omega)
  simp only[toks,List.cons_append,List.append_assoc,List.nil_append]
  rw[Vacfaa.read.eq_def]
  simp only[show(([40]:Text)=[41])=False by simp,if_false,ne_eq,not_true_eq_false,w_let_fun,w_if_fun,w_if_let,w_pair_fun,w_pair_let,w_pair_if,w_fst_fun,w_fst_let,w_fst_if,w_fst_pair,w_snd_fun,w_snd_let,w_snd_if,w_snd_pair,w_snd_fst,w_new_fun,w_new_let,w_new_if,w_new_pair,w_new_fst,w_new_snd,w_get_fun,w_get_let,w_get_if,w_get_pair,w_get_fst,w_get_snd,w_get_new,w_set_fun,w_set_let,w_set_if,w_set_pair,w_set_fst,w_set_snd,w_set_new,w_set_get,w_add_fun,w_add_let,w_add_if,w_add_pair,w_add_fst,w_add_snd,w_add_new,w_add_get,w_add_set,if_true,r1,Option.bind_some,r2,r3,closing_ok]
 |pair l a b ih1 ih2=>
  intro g n n' f ts h hf
  obtain⟨rfl,m,h1,h2⟩:=h
  have e0:sz (.pair l a b)=sz a+sz b+1:=by simp[sz,nodesOf]
  have p1:=sz_pos a
  have p2:=sz_pos b
  obtain⟨f,rfl⟩:∃k,f=k+1:=⟨f-1,by omega⟩
  have r1:=ih1 g.1 _ _ f (toks b++([41]::ts)) h1 (by omega)
  have r2:=ih2 g.2 _ _ f ([41]::ts) h2 (by omega)
  simp only[toks,List.cons_append,List.append_assoc,List.nil_append]
  rw[Vacfaa.read.eq_def]
  simp only[show(([40]:Text)=[41])=False by simp,if_false,ne_eq,not_true_eq_false,w_let_fun,w_if_fun,w_if_let,w_pair_fun,w_pair_let,w_pair_if,w_fst_fun,w_fst_let,w_fst_if,w_fst_pair,w_snd_fun,w_snd_let,w_snd_if,w_snd_pair,w_snd_fst,w_new_fun,w_new_let,w_new_if,w_new_pair,w_new_fst,w_new_snd,w_get_fun,w_get_let,w_get_if,w_get_pair,w_get_fst,w_get_snd,w_get_new,w_set_fun,w_set_let,w_set_if,w_set_pair,w_set_fst,w_set_snd,w_set_new,w_set_get,w_add_fun,w_add_let,w_add_if,w_add_pair,w_add_fst,w_add_snd,w_add_new,w_add_get,w_add_set,if_true,r1,Option.bind_some,r2,closing_ok]
 |fst l b ih=>
  intro g n n' f ts h hf
  obtain⟨rfl,h1⟩:=h
  have e0:sz (.fst l b)=sz b+1:=by simp[sz,nodesOf]
  obtain⟨f,rfl⟩:∃k,f=k+1:=⟨f-1,by omega⟩
  have r1:=ih g _ _ f ([41]::ts) h1 (by omega)
  simp only[toks,List.cons_append,List.append_assoc,List.nil_append]
  rw[Vacfaa.read.eq_def]
  simp only[show(([40]:Text)=[41])=False by simp,if_false,ne_eq,not_true_eq_false,w_let_fun,w_if_fun,w_if_let,w_pair_fun,w_pair_let,w_pair_if,w_fst_fun,w_fst_let,w_fst_if,w_fst_pair,w_snd_fun,w_snd_let,w_snd_if,w_snd_pair,w_snd_fst,w_new_fun,w_new_let,w_new_if,w_new_pair,w_new_fst,w_new_snd,w_get_fun,w_get_let,w_get_if,w_get_pair,w_get_fst,w_get_snd,w_get_new,w_set_fun,w_set_let,w_set_if,w_set_pair,w_set_fst,w_set_snd,w_set_new,w_set_get,w_add_fun,w_add_let,w_add_if,w_add_pair,w_add_fst,w_add_snd,w_add_new,w_add_get,w_add_set,if_true,r1,Option.bind_some,closing_ok]
 |snd l b ih=>
  intro g n n' f ts h hf
  obtain⟨rfl,h1⟩:=h
  have e0:sz (.snd l b)=sz b+1:=by simp[sz,nodesOf]
  obtain⟨f,rfl⟩:∃k,f=k+1:=⟨f-1,by omega⟩
  have r1:=ih g _ _ f ([41]::ts) h1 (by omega)
  simp only[toks,List.cons_append,List.append_assoc,List.nil_append]
  rw[Vacfaa.read.eq_def]
  simp only[show(([40]:Text)=[41])=False by simp,if_false,ne_eq,not_true_eq_false,w_let_fun,w_if_fun,w_if_let,w_pair_fun,w_pair_let,w_pair_if,w_fst_fun,w_fst_let,w_fst_if,w_fst_pair,w_snd_fun,w_snd_let,w_snd_if,w_snd_pair,w_snd_fst,w_new_fun,w_new_let,w_new_if,w_new_pair,w_new_fst,w_new_snd,w_get_fun,w_get_let,w_get_if,w_get_pair,w_get_fst,w_get_snd,w_get_new,w_set_fun,w_set_let,w_set_if,w_set_pair,w_set_fst,w_set_snd,w_set_new,w_set_get,w_add_fun,w_add_let,w_add_if,w_add_pair,w_add_fst,w_add_snd,w_add_new,w_add_get,w_add_set,if_true,r1,Option.bind_some,closing_ok]
 |new l b ih=>
  intro g n n' f ts h hf
  obtain⟨rfl,h1⟩:=h
  have e0:sz (.new l b)=sz b+1:=by simp[sz,nodesOf]
  obtain⟨f,rfl⟩:∃k,f=k+1:=⟨f-1,by omega⟩
  have r1:=ih g _ _ f ([41]::ts) h1 (by omega)
  simp only[toks,List.cons_append,List.append_assoc,List.nil_append]
  rw[Vacfaa.read.eq_def]
  simp only[show(([40]:Text)=[41])=False by simp,if_false,ne_eq,not_true_eq_false,w_let_fun,w_if_fun,w_if_let,w_pair_fun,w_pair_let,w_pair_if,w_fst_fun,w_fst_let,w_fst_if,w_fst_pair,w_snd_fun,w_snd_let,w_snd_if,w_snd_pair,w_snd_fst,w_new_fun,w_new_let,w_new_if,w_new_pair,w_new_fst,w_new_snd,w_get_fun,w_get_let,w_get_if,w_get_pair,w_get_fst,w_get_snd,w_get_new,w_set_fun,w_set_let,w_set_if,w_set_pair,w_set_fst,w_set_snd,w_set_new,w_set_get,w_add_fun,w_add_let,w_add_if,w_add_pair,w_add_fst,w_add_snd,w_add_new,w_add_get,w_add_set,if_true,r1,Option.bind_some,closing_ok]
 |get l b ih=>
  intro g n n' f ts h hf
  obtain⟨rfl,h1⟩:=h
  have e0:sz (.get l b)=sz b+1:=by simp[sz,nodesOf]
  obtain⟨f,rfl⟩:∃k,f=k+1:=⟨f-1,by omega⟩
  have r1:=ih g _ _ f ([41]::ts) h1 (by omega)
  simp only[toks,List.cons_append,List.append_assoc,List.nil_append]
  rw[Vacfaa.read.eq_def]
  simp only[show(([40]:Text)=[41])=False by simp,if_false,ne_eq,not_true_eq_false,w_let_fun,w_if_fun,w_if_let,w_pair_fun,w_pair_let,w_pair_if,w_fst_fun,w_fst_let,w_fst_if,w_fst_pair,w_snd_fun,w_snd_let,w_snd_if,w_snd_pair,w_snd_fst,w_new_fun,w_new_let,w_new_if,w_new_pair,w_new_fst,w_new_snd,w_get_fun,w_get_let,w_get_if,w_get_pair,w_get_fst,w_get_snd,w_get_new,w_set_fun,w_set_let,w_set_if,w_set_pair,w_set_fst,w_set_snd,w_set_new,w_set_get,w_add_fun,w_add_let,w_add_if,w_add_pair,w_add_fst,w_add_snd,w_add_new,w_add_get,w_add_set,if_true,r1,Option.bind_some,closing_ok]
 |set l a b ih1 ih2=>
  intro g n n' f ts h hf
  obtain⟨rfl,m,h1,h2⟩:=h
  have e0:sz (.set l a b)=sz a+sz b+1:=by simp[sz,nodesOf]
  have p1:=sz_pos a
  have p2:=sz_pos b
  obtain⟨f,rfl⟩:∃k,f=k+1:=⟨f-1,by omega⟩
  have r1:=ih1 g.1 _ _ f (toks b++([41]::ts)) h1 (by omega)
  have r2:=ih2 g.2 _ _ f ([41]::ts) h2 (by omega)
  simp only[toks,List.cons_append,List.append_assoc,List.nil_append]
  rw[Vacfaa.read.eq_def]
  simp only[show(([40]:Text)=[41])=False by simp,if_false,ne_eq,not_true_eq_false,w_let_fun,w_if_fun,w_if_let,w_pair_fun,w_pair_let,w_pair_if,w_fst_fun,w_fst_let,w_fst_if,w_fst_pair,w_snd_fun,w_snd_let,w_snd_if,w_snd_pair,w_snd_fst,w_new_fun,w_new_let,w_new_if,w_new_pair,w_new_fst,w_new_snd,w_get_fun,w_get_let,w_get_if,w_get_pair,w_get_fst,w_get_snd,w_get_new,w_set_fun,w_set_let,w_set_if,w_set_pair,w_set_fst,w_set_snd,w_set_new,w_set_get,w_add_fun,w_add_let,w_add_if,w_add_pair,w_add_fst,w_add_snd,w_add_new,w_add_get,w_add_set,if_true,r1,Option.bind_some,r2,closing_ok]
 |add l a b ih1 ih2=>
  intro g n n' f ts h hf
  obtain⟨rfl,m,h1,h2⟩:=h
  have e0:sz (.add l a b)=sz a+sz b+1:=by simp[sz,nodesOf]
  have p1:=sz_pos a
  have p2:=sz_pos b
  obtain⟨f,rfl⟩:∃k,f=k+1:=⟨f-1,by omega⟩
  have r1:=ih1 g.1 _ _ f (toks b++([41]::ts)) h1 (by omega)
  have r2:=ih2 g.2 _ _ f ([41]::ts) h2 (by omega)
  simp only[toks,List.cons_append,List.append_assoc,List.nil_append]
  rw[Vacfaa.read.eq_def]
  simp only[show(([40]:Text)=[41])=False by simp,if_false,ne_eq,not_true_eq_false,w_let_fun,w_if_fun,w_if_let,w_pair_fun,w_pair_let,w_pair_if,w_fst_fun,w_fst_let,w_fst_if,w_fst_pair,w_snd_fun,w_snd_let,w_snd_if,w_snd_pair,w_snd_fst,w_new_fun,w_new_let,w_new_if,w_new_pair,w_new_fst,w_new_snd,w_get_fun,w_get_let,w_get_if,w_get_pair,w_get_fst,w_get_snd,w_get_new,w_set_fun,w_set_let,w_set_if,w_set_pair,w_set_fst,w_set_snd,w_set_new,w_set_get,w_add_fun,w_add_let,w_add_if,w_add_pair,w_add_fst,w_add_snd,w_add_new,w_add_get,w_add_set,if_true,r1,Option.bind_some,r2,closing_ok]
theorem toks_len:∀e:Expr,sz e<=(toks e).length:=by
 intro e
 induction e<;>simp[sz,nodesOf,toks]at *<;>omega
theorem programOf_iff (t:Text) (e:Expr):programOf t=some e↔isProgram e=true/\textOf e=t:=by
 constructor
 ·intro h
  unfold programOf at h
  obtain⟨g,hg,h⟩:=Option.bind_eq_some_iff.mp h
  split at h
  ·rename_i q
   simp only[Bool.and_eq_true,beq_iff_eq]at q
   cases h
   exact⟨q.2.1,q.2.2⟩
  ·cases h
 ·rintro⟨h1,rfl⟩
  have h1':=h1
  simp only[isProgram,Bool.and_eq_true,beq_iff_eq]at h1'
  obtain⟨c1,c2,c3,c4⟩:=h1'
  have g:=good_of_closed e _ c1
  have t0:tokensOf [] (textOf e)=toks e:=by
   have:=tk_expr e g [] (.inl rfl)
   rw[List.append_nil]at this
   rw[this]
   simp[tokensOf]
  have l0:Lab e 0 (0+sz e):=lab_of e 0 (by rw[<-len_labels,<-List.range_eq_range'];exact c2)
  have r0:=read_ok e g 0 _ ((toks e).length+1) [] l0 (by have:=toks_len e;omega)
  rw[List.append_nil]at r0
  unfold programOf
  simp only[t0,r0,Option.bind_some,List.isEmpty_nil,Bool.true_and,h1,beq_self_eq_true,if_true]
def kindW (w:Text):Option Nat:=
 if w=ascii "fun" then some 2 else if w=ascii "let" then some 4 else if w=ascii "if" then some 5 else if w=ascii "pair" then some 6 else if w=ascii "fst" then some 7 else if w=ascii "snd" then some 8
 else if w=ascii "new" then some 9 else if w=ascii "get" then some 10 else if w=ascii "set" then some 11 else if w=ascii "add" then some 12 else none
def wordK (k:Nat):Text:=
 if k=2 then ascii "fun" else if k=4 then ascii "let" else if k=5 then ascii "if" else if k=6 then ascii "pair" else if k=7 then ascii "fst" else if k=8 then ascii "snd"
 else if k=9 then ascii "new" else if k=10 then ascii "get" else if k=11 then ascii "set" else if k=12 then ascii "add" else[]
def nparts (k:Nat):Nat:=if k=5 then 3 else if k=3\/k=4\/k=6\/k=11\/k=12 then 2 else if k=2\/(7<=k/\k<=10)then 1 else 0
def mkE (k l:Nat) (x:Name):List Expr->Option Expr
 |[a]=>if k=2 then some (.fn l x a)else if k=7 then some (.fst l a)else if k=8 then some (.snd l a)else if k=9 then some (.new l a)else if k=10 then some (.get l a)else none
 |[a,b]=>if k=3 then some (.app l a b)else if k=4 then some (.letE l x a b)else if k=6 then some (.pair l a b)else if k=11 then some (.set l a b)else if k=12 then some (.add l a b)else none
 |[a,b,c]=>if k=5 then some (.ifz l a b c)else none
 |_=>none
abbrev Scp:=List (Name×Nat)
def names (sc:Scp):List Name:=sc.map (·.1)++[INPUT]
def scAt (k l:Nat) (x:Name) (sc:Scp) (i:Nat):Scp:=if k=2\/(k=4/\i=1)then(x,l)::sc else sc
def unblank (no:Prop) [Decidable no] (t:Text):Option Text:=if no then some t else match t with
 |b::r=>if b=32 then some r else none
 |[]=>none
abbrev Rec:=Scp->Nat->Text->Option (Expr×Nat×Text)
def parts (rec:Rec) (k l:Nat) (x:Name) (sc:Scp):Nat->List Expr->Nat->Text->Option (Expr×Nat×Text)
 |0,done,n,t=>match t with
  |b::r=>if b=41 then(mkE k l x done).map fun e=>(e,n,r)else none
  |[]=>none
 |m+1,done,n,t=>(unblank (k=3/\done=[]) t).bind fun t1=>(rec (scAt k l x sc done.length) n t1).bind fun z=>parts rec k l x sc m (done++[z.1]) z.2.1 z.2.2
def numOk (ds:Text):Bool:=decide (ds.length<=2)&&!(decide (1<ds.length)&&ds.head?==some 48)
def pexp:Nat->Nat->Rec
 |0,_,_,_,_=>none
 |f+1,d,sc,n,t=>if 30<=n\/8<d then none else match t with
  |[]=>none
  |b::r=>if b=40 then(match kindW (r.takeWhile isSmall)with
    |some k=>if k=2\/k=4 then(match r.dropWhile isSmall with
      |c::q=>if c=32/\isName (q.takeWhile isSmall)=true/\q.takeWhile isSmall≠INPUT then parts (pexp f (d+1)) k n (q.takeWhile isSmall) sc (nparts k) [] (n+1) (q.dropWhile isSmall)else none
      |[]=>none)
     else parts (pexp f (d+1)) k n [] sc (nparts k) [] (n+1) (r.dropWhile isSmall)
    |none=>parts (pexp f (d+1)) 3 n [] sc 2 [] (n+1) r)
   else if isDigit b=true then(if numOk ((b::r).takeWhile isDigit)=true then some (.num n (valueOf ((b::r).takeWhile isDigit)),n+1,(b::r).dropWhile isDigit)else none)
   else if isName ((b::r).takeWhile isSmall)=true/\(b::r).takeWhile isSmall∈names sc then some (.var n ((b::r).takeWhile isSmall),n+1,(b::r).dropWhile isSmall)else none
def partsText (k:Nat):Nat->List Expr->Text
 |_,[]=>[]
 |i,p::ps=>(if k=3/\i=0 then[]else[32])++textOf p++partsText k (i+1) ps
def headT (k:Nat) (x:Name):Text:=if k=2\/k=4 then wordK k++32::x else wordK k
def closedL (k l:Nat) (x:Name) (sc:Scp):Nat->List Expr->Bool
 |_,[]=>true
 |i,p::ps=>isClosed (names (scAt k l x sc i)) p&&closedL k l x sc (i+1) ps
def LabL:List Expr->Nat->Nat->Prop
 |[],n,n'=>n=n'
 |p::ps,n,n'=>∃m,Lab p n m/\LabL ps m n'
def deepL:List Expr->Nat
 |[]=>0
 |p::ps=>max (deepOf p) (deepL ps)
theorem mk_cases {k l:Nat} {x:Name} {ps:List Expr} {e:Expr} (h:mkE k l x ps=some e) :
  (∃a,ps=[a]/\((k=2/\e=.fn l x a)\/(k=7/\e=.fst l a)\/(k=8/\e=.snd l a)\/(k=9/\e=.new l a)\/(k=10/\e=.get l a))) \/
  (∃a b,ps=[a,b]/\((k=3/\e=.app l a b)\/(k=4/\e=.letE l x a b)\/(k=6/\e=.pair l a b)\/(k=11/\e=.set l a b)\/(k=12/\e=.add l a b))) \/
  (∃a b c,ps=[a,b,c]/\k=5/\e=.ifz l a b c):=by
 match ps,h with
 |[a],h=>
  refine .inl ⟨a,rfl,?_⟩
  simp only[mkE]at h
  repeat (first|(split at h<;>rename_i q;· cases h;simp[q])|cases h)
 |[a,b],h=>
  refine .inr (.inl ⟨a,b,rfl,?_⟩)
  simp only[mkE]at h
  repeat (first|(split at h<;>rename_i q;· cases h;simp[q])|cases h)
 |[a,b,c],h=>
  refine .inr (.inr ⟨a,b,c,rfl,?_⟩)
  simp only[mkE]at h
  repeat (first|(split at h<;>rename_i q;· cases h;simp[q])|cases h)
 |[],h=>cases h
 |_::_::_::_::_,h=>cases h
theorem mk_text {k l:Nat} {x:Name} {ps:List Expr} {e:Expr} (h:mkE k l x ps=some e):textOf e=40::(headT k x++(partsText k 0 ps++[41])):=by
 rcases mk_cases h with⟨a,rfl,q⟩|⟨a,b,rfl,q⟩|⟨a,b,c,rfl,q⟩
 ·rcases q with⟨rfl,rfl⟩|⟨rfl,rfl⟩|⟨rfl,rfl⟩|⟨rfl,rfl⟩|⟨rfl,rfl⟩<;>simp[textOf,inBrackets,spaced,gluedBy,headT,partsText,wordK]
 ·rcases q with⟨rfl,rfl⟩|⟨rfl,rfl⟩|⟨rfl,rfl⟩|⟨rfl,rfl⟩|⟨rfl,rfl⟩<;>simp[textOf,inBrackets,spaced,gluedBy,headT,partsText,wordK]
 ·obtain⟨rfl,rfl⟩:=q
  simp[textOf,inBrackets,spaced,gluedBy,headT,partsText,wordK]
theorem mk_closed {k l:Nat} {x:Name} {ps:List Expr} {e:Expr} (sc:Scp) (h:mkE k l x ps=some e):isClosed (names sc) e=((!decide (k=2\/k=4) || (isName x&&x != INPUT))&&closedL k l x sc 0 ps):=by
 rcases mk_cases h with⟨a,rfl,q⟩|⟨a,b,rfl,q⟩|⟨a,b,c,rfl,q⟩
 ·rcases q with⟨rfl,rfl⟩|⟨rfl,rfl⟩|⟨rfl,rfl⟩|⟨rfl,rfl⟩|⟨rfl,rfl⟩<;>simp[isClosed,closedL,scAt,names,Bool.and_assoc]
 ·rcases q with⟨rfl,rfl⟩|⟨rfl,rfl⟩|⟨rfl,rfl⟩|⟨rfl,rfl⟩|⟨rfl,rfl⟩<;>simp[isClosed,closedL,scAt,names,Bool.and_assoc]
 ·obtain⟨rfl,rfl⟩:=q
  simp[isClosed,closedL,scAt,names]
theorem mk_lab {k l:Nat} {x:Name} {ps:List Expr} {e:Expr} (h:mkE k l x ps=some e) (n n':Nat):Lab e n n'↔l=n/\LabL ps (n+1) n':=by
 rcases mk_cases h with⟨a,rfl,q⟩|⟨a,b,rfl,q⟩|⟨a,b,c,rfl,q⟩
 ·rcases q with⟨rfl,rfl⟩|⟨rfl,rfl⟩|⟨rfl,rfl⟩|⟨rfl,rfl⟩|⟨rfl,rfl⟩<;>simp[Lab,LabL]
 ·rcases q with⟨rfl,rfl⟩|⟨rfl,rfl⟩|⟨rfl,rfl⟩|⟨rfl,rfl⟩|⟨rfl,rfl⟩<;>simp[Lab,LabL]
 ·obtain⟨rfl,rfl⟩:=q
  simp only[Lab,LabL]
  constructor
  ·rintro⟨h1,m,k,a1,a2,a3⟩
   exact⟨h1,m,a1,k,a2,n',a3,rfl⟩
  ·rintro⟨h1,m,a1,k,a2,k2,a3,rfl⟩
   exact⟨h1,m,k,a1,a2,a3⟩
theorem mk_deep {k l:Nat} {x:Name} {ps:List Expr} {e:Expr} (h:mkE k l x ps=some e):deepOf e=deepL ps+1:=by
 rcases mk_cases h with⟨a,rfl,q⟩|⟨a,b,rfl,q⟩|⟨a,b,c,rfl,q⟩
 ·rcases q with⟨rfl,rfl⟩|⟨rfl,rfl⟩|⟨rfl,rfl⟩|⟨rfl,rfl⟩|⟨rfl,rfl⟩<;>simp[deepOf,deepL]
 ·rcases q with⟨rfl,rfl⟩|⟨rfl,rfl⟩|⟨rfl,rfl⟩|⟨rfl,rfl⟩|⟨rfl,rfl⟩<;>simp[deepOf,deepL]
 ·obtain⟨rfl,rfl⟩:=q
  simp[deepOf,deepL]
theorem mk_nodes {k l:Nat} {x:Name} {ps:List Expr} {e:Expr} (h:mkE k l x ps=some e):nodesOf e=e::ps.flatMap nodesOf:=by
 rcases mk_cases h with⟨a,rfl,q⟩|⟨a,b,rfl,q⟩|⟨a,b,c,rfl,q⟩
 ·rcases q with⟨rfl,rfl⟩|⟨rfl,rfl⟩|⟨rfl,rfl⟩|⟨rfl,rfl⟩|⟨rfl,rfl⟩<;>simp[nodesOf]
 ·rcases q with⟨rfl,rfl⟩|⟨rfl,rfl⟩|⟨rfl,rfl⟩|⟨rfl,rfl⟩|⟨rfl,rfl⟩<;>simp[nodesOf]
 ·obtain⟨rfl,rfl⟩:=q
  simp[nodesOf]
theorem mk_len {k l:Nat} {x:Name} {ps:List Expr} {e:Expr} (h:mkE k l x ps=some e):ps.length=nparts k:=by
 rcases mk_cases h with⟨a,rfl,q⟩|⟨a,b,rfl,q⟩|⟨a,b,c,rfl,q⟩
 ·rcases q with⟨rfl,rfl⟩|⟨rfl,rfl⟩|⟨rfl,rfl⟩|⟨rfl,rfl⟩|⟨rfl,rfl⟩<;>simp[nparts]
 ·rcases q with⟨rfl,rfl⟩|⟨rfl,rfl⟩|⟨rfl,rfl⟩|⟨rfl,rfl⟩|⟨rfl,rfl⟩<;>simp[nparts]
 ·obtain⟨rfl,rfl⟩:=q
  simp[nparts]
theorem unmk:∀e:Expr,(∃l n,e=.num l n)\/(∃l x,e=.var l x)\/∃k l x ps,mkE k l x ps=some e/\2<=k/\k<=12/\(k=3->x=[])/\(¬(k=2\/k=4)->x=[]):=by
 intro e
 cases e with
 |num l n=>exact .inl ⟨l,n,rfl⟩
 |var l x=>exact .inr (.inl ⟨l,x,rfl⟩)
 |fn l x b=>exact .inr (.inr ⟨2,l,x,[b],by simp[mkE],by omega,by omega,by simp,by simp⟩)
 |app l f a=>exact .inr (.inr ⟨3,l,[],[f,a],by simp[mkE],by omega,by omega,by simp,by simp⟩)
 |letE l x e b=>exact .inr (.inr ⟨4,l,x,[e,b],by simp[mkE],by omega,by omega,by simp,by simp⟩)
 |ifz l c t e=>exact .inr (.inr ⟨5,l,[],[c,t,e],by simp[mkE],by omega,by omega,by simp,by simp⟩)
 |pair l a b=>exact .inr (.inr ⟨6,l,[],[a,b],by simp[mkE],by omega,by omega,by simp,by simp⟩)
 |fst l e=>exact .inr (.inr ⟨7,l,[],[e],by simp[mkE],by omega,by omega,by simp,by simp⟩)
 |snd l e=>exact .inr (.inr ⟨8,l,[],[e],by simp[mkE],by omega,by omega,by simp,by simp⟩)
 |new l e=>exact .inr (.inr ⟨9,l,[],[e],by simp[mkE],by omega,by omega,by simp,by simp⟩)
 |get l e=>exact .inr (.inr ⟨10,l,[],[e],by simp[mkE],by omega,by omega,by simp,by simp⟩)
 |set l a b=>exact .inr (.inr ⟨11,l,[],[a,b],by simp[mkE],by omega,by omega,by simp,by simp⟩)
 |add l a b=>exact .inr (.inr ⟨12,l,[],[a,b],by simp[mkE],by omega,by omega,by simp,by simp⟩)
def Sound (d:Nat) (rec:Rec):Prop:=∀sc n t e n' r,rec sc n t=some (e,n',r)->t=textOf e++r/\isClosed (names sc) e=true/\Lab e n n'/\n<n'/\n'<=30/\d+deepOf e<=8
theorem tw_dw (p:UInt8->Bool) (t:Text):t=t.takeWhile p++t.dropWhile p:=(List.takeWhile_append_dropWhile).symm
theorem kindW_word {w:Text} {k:Nat} (h:kindW w=some k):w=wordK k/\2<=k/\k<=12/\k≠3:=by
 unfold kindW at h
 repeat (first|(split at h<;>rename_i q;· cases h;exact⟨by simp[q,wordK],by omega,by omega,by omega⟩)|cases h)
theorem unblank_some {no:Prop} [Decidable no] {t t1:Text} (h:unblank no t=some t1):t=(if no then[]else[32])++t1:=by
 unfold unblank at h
 split at h
 ·rename_i q;cases h;rw[if_pos q];rfl
 ·rename_i q
  rw[if_neg q]
  split at h
  ·split at h
   ·rename_i q2;cases h;rw[q2];rfl
   ·cases h
  ·cases h
theorem parts_sound {d:Nat} {rec:Rec} (S:Sound d rec) {k l:Nat} {x:Name} {sc:Scp}:∀(m:Nat) (done:List Expr) (n:Nat) (t:Text) (e:Expr) (n':Nat) (r:Text),parts rec k l x sc m done n t=some (e,n',r)->n<=30 ->
  ∃more,more.length=m/\mkE k l x (done++more)=some e/\t=partsText k done.length more++41::r/\closedL k l x sc done.length more=true/\LabL more n n'/\n<=n'/\n'<=30/\(more≠[]->d+deepL more<=8):=by
 intro m
 induction m with
 |zero=>
  intro done n t e n' r h hn
  unfold parts at h
  split at h
  ·split at h
   ·rename_i q
    obtain⟨e2,h1,h2⟩:=Option.map_eq_some_iff.mp h
    cases h2
    refine⟨[],rfl,by simpa using h1,by simp[partsText,q],rfl,rfl,Nat.le_refl _,hn,by simp⟩
   ·cases h
  ·cases h
 |succ m ih=>
  intro done n t e n' r h hn
  unfold parts at h
  obtain⟨t1,h1,h⟩:=Option.bind_eq_some_iff.mp h
  obtain⟨⟨e1,n1,r1⟩,h2,h⟩:=Option.bind_eq_some_iff.mp h
  obtain⟨s1,s2,s3,s4,s5,s6⟩:=S _ _ _ _ _ _ h2
  dsimp only at h
  obtain⟨more,g1,g2,g3,g4,g5,g6,g7,g8⟩:=ih _ _ _ _ _ _ h s5
  have hl:(done++[e1]).length=done.length+1:=by simp
  rw[hl]at g3 g4
  refine⟨e1::more,by simp[g1],by simpa using g2,?_,?_,⟨n1,s3,g5⟩,by omega,g7,fun _=>?_⟩
  ·rw[unblank_some h1,s1,g3]
   simp only[partsText,List.append_assoc]
   have e0:(k=3/\done=[])↔(k=3/\done.length=0):=by rw[List.length_eq_zero_iff]
   by_cases q:k=3/\done=[]
   ·rw[if_pos q,if_pos (e0.mp q)]
   ·rw[if_neg q,if_neg (fun z=>q (e0.mpr z))]
  ·simp only[closedL,Bool.and_eq_true]
   exact⟨s2,g4⟩
  ·simp only[deepL]
   cases more with
   |nil=>simp only[deepL];omega
   |cons a b=>have:=g8 (by simp);omega
theorem valueOf_two:∀a b:Fin 10,numOk [UInt8.ofNat (48+a.val)]=true/\decimal (valueOf [UInt8.ofNat (48+a.val)])=[UInt8.ofNat (48+a.val)]/\valueOf [UInt8.ofNat (48+a.val)]<=99 /\
  (numOk [UInt8.ofNat (48+a.val),UInt8.ofNat (48+b.val)]=true->decimal (valueOf [UInt8.ofNat (48+a.val),UInt8.ofNat (48+b.val)])=[UInt8.ofNat (48+a.val),UInt8.ofNat (48+b.val)]/\valueOf [UInt8.ofNat (48+a.val),UInt8.ofNat (48+b.val)]<=99):=by
 decide +kernel
theorem digit_fin {b:UInt8} (h:isDigit b=true):∃a:Fin 10,b=UInt8.ofNat (48+a.val):=by
 simp only[isDigit,Bool.and_eq_true]at h
 have h1:48<=b.toNat:=UInt8.le_iff_toNat_le.mp (of_decide_eq_true h.1)
 have h2:b.toNat<=57:=UInt8.le_iff_toNat_le.mp (of_decide_eq_true h.2)
 refine⟨⟨b.toNat-48,by omega⟩,?_⟩
 apply UInt8.toNat_inj.mp
 rw[UInt8.toNat_ofNat']
 show b.toNat=(48+(b.toNat-48)) % 256
 omega
theorem num_sound {ds:Text} (h1:ds≠[]) (h2:ds.all isDigit=true) (h3:numOk ds=true):decimal (valueOf ds)=ds/\valueOf ds<=99:=by
 match ds,h1,h2,h3 with
 |[a],_,h2,_=>
  obtain⟨i,rfl⟩:=digit_fin (List.all_eq_true.mp h2 a (by simp))
  exact⟨(valueOf_two i 0).2.1,(valueOf_two i 0).2.2.1⟩
 |[a,b],_,h2,h3=>
  obtain⟨i,rfl⟩:=digit_fin (List.all_eq_true.mp h2 a (by simp))
  obtain⟨j,rfl⟩:=digit_fin (List.all_eq_true.mp h2 b (by simp))
  exact(valueOf_two i j).2.2.2 h3
 |a::b::c::r,_,_,h3=>simp[numOk]at h3
theorem all_takeWhile (p:UInt8->Bool) (t:Text):(t.takeWhile p).all p=true:=List.all_takeWhile
theorem pexp_sound:∀(f d:Nat),Sound d (pexp f d):=by
 intro f
 induction f with
 |zero=>intro d sc n t e n' r h;cases h
 |succ f ih=>
  intro d sc n t e n' r h
  have S:=ih (d+1)
  have deep:∀{k l:Nat} {x:Name} {ps:List Expr} {e:Expr},mkE k l x ps=some e->(ps≠[]->d+1+deepL ps<=8)->d+deepOf e<=8:=fun{k l x ps e} hm hd=>by
   have:=mk_deep hm
   have hne:ps≠[]:=by rintro rfl;cases hm
   have:=hd hne
   omega
  unfold pexp at h
  split at h
  ·cases h
  ·rename_i hb
   have hn:n<30:=by omega
   have hd:d<=8:=by omega
   split at h
   ·cases h
   ·rename_i b r0
    split at h
    ·rename_i hb40
     subst hb40
     split at h
     ·rename_i k hk
      obtain⟨hw,k1,k2,k3⟩:=kindW_word hk
      split at h
      ·rename_i h24
       split at h
       ·rename_i c q hq
        split at h
        ·rename_i hc
         obtain⟨c1,c2,c3⟩:=hc
         obtain⟨more,g1,g2,g3,g4,g5,g6,g7,g8⟩:=parts_sound S _ _ _ _ _ _ _ h (by omega)
         rw[List.nil_append]at g2
         refine⟨?_,?_,(mk_lab g2 _ _).mpr ⟨rfl,g5⟩,by omega,g7,deep g2 g8⟩
         ·rw[mk_text g2,headT,if_pos h24,<-hw]
          have e1:=tw_dw isSmall r0
          rw[hq,c1]at e1
          have e2:=tw_dw isSmall q
          rw[g3]at e2
          have e3:=e1.trans (congrArg (fun z=>r0.takeWhile isSmall++32::z) e2)
          rw[List.cons_append]
          refine congrArg (List.cons 40) (e3.trans ?_)
          simp
         ·rw[mk_closed sc g2]
          simp[h24,c2,c3,g4]
          exact g4
        ·cases h
       ·cases h
      ·rename_i h24
       obtain⟨more,g1,g2,g3,g4,g5,g6,g7,g8⟩:=parts_sound S _ _ _ _ _ _ _ h (by omega)
       rw[List.nil_append]at g2
       refine⟨?_,?_,(mk_lab g2 _ _).mpr ⟨rfl,g5⟩,by omega,g7,deep g2 g8⟩
       ·rw[mk_text g2,headT,if_neg h24,<-hw]
        have e1:=tw_dw isSmall r0
        rw[g3]at e1
        rw[List.cons_append]
        refine congrArg (List.cons 40) (e1.trans ?_)
        simp
       ·rw[mk_closed sc g2]
        simp[h24,g4]
        exact g4
     ·obtain⟨more,g1,g2,g3,g4,g5,g6,g7,g8⟩:=parts_sound S _ _ _ _ _ _ _ h (by omega)
      rw[List.nil_append]at g2
      refine⟨?_,?_,(mk_lab g2 _ _).mpr ⟨rfl,g5⟩,by omega,g7,deep g2 g8⟩
      ·rw[mk_text g2,g3]
       simp[headT,wordK]
      ·rw[mk_closed sc g2]
       simp[g4]
       exact g4
    ·split at h
     ·rename_i hdg
      split at h
      ·rename_i hok
       cases h
       have hne:(b::r0).takeWhile isDigit≠[]:=by rw[List.takeWhile_cons,if_pos hdg];simp
       obtain⟨q1,q2⟩:=num_sound hne (all_takeWhile _ _) hok
       refine⟨?_,?_,⟨rfl,rfl⟩,by omega,by omega,by simpa[deepOf]using hd⟩
       ·rw[textOf,q1]
        exact tw_dw isDigit _
       ·exact decide_eq_true q2
      ·cases h
     ·split at h
      ·rename_i hok
       cases h
       refine⟨?_,?_,⟨rfl,rfl⟩,by omega,by omega,by simpa[deepOf]using hd⟩
       ·rw[textOf]
        exact tw_dw isSmall _
       ·simp only[isClosed,Bool.and_eq_true]
        exact⟨hok.1,by rw[List.contains_iff_mem];exact hok.2⟩
      ·cases h
theorem tw_stop (p:UInt8->Bool) {w r:Text} (h:w.all p=true) (hr:r=[]\/∃b q,r=b::q/\p b=false):(w++r).takeWhile p=w/\(w++r).dropWhile p=r:=by
 induction w with
 |nil=>
  rcases hr with rfl|⟨b,q,rfl,hb⟩
  ·simp
  ·simp[List.takeWhile_cons,List.dropWhile_cons,hb]
 |cons a w ih=>
  simp only[List.all_cons,Bool.and_eq_true]at h
  obtain⟨i1,i2⟩:=ih h.2
  rw[List.cons_append,List.takeWhile_cons,if_pos h.1,List.dropWhile_cons,if_pos h.1,i1,i2]
  exact⟨rfl,rfl⟩
theorem stop_small {r:Text} (h:Stop r):r=[]\/∃b q,r=b::q/\isSmall b=false:=by
 rcases h with h|⟨b,q,rfl,hb⟩
 ·exact .inl h
 ·exact .inr ⟨b,q,rfl,by rcases hb with rfl|rfl|rfl<;>decide⟩
theorem stop_digit {r:Text} (h:Stop r):r=[]\/∃b q,r=b::q/\isDigit b=false:=by
 rcases h with h|⟨b,q,rfl,hb⟩
 ·exact .inl h
 ·exact .inr ⟨b,q,rfl,by rcases hb with rfl|rfl|rfl<;>decide⟩
theorem num_all2:∀n:Fin 100,numOk (decimal n.val)=true/\valueOf (decimal n.val)=n.val:=by decide +kernel
theorem kindW_nil:kindW []=none:=by decide
theorem kindW_res {w:Text} (h:RESERVED.contains w=false):kindW w=none:=by
 unfold kindW
 rw[if_neg (res_not h _ (by decide)),if_neg (res_not h _ (by decide)),if_neg (res_not h _ (by decide)),if_neg (res_not h _ (by decide)),if_neg (res_not h _ (by decide)),if_neg (res_not h _ (by decide)),
  if_neg (res_not h _ (by decide)),if_neg (res_not h _ (by decide)),if_neg (res_not h _ (by decide)),if_neg (res_not h _ (by decide))]
theorem name_res {x:Name} (h:isName x=true):RESERVED.contains x=false:=by
 simp only[isName,Bool.and_eq_true,Bool.not_eq_true']at h
 exact h.2.2.2
theorem kindW_wordK:∀k:Fin 13,(k.val=0\/k.val=1\/k.val=3)\/(kindW (wordK k.val)=some k.val/\(wordK k.val).all isSmall=true):=by decide
theorem kindW_of {k:Nat} (h1:2<=k) (h2:k<=12) (h3:k≠3):kindW (wordK k)=some k/\(wordK k).all isSmall=true:=by
 have:=kindW_wordK ⟨k,by omega⟩
 rcases this with h|h
 ·simp only at h;omega
 ·exact h
theorem name_all {x:Name} (h:isName x=true):x.all isSmall=true:=by
 simp only[isName,Bool.and_eq_true]at h
 exact h.2.2.1
theorem head_num {n:Nat} (h:n<=99):∃b q,decimal n=b::q/\isDigit b=true:=by
 have h1:=num_ne h
 have h2:=num_digits h
 cases e:decimal n with
 |nil=>exact absurd e h1
 |cons b q=>
  rw[e]at h2
  exact⟨b,q,rfl,List.all_eq_true.mp h2 b (by simp)⟩
theorem head_name {x:Name} (h:isName x=true):∃b q,x=b::q/\isSmall b=true:=by
 cases x with
 |nil=>exact absurd rfl (name_ne h)
 |cons b q=>exact⟨b,q,rfl,name_small h b (by simp)⟩
theorem kindW_expr {a:Expr} (g:Good a) {r:Text} (hr:Stop r):kindW ((textOf a++r).takeWhile isSmall)=none:=by
 rcases unmk a with⟨l,n,rfl⟩|⟨l,x,rfl⟩|⟨k,l,x,ps,h,_⟩
 ·obtain⟨b,q,e,hb⟩:=head_num (show n<=99 from g)
  rw[textOf,e,List.cons_append,List.takeWhile_cons,if_neg (by rw[digit_no_small hb];simp)]
  exact kindW_nil
 ·have g:isName x=true:=g
  rw[textOf,(tw_stop isSmall (name_all g) (stop_small hr)).1]
  exact kindW_res (name_res g)
 ·rw[mk_text h,List.cons_append,List.takeWhile_cons,if_neg (by decide)]
  exact kindW_nil
def Complete (d f:Nat) (rec:Rec):Prop:=∀sc n e n' r,isClosed (names sc) e=true->Lab e n n'->n'<=30->d+deepOf e<=8->Stop r->sz e<=f->rec sc n (textOf e++r)=some (e,n',r)
def szL (ps:List Expr):Nat:=(ps.map sz).sum
theorem lab_lt {e:Expr}:∀{n n':Nat},Lab e n n'->n<n':=by
 induction e<;>(intro n n' h;simp only[Lab]at h)
 case num=>omega
 case var=>omega
 case fn ih=>have:=ih h.2;omega
 case app ih1 ih2=>obtain⟨_,m,h1,h2⟩:=h;have:=ih1 h1;have:=ih2 h2;omega
 case letE ih1 ih2=>obtain⟨_,m,h1,h2⟩:=h;have:=ih1 h1;have:=ih2 h2;omega
 case ifz ih1 ih2 ih3=>obtain⟨_,m,k,h1,h2,h3⟩:=h;have:=ih1 h1;have:=ih2 h2;have:=ih3 h3;omega
 case pair ih1 ih2=>obtain⟨_,m,h1,h2⟩:=h;have:=ih1 h1;have:=ih2 h2;omega
 case fst ih=>have:=ih h.2;omega
 case snd ih=>have:=ih h.2;omega
 case new ih=>have:=ih h.2;omega
 case get ih=>have:=ih h.2;omega
 case set ih1 ih2=>obtain⟨_,m,h1,h2⟩:=h;have:=ih1 h1;have:=ih2 h2;omega
 case add ih1 ih2=>obtain⟨_,m,h1,h2⟩:=h;have:=ih1 h1;have:=ih2 h2;omega
theorem labL_le:∀{ps:List Expr} {n n':Nat},LabL ps n n'->n<=n'
 |[],n,n',h=>by have:n=n':=h;omega
 |p::ps,n,n',h=>by
  obtain⟨m,h1,h2⟩:=h
  have:=lab_lt h1
  have:=labL_le h2
  omega
theorem stop_parts {k:Nat} {i:Nat} {ps:List Expr} {r:Text} (hi:¬(k=3/\i=0)):Stop (partsText k i ps++41::r):=by
 cases ps with
 |nil=>exact stop_close _
 |cons p ps=>
  rw[partsText,if_neg hi]
  exact stop_blank _
theorem parts_complete {d f:Nat} {rec:Rec} (S:Complete d f rec) {k l:Nat} {x:Name} {sc:Scp} {e:Expr} {n':Nat} {r:Text} (h30:n'<=30):∀(more:List Expr) (done:List Expr) (n:Nat),mkE k l x (done++more)=some e ->
  closedL k l x sc done.length more=true->LabL more n n'->d+deepL more<=8->szL more<=f->parts rec k l x sc more.length done n (partsText k done.length more++41::r)=some (e,n',r):=by
 intro more
 induction more with
 |nil=>
  intro done n hm hc hl hd hs
  have hl:n=n':=hl
  rw[List.append_nil]at hm
  simp only[List.length_nil,parts,partsText,List.nil_append,if_true,hm,Option.map_some,hl]
 |cons p more ih=>
  intro done n hm hc hl hd hs
  obtain⟨m,hl1,hl2⟩:=hl
  simp only[closedL,Bool.and_eq_true]at hc
  simp only[deepL]at hd
  simp only[szL,List.map_cons,List.sum_cons]at hs
  have hm30:m<=30:=Nat.le_trans (labL_le hl2) h30
  have e0:(k=3/\done=[])↔(k=3/\done.length=0):=by rw[List.length_eq_zero_iff]
  have hr:rec (scAt k l x sc done.length) n (textOf p++(partsText k (done.length+1) more++41::r))=some (p,m,partsText k (done.length+1) more++41::r):=
   S _ _ _ _ _ hc.1 hl1 hm30 (by omega) (stop_parts (by omega)) (by omega)
  have hu:unblank (k=3/\done=[]) (partsText k done.length (p::more)++41::r)=some (textOf p++(partsText k (done.length+1) more++41::r)):=by
   rw[partsText]
   by_cases q:k=3/\done=[]
   ·rw[if_pos (e0.mp q)]
    simp[unblank,q]
   ·rw[if_neg (fun z=>q (e0.mpr z))]
    unfold unblank
    rw[if_neg q]
    simp
  rw[List.length_cons,parts,hu,Option.bind_some,hr,Option.bind_some]
  have:=ih (done++[p]) m (by simpa using hm) (by simpa using hc.2) hl2 (by omega) (by simp only[szL];omega)
  simpa using this
theorem mk_sz {k l:Nat} {x:Name} {ps:List Expr} {e:Expr} (h:mkE k l x ps=some e):sz e=szL ps+1:=by
 unfold sz
 rw[mk_nodes h,List.length_cons,List.length_flatMap]
 rfl
theorem pexp_complete:∀(f d:Nat),Complete d f (pexp f d):=by
 intro f
 induction f with
 |zero=>
  intro d sc n e n' r _ _ _ _ _ hs
  have:=sz_pos e
  omega
 |succ f ih=>
  intro d sc n e n' r hc hl h30 hd hr hs
  have S:=ih (d+1)
  have g:=good_of_closed e _ hc
  have hlt:=lab_lt hl
  have hb:¬(30<=n\/8<d):=by omega
  rcases unmk e with⟨l,k,rfl⟩|⟨l,x,rfl⟩|⟨k,l,x,ps,hm,k1,k2,k3,k4⟩
  ·obtain⟨rfl,rfl⟩:=hl
   have g:k<=99:=g
   obtain⟨b,q,eb,hb2⟩:=head_num g
   obtain⟨t1,t2⟩:=tw_stop isDigit (num_digits g) (stop_digit hr)
   have n2:=num_all2 ⟨k,by omega⟩
   rw[textOf]at *
   rw[eb,List.cons_append]at t1 t2 ⊢
   rw[pexp,if_neg hb]
   simp only[if_neg (digit_not hb2).1,if_pos hb2,t1,t2]
   rw[<-eb,if_pos n2.1,n2.2]
  ·obtain⟨rfl,rfl⟩:=hl
   have g:isName x=true:=g
   obtain⟨b,q,eb,hb2⟩:=head_name g
   obtain⟨t1,t2⟩:=tw_stop isSmall (name_all g) (stop_small hr)
   simp only[isClosed,Bool.and_eq_true]at hc
   rw[textOf]at *
   rw[eb,List.cons_append]at t1 t2 ⊢
   rw[pexp,if_neg hb]
   simp only[if_neg (small_not hb2).1,small_no_digit hb2,Bool.false_eq_true,if_false,t1,t2]
   rw[<-eb,if_pos ⟨g,List.contains_iff_mem.mp hc.2⟩]
  ·obtain⟨rfl,hl2⟩:=(mk_lab hm n n').mp hl
   have hcl:=hc
   rw[mk_closed sc hm,Bool.and_eq_true]at hcl
   have hd2:=mk_deep hm
   have hs2:=mk_sz hm
   have P:=parts_complete S (k:=k) (l:=l) (x:=x) (sc:=sc) (e:=e) (n':=n') (r:=r) h30 ps [] (l+1) (by simpa using hm) hcl.2 hl2 (by omega) (by omega)
   rw[mk_len hm]at P
   have et:textOf e++r=40::(headT k x++(partsText k 0 ps++41::r)):=by rw[mk_text hm];simp
   rw[et,pexp,if_neg hb]
   simp only[if_true]
   by_cases h24:k=2\/k=4
   ·have hn:k≠3:=by omega
    obtain⟨w1,w2⟩:=kindW_of k1 k2 hn
    rw[headT,if_pos h24,List.append_assoc,List.cons_append]
    obtain⟨t1,t2⟩:=tw_stop isSmall w2 (stop_small (stop_blank (x++(partsText k 0 ps++41::r))))
    simp only[t1,t2,w1,if_pos h24]
    have hx:isName x=true/\x≠INPUT:=by
     have:=hcl.1
     simp[h24]at this
     exact this
    obtain⟨t3,t4⟩:=tw_stop isSmall (name_all hx.1) (stop_small (stop_parts (k:=k) (i:=0) (ps:=ps) (r:=r) (by omega)))
    rw[t3,t4,if_pos ⟨trivial,hx.1,hx.2⟩]
    exact P
   ·have hx:=k4 h24
    by_cases hk:k=3
    ·subst hk
     obtain⟨a,b,rfl⟩:∃a b,ps=[a,b]:=by
      have:=mk_len hm
      match ps,this with
      |[a,b],_=>exact⟨a,b,rfl⟩
      |[],h=>simp[nparts]at h
      |[_],h=>simp[nparts]at h
      |_::_::_::_,h=>simp[nparts]at h
     have e2:headT 3 x++(partsText 3 0 [a,b]++41::r)=textOf a++(32::(textOf b++41::r)):=by simp[headT,wordK,partsText]
     have ga:Good a:=by
      have:=hcl.2
      simp only[closedL,Bool.and_eq_true]at this
      exact good_of_closed a _ this.1
     have z:=kindW_expr ga (stop_blank (textOf b++41::r))
     rw[<-e2]at z
     simp only[z]
     rw[hx]at P ⊢
     have e3:headT 3 []++(partsText 3 0 [a,b]++41::r)=partsText 3 0 [a,b]++41::r:=by simp[headT,wordK]
     rw[e3]
     exact P
    ·obtain⟨w1,w2⟩:=kindW_of k1 k2 hk
     rw[headT,if_neg h24]
     obtain⟨t1,t2⟩:=tw_stop isSmall w2 (stop_small (stop_parts (k:=k) (i:=0) (ps:=ps) (r:=r) (by omega)))
     simp only[t1,t2,w1,if_neg h24]
     rw[hx]at P
     exact P
def readB (t:Text):Option Expr:=(pexp 31 0 [] 0 t).bind fun z=>if z.2.2=[]then some z.1 else none
theorem labs_at:∀{e:Expr} {n n':Nat},Lab e n n'->labelsOf e=List.range' n (sz e)/\n'=n+sz e:=by
 intro e
 have one:∀{l:Nat} {b:Expr} {n n':Nat},l=n->(labelsOf b=List.range' (n+1) (sz b)/\n'=n+1+sz b)->l::labelsOf b=List.range' n (sz b+1)/\n'=n+(sz b+1):=by
  rintro l b n n' rfl ⟨h1,rfl⟩
  exact⟨by rw[h1,List.range'_succ],by rw[Nat.add_assoc,Nat.add_comm 1]⟩
 have two:∀{l:Nat} {a b:Expr} {n m n':Nat},l=n->(labelsOf a=List.range' (n+1) (sz a)/\m=n+1+sz a)->(labelsOf b=List.range' m (sz b)/\n'=m+sz b)->l::(labelsOf a++labelsOf b)=List.range' n (sz a+sz b+1)/\n'=n+(sz a+sz b+1):=by
  rintro l a b n m n' rfl ⟨h1,rfl⟩ ⟨h3,rfl⟩
  exact⟨by rw[h1,h3,List.range'_succ,<-List.range'_append_1],by omega⟩
 induction e<;>(intro n n' h;simp only[Lab]at h)
 case num l k=>obtain⟨rfl,rfl⟩:=h;exact⟨rfl,rfl⟩
 case var l k=>obtain⟨rfl,rfl⟩:=h;exact⟨rfl,rfl⟩
 case fn l x b ih=>exact one h.1 (ih h.2)
 case fst l b ih=>exact one h.1 (ih h.2)
 case snd l b ih=>exact one h.1 (ih h.2)
 case new l b ih=>exact one h.1 (ih h.2)
 case get l b ih=>exact one h.1 (ih h.2)
 case app l a b ih1 ih2=>obtain⟨h0,m,h1,h2⟩:=h;have q:=two h0 (ih1 h1) (ih2 h2);simpa[labelsOf,nodesOf,sz,labelOf]using q
 case letE l x a b ih1 ih2=>obtain⟨h0,m,h1,h2⟩:=h;simpa[labelsOf,nodesOf,sz,labelOf]using two h0 (ih1 h1) (ih2 h2)
 case pair l a b ih1 ih2=>obtain⟨h0,m,h1,h2⟩:=h;simpa[labelsOf,nodesOf,sz,labelOf]using two h0 (ih1 h1) (ih2 h2)
 case set l a b ih1 ih2=>obtain⟨h0,m,h1,h2⟩:=h;simpa[labelsOf,nodesOf,sz,labelOf]using two h0 (ih1 h1) (ih2 h2)
 case add l a b ih1 ih2=>obtain⟨h0,m,h1,h2⟩:=h;simpa[labelsOf,nodesOf,sz,labelOf]using two h0 (ih1 h1) (ih2 h2)
 case ifz l a b c ih1 ih2 ih3=>
  obtain⟨h0,m,k,h1,h2,h3⟩:=h
  obtain⟨a1,a2⟩:=ih1 h1
  obtain⟨b1,b2⟩:=ih2 h2
  obtain⟨c1,c2⟩:=ih3 h3
  have e0:sz (.ifz l a b c)=sz a+(sz b+sz c)+1:=by simp[sz,nodesOf]
  have e1:labelsOf (.ifz l a b c)=l::(labelsOf a++(labelsOf b++labelsOf c)):=by simp[labelsOf,nodesOf,labelOf]
  subst h0 a2 b2 c2
  exact⟨by rw[e1,e0,a1,b1,c1,List.range'_succ,<-List.range'_append_1,<-List.range'_append_1],by rw[e0];omega⟩
theorem labelsOf_of {e:Expr} {n n':Nat} (h:Lab e n n'):labelsOf e=List.range' n (n'-n)/\n'=n+sz e:=by
 obtain⟨h1,rfl⟩:=labs_at h
 exact⟨by rw[h1,Nat.add_sub_cancel_left],rfl⟩
theorem readB_eq (t:Text):readB t=programOf t:=by
 cases h:programOf t with
 |some e=>
  obtain⟨h1,rfl⟩:=(programOf_iff t e).mp h
  simp only[isProgram,Bool.and_eq_true,beq_iff_eq]at h1
  obtain⟨c1,c2,c3,c4⟩:=h1
  have c3:(labelsOf e).length<=30:=of_decide_eq_true c3
  have c4:deepOf e<=8:=of_decide_eq_true c4
  rw[len_labels]at c3
  have l0:Lab e 0 (0+sz e):=lab_of e 0 (by rw[<-len_labels,<-List.range_eq_range'];exact c2)
  have:=pexp_complete 31 0 [] 0 e _ [] c1 l0 (by omega) (by omega) (.inl rfl) (by omega)
  rw[List.append_nil]at this
  unfold readB
  rw[this]
  simp
 |none=>
  unfold readB
  cases q:pexp 31 0 [] 0 t with
  |none=>rfl
  |some z=>
   obtain⟨e,n',r⟩:=z
   obtain⟨s1,s2,s3,s4,s5,s6⟩:=pexp_sound _ _ _ _ _ _ _ _ q
   rw[Option.bind_some]
   by_cases hr:r=[]
   ·exfalso
    rw[hr,List.append_nil]at s1
    obtain⟨l1,l2⟩:=labelsOf_of s3
    have hp:programOf t=some e:=(programOf_iff t e).mpr ⟨by
     simp only[isProgram,Bool.and_eq_true,beq_iff_eq]
     refine⟨s2,?_,decide_eq_true ?_,decide_eq_true ?_⟩
     ·rw[l1,List.length_range',List.range_eq_range']
     ·rw[len_labels];show sz e<=30;omega
     ·show deepOf e<=8;omega,s1.symm⟩
    rw[h]at hp
    cases hp
   ·rw[if_neg hr]
abbrev Bnd:=List (Nat×Value)
def putB (b:Bnd) (k:Nat) (v:Value):Bnd:=if(b.any fun z=>decide (z.1=k))=true then b.map fun z=>if z.1=k then(z.1,v)else z else b++[(k,v)]
def getB (b:Bnd) (k:Nat):Option Value:=(b.find? fun z=>decide (z.1=k)).map (·.2)
structure Nd where
 kind:Nat
 num:Nat
 parts:List Nat
 bnd:Option Nat
structure Vst where
 lab:Nat
 ctx:Ctx
 bnd:Bnd
 res:List Value
structure MS where
 m:Made
 clos:List Bnd
 vis:List Vst
 fin:Option (List Nat)
def firstK (k:Nat):Nat:=if k=3\/k=6\/k=11\/k=12 then 2 else if k=4\/k=5\/(7<=k/\k<=10)then 1 else 0
def comeTo (l:Nat) (c:Ctx) (b:Bnd) (S:MS):MS:=if S.m.steps=300 then{S with fin:=some [2,S.m.steps]}else{S with m:={S.m with steps:=S.m.steps+1},vis:=⟨l,c,b,[]⟩::S.vis}
def numOf (v:Value):Nat:=match v with
 |.num n=>n
 |_=>0
def deliver (v:Value) (S:MS):MS:=match S.vis with
 |[]=>{S with fin:=some ([0]++toldAbs (absOf S.m.heap v)++[numOf v,S.m.steps])}
 |u::r=>{S with vis:={u with res:=u.res++[v]}::r}
def give (t:Vst) (r:List Vst) (v:Value) (S:MS):MS:=deliver v {S with m:={S.m with flows:=addTo S.m.flows ⟨t.lab,t.ctx,absOf S.m.heap v⟩},vis:=r}
def wrongAt (t:Vst) (S:MS):MS:={S with fin:=some [1,t.lab,S.m.steps]}
def lay (o:Obj) (b:Bnd) (S:MS):MS:={S with m:={S.m with heap:=S.m.heap++[o]},clos:=S.clos++[b]}
def nth (l:List Value) (i:Nat):Value:=l.getD i (.num 0)
def fstO (t:Vst) (r:List Vst) (S:MS):Option Obj->MS
 |some (.pair _ a _)=>give t r a S
 |_=>wrongAt t S
def sndO (t:Vst) (r:List Vst) (S:MS):Option Obj->MS
 |some (.pair _ _ b)=>give t r b S
 |_=>wrongAt t S
def getO (t:Vst) (r:List Vst) (S:MS):Option Obj->MS
 |some (.ref _ a)=>give t r a S
 |_=>wrongAt t S
def setO (t:Vst) (r:List Vst) (S:MS) (i:Nat) (w:Value):Option Obj->MS
 |some (.ref k _)=>give t r w {S with m:={S.m with heap:=S.m.heap.set i (.ref k w)}}
 |_=>wrongAt t S
def callO (nd:Nat->Nd) (t:Vst) (S:MS) (w:Value) (b:Option Bnd) (o:Option Obj):MS:=match o,b with
 |some (.clo k _),some b=>comeTo ((nd k).parts.getD 0 0) ((t.lab::t.ctx).take 3) (putB b k w) {S with m:={S.m with calls:=addTo S.m.calls ⟨t.lab,k,t.ctx⟩}}
 |_,_=>wrongAt t S
def finN (n:Nd) (v w:Value) (nd:Nat->Nd) (inp:Nat) (t:Vst) (r:List Vst) (S:MS):MS:=
 if n.kind=0 then give t r (.num n.num) S
 else if n.kind=1 then(match n.bnd with
  |none=>give t r (.num inp) S
  |some b=>give t r ((getB t.bnd b).getD (.num 0)) S)
 else if n.kind=2 then give t r (.clo S.m.heap.length) (lay (.clo t.lab []) t.bnd S)
 else if n.kind=3 then(match v with
  |.clo i=>callO nd t S w S.clos[i]? S.m.heap[i]?
  |_=>wrongAt t S)
 else if n.kind=4 then comeTo (n.parts.getD 1 0) t.ctx (putB t.bnd t.lab v) S
 else if n.kind=5 then(match v with
  |.num k=>comeTo (n.parts.getD (if k=0 then 1 else 2) 0) t.ctx t.bnd S
  |_=>wrongAt t S)
 else if n.kind=6 then give t r (.pair S.m.heap.length) (lay (.pair t.lab v w) [] S)
 else if n.kind=7 then(match v with
  |.pair i=>fstO t r S S.m.heap[i]?
  |_=>wrongAt t S)
 else if n.kind=8 then(match v with
  |.pair i=>sndO t r S S.m.heap[i]?
  |_=>wrongAt t S)
 else if n.kind=9 then give t r (.ref S.m.heap.length) (lay (.ref t.lab v) [] S)
 else if n.kind=10 then(match v with
  |.ref i=>getO t r S S.m.heap[i]?
  |_=>wrongAt t S)
 else if n.kind=11 then(match v with
  |.ref i=>setO t r S i w S.m.heap[i]?
  |_=>wrongAt t S)
 else(match v,w with
  |.num i,.num j=>give t r (.num ((i+j) % 100)) S
  |_,_=>wrongAt t S)
def finish (nd:Nat->Nd) (inp:Nat) (t:Vst) (r:List Vst) (S:MS):MS:=finN (nd t.lab) (nth t.res 0) (nth t.res 1) nd inp t r S
def goOn (nd:Nat->Nd) (inp:Nat) (S:MS):MS:=match S.vis with
 |[]=>S
 |t::r=>if t.res.length<firstK (nd t.lab).kind then comeTo ((nd t.lab).parts.getD t.res.length 0) t.ctx t.bnd S
  else if firstK (nd t.lab).kind<t.res.length then give t r (t.res.getLastD (.num 0)) S
  else finish nd inp t r S
def stepM (nd:Nat->Nd) (inp:Nat) (S:MS):MS:=if S.fin.isSome=true then S else goOn nd inp S
def iterM (nd:Nat->Nd) (inp:Nat):Nat->MS->MS
 |0,S=>S
 |k+1,S=>iterM nd inp k (stepM nd inp S)
theorem fin_k {nd:Nat->Nd} {inp k:Nat} {t:Vst} {r:List Vst} {S x:MS} {v w:Value} (hk:(nd t.lab).kind=k) (hv:nth t.res 0=v) (hw:nth t.res 1=w) (e:finN ⟨k,(nd t.lab).num,(nd t.lab).parts,(nd t.lab).bnd⟩ v w nd inp t r S=x):finish nd inp t r S=x:=by
 subst hk
 rw[finish,hv,hw]
 exact e
theorem getB_put (b:Bnd) (k j:Nat) (v:Value):getB (putB b k v) j=if j=k then some v else getB b j:=by
 unfold putB getB
 by_cases h:(b.any fun z=>decide (z.1=k))=true
 ·rw[if_pos h]
  induction b with
  |nil=>simp at h
  |cons z r ih=>
   rw[List.map_cons]
   by_cases hz:z.1=k
   ·rw[if_pos hz]
    by_cases hj:j=k
    ·subst hj;simp[List.find?_cons,hz]
    ·have:¬ z.1=j:=fun q=>hj (q.symm.trans hz)
     simp only[List.find?_cons,this,decide_false,if_neg hj]
     by_cases hr:(r.any fun z=>decide (z.1=k))=true
     ·have:=ih hr;rw[if_neg hj]at this;exact this
     ·have hm:(r.map fun z=>if z.1=k then(z.1,v)else z)=r:=by
       have:∀y∈r,¬ y.1=k:=fun y hy q=>hr (List.any_eq_true.mpr ⟨y,hy,decide_eq_true q⟩)
       conv=>rhs;rw[<-List.map_id r]
       exact List.map_congr_left fun y hy=>by rw[if_neg (this y hy)];rfl
      rw[hm]
   ·rw[if_neg hz]
    have h':(r.any fun z=>decide (z.1=k))=true:=by simpa[hz]using h
    have:=ih h'
    by_cases hj:z.1=j
    ·have hjk:¬ j=k:=fun q=>hz (hj.trans q)
     simp[List.find?_cons,hj,hjk]
    ·simp only[List.find?_cons,hj,decide_false]
     exact this
 ·rw[if_neg h,List.find?_append]
  by_cases hj:j=k
  ·subst hj
   have:(b.find? fun z=>decide (z.1=j))=none:=by
    rw[List.find?_eq_none]
    intro y hy q
    exact h (List.any_eq_true.mpr ⟨y,hy,q⟩)
   simp[this,List.find?_cons]
  ·rw[if_neg hj]
   have:¬ k=j:=fun q=>hj q.symm
   cases e:b.find? fun z=>decide (z.1=j)with
   |none=>simp[List.find?_cons,this]
   |some z=>simp
structure EnvRel (inp:Nat) (sc:Scp) (env:Env) (b:Bnd):Prop where
 eq:env=sc.map (fun z=>⟨z.1,(getB b z.2).getD (.num 0)⟩)++[⟨INPUT,.num inp⟩]
 has:∀z∈sc,(getB b z.2).isSome=true
theorem EnvRel.push {inp:Nat} {sc:Scp} {env:Env} {b:Bnd} (h:EnvRel inp sc env b) {x:Name} {l:Nat} (v:Value) (hl:∀z∈sc,z.2<l):EnvRel inp ((x,l)::sc) (⟨x,v⟩::env) (putB b l v):=by
 refine⟨?_,fun z hz=>?_⟩
 ·rw[List.map_cons,List.cons_append,getB_put,if_pos rfl,h.eq]
  refine congrArg (List.cons _) (congrArg (·++_) (List.map_congr_left fun z hz=>?_))
  have:=hl z hz
  rw[getB_put,if_neg (by omega)]
 ·rw[getB_put]
  rcases List.mem_cons.mp hz with rfl|hz
  ·rw[if_pos rfl];rfl
  ·have:=hl z hz
   rw[if_neg (by omega)]
   exact h.has z hz
def Tab (nd:Nat->Nd):Scp->Expr->Prop
 |_,.num l n=>nd l=⟨0,n,[],none⟩
 |sc,.var l x=>nd l=⟨1,0,[],(sc.find? fun z=>z.1==x).map (·.2)⟩/\(x∈sc.map (·.1)\/x=INPUT)
 |sc,.fn l x b=>nd l=⟨2,0,[labelOf b],none⟩/\(∀z∈sc,z.2<l)/\Tab nd ((x,l)::sc) b
 |sc,.app l f a=>nd l=⟨3,0,[labelOf f,labelOf a],none⟩/\Tab nd sc f/\Tab nd sc a
 |sc,.letE l x e b=>nd l=⟨4,0,[labelOf e,labelOf b],none⟩/\(∀z∈sc,z.2<l)/\Tab nd sc e/\Tab nd ((x,l)::sc) b
 |sc,.ifz l c t e=>nd l=⟨5,0,[labelOf c,labelOf t,labelOf e],none⟩/\Tab nd sc c/\Tab nd sc t/\Tab nd sc e
 |sc,.pair l a b=>nd l=⟨6,0,[labelOf a,labelOf b],none⟩/\Tab nd sc a/\Tab nd sc b
 |sc,.fst l e=>nd l=⟨7,0,[labelOf e],none⟩/\Tab nd sc e
 |sc,.snd l e=>nd l=⟨8,0,[labelOf e],none⟩/\Tab nd sc e
 |sc,.new l e=>nd l=⟨9,0,[labelOf e],none⟩/\Tab nd sc e
 |sc,.get l e=>nd l=⟨10,0,[labelOf e],none⟩/\Tab nd sc e
 |sc,.set l r e=>nd l=⟨11,0,[labelOf r,labelOf e],none⟩/\Tab nd sc r/\Tab nd sc e
 |sc,.add l a b=>nd l=⟨12,0,[labelOf a,labelOf b],none⟩/\Tab nd sc a/\Tab nd sc b
def CloInv (p:Expr) (nd:Nat->Nd) (inp:Nat) (h:List Obj) (clos:List Bnd):Prop:=clos.length=h.length/\∀(i l:Nat) (env:Env),h[i]?=some (Obj.clo l env)->∃b x body sc,clos[i]?=some b/\nodeAt p l=some (.fn l x body)/\nd l=⟨2,0,[labelOf body],none⟩ /\
 (∀z∈sc,z.2<l)/\Tab nd ((x,l)::sc) body/\EnvRel inp sc env b
def er (o:Obj):Obj:=match o with
 |.clo l _=>.clo l []
 |o=>o
def erM (m:Made):Made:={m with heap:=m.heap.map er}
theorem er_label (o:Obj):objLabel (er o)=objLabel o:=by cases o<;>rfl
theorem absOf_er (h:List Obj) (v:Value):absOf (h.map er) v=absOf h v:=by
 have:∀i,labelIn (h.map er) i=labelIn h i:=fun i=>by
  unfold labelIn
  rw[List.getElem?_map]
  cases h[i]? with
  |none=>rfl
  |some o=>simp[er_label]
 cases v<;>simp[absOf,this]
section
variable (p:Expr) (nd:Nat->Nd) (inp:Nat)
def Ends (s0:Nat) (K:List Vst) (o:Out) (S:MS):Prop:=match o with
 |.ok v m'=>∃k clos',iterM nd inp k S=deliver v ⟨erM m',clos',K,none⟩/\CloInv p nd inp m'.heap clos'/\s0<=m'.steps/\m'.steps<=300
 |.wrong l m'=>∃k,(iterM nd inp k S).m=erM m'/\(iterM nd inp k S).fin=some [1,l,m'.steps]
 |.long m'=>∃k,(iterM nd inp k S).m=erM m'/\(iterM nd inp k S).fin=some [2,m'.steps]
end
section
variable {p:Expr} {nd:Nat->Nd} {inp:Nat}
theorem Ends.step {s0:Nat} {K:List Vst} {o:Out} {S:MS} (h:Ends p nd inp s0 K o (stepM nd inp S)):Ends p nd inp s0 K o S:=by
 cases o with
 |ok v m'=>obtain⟨k,c,h1,h2⟩:=h;exact⟨k+1,c,h1,h2⟩
 |wrong l m'=>obtain⟨k,h⟩:=h;exact⟨k+1,h⟩
 |long m'=>obtain⟨k,h⟩:=h;exact⟨k+1,h⟩
theorem iterM_add (a b:Nat) (S:MS):iterM nd inp (a+b) S=iterM nd inp b (iterM nd inp a S):=by
 induction a generalizing S with
 |zero=>rw[Nat.zero_add];rfl
 |succ a ih=>rw[Nat.add_right_comm];exact ih _
theorem Ends.mono {s0 s1:Nat} {K:List Vst} {o:Out} {S:MS} (h:Ends p nd inp s1 K o S) (hs:s0<=s1):Ends p nd inp s0 K o S:=by
 cases o with
 |ok v m'=>obtain⟨k,c,h1,h2,h3,h4⟩:=h;exact⟨k,c,h1,h2,Nat.le_trans hs h3,h4⟩
 |wrong l m'=>exact h
 |long m'=>exact h
theorem Ends.iter {s0:Nat} {K:List Vst} {o:Out} {S:MS} (j:Nat) (h:Ends p nd inp s0 K o (iterM nd inp j S)):Ends p nd inp s0 K o S:=by
 cases o with
 |ok v m'=>obtain⟨k,c,h1,h2⟩:=h;exact⟨j+k,c,by rw[iterM_add];exact h1,h2⟩
 |wrong l m'=>obtain⟨k,h⟩:=h;exact⟨j+k,by rw[iterM_add];exact h⟩
 |long m'=>obtain⟨k,h⟩:=h;exact⟨j+k,by rw[iterM_add];exact h⟩
theorem Ends.part {s0:Nat} {K:List Vst} {t:Vst} {x:Out} {g:Value->Made->Out} {S:MS} (h:Ends p nd inp s0 (t::K) x S)
  (hg:∀v m' clos',CloInv p nd inp m'.heap clos'->s0<=m'.steps->m'.steps<=300->Ends p nd inp s0 K (g v m') ⟨erM m',clos',{t with res:=t.res++[v]}::K,none⟩):Ends p nd inp s0 K (andThen x g) S:=by
 cases x with
 |ok v m'=>
  obtain⟨k,c,h1,h2,h3,h4⟩:=h
  refine Ends.iter k ?_
  rw[h1]
  exact hg v m' c h2 h3 h4
 |wrong l m'=>exact h
 |long m'=>exact h
theorem Ends.gives {s0:Nat} {K:List Vst} {t:Vst} {v:Value} {m:Made} {clos:List Bnd} {S:MS} (e:stepM nd inp S=give t K v ⟨erM m,clos,t::K,none⟩) (hc:CloInv p nd inp m.heap clos) (h0:s0<=m.steps) (h1:m.steps<=300) :
  Ends p nd inp s0 K (gives t.lab t.ctx v m) S:=by
 refine Ends.step ⟨0,clos,?_,hc,h0,h1⟩
 show stepM nd inp S=_
 rw[e]
 unfold give erM
 simp only[absOf_er]
theorem Ends.wrongs {s0:Nat} {K:List Vst} {t:Vst} {m:Made} {clos:List Bnd} {S:MS} {vis:List Vst} (e:stepM nd inp S=wrongAt t ⟨erM m,clos,vis,none⟩):Ends p nd inp s0 K (.wrong t.lab m) S:=by
 refine Ends.step ⟨0,?_,?_⟩
 ·show(stepM nd inp S).m=_
  rw[e];rfl
 ·show(stepM nd inp S).fin=_
  rw[e];rfl
end
section
variable {p:Expr} {nd:Nat->Nd} {inp:Nat}
theorem clo_push {m:Made} {clos:List Bnd} {o:Obj} {b:Bnd} (h:CloInv p nd inp m.heap clos) (ho:∀l env,o=.clo l env->∃x body sc,nodeAt p l=some (.fn l x body)/\nd l=⟨2,0,[labelOf body],none⟩ /\
  (∀z∈sc,z.2<l)/\Tab nd ((x,l)::sc) body/\EnvRel inp sc env b):CloInv p nd inp (m.heap++[o]) (clos++[b]):=by
 obtain⟨h1,h2⟩:=h
 refine⟨by simp[h1],fun i l env e=>?_⟩
 by_cases hi:i<m.heap.length
 ·rw[List.getElem?_append_left hi]at e
  obtain⟨b',x,body,sc,q1,q⟩:=h2 i l env e
  exact⟨b',x,body,sc,by rw[List.getElem?_append_left (by omega)];exact q1,q⟩
 ·rw[List.getElem?_append_right (by omega)]at e
  have hi2:i-m.heap.length=0:=by
   cases q:i-m.heap.length with
   |zero=>rfl
   |succ k=>rw[q]at e;simp at e
  rw[hi2]at e
  have e:o=.clo l env:=Option.some.inj e
  obtain⟨x,body,sc,q⟩:=ho l env e
  exact⟨b,x,body,sc,by rw[List.getElem?_append_right (by omega),show i-clos.length=0 by omega];rfl,q⟩
theorem clo_set {m:Made} {clos:List Bnd} {i k:Nat} {w:Value} (h:CloInv p nd inp m.heap clos):CloInv p nd inp (m.heap.set i (.ref k w)) clos:=by
 obtain⟨h1,h2⟩:=h
 refine⟨by simp[h1],fun j l env e=>?_⟩
 rw[List.getElem?_set]at e
 split at e
 ·split at e
  ·cases e
  ·cases e
 ·exact h2 j l env e
theorem erM_heap (m:Made) (i:Nat):(erM m).heap[i]?=(m.heap[i]?).map er:=by simp[erM]
theorem look_eq {sc:Scp} {env:Env} {b:Bnd} (h:EnvRel inp sc env b) (x:Name) (hx:x∈sc.map (·.1)\/x=INPUT) :
  lookup env x=(match (sc.find? fun z=>z.1==x).map (·.2)with
   |none=>.num inp
   |some k=>(getB b k).getD (.num 0)):=by
 rw[h.eq]
 unfold lookup
 have hm:∀(sc:Scp),((sc.map (fun z:Name×Nat=>(⟨z.1,(getB b z.2).getD (.num 0)⟩:Bind))).find? fun y=>y.name==x)=(sc.find? fun z=>z.1==x).map fun z=>⟨z.1,(getB b z.2).getD (.num 0)⟩:=by
  intro sc
  induction sc with
  |nil=>rfl
  |cons z r ih=>
   rw[List.map_cons,List.find?_cons,List.find?_cons]
   cases z.1==x with
   |true=>rfl
   |false=>exact ih
 rw[List.find?_append,hm]
 cases e:sc.find? fun z=>z.1==x with
 |some z=>simp
 |none=>
  have:x=INPUT:=by
   rcases hx with hx|hx
   ·exfalso
    obtain⟨z,hz,rfl⟩:=List.mem_map.mp hx
    have:=List.find?_eq_none.mp e z hz
    simp at this
   ·exact hx
  subst this
  simp[List.find?_cons]
theorem step_part {m:Made} {clos:List Bnd} {t:Vst} {K:List Vst} (h:t.res.length<firstK (nd t.lab).kind):stepM nd inp ⟨m,clos,t::K,none⟩=comeTo ((nd t.lab).parts.getD t.res.length 0) t.ctx t.bnd ⟨m,clos,t::K,none⟩:=by
 unfold stepM goOn
 simp[h]
theorem step_fin {m:Made} {clos:List Bnd} {t:Vst} {K:List Vst} (h:t.res.length=firstK (nd t.lab).kind):stepM nd inp ⟨m,clos,t::K,none⟩=finish nd inp t K ⟨m,clos,t::K,none⟩:=by
 unfold stepM goOn
 simp[h]
theorem step_last {m:Made} {clos:List Bnd} {t:Vst} {K:List Vst} (h:firstK (nd t.lab).kind<t.res.length):stepM nd inp ⟨m,clos,t::K,none⟩=give t K (t.res.getLastD (.num 0)) ⟨m,clos,t::K,none⟩:=by
 unfold stepM goOn
 have:¬ t.res.length<firstK (nd t.lab).kind:=by omega
 simp[h,this]
theorem Ends.run {s0:Nat} {K:List Vst} {t:Vst} {x:Out} {g:Value->Made->Out} {m:Made} {clos:List Bnd} {e':Expr} (hk:t.res.length<firstK (nd t.lab).kind) (hl:(nd t.lab).parts.getD t.res.length 0=labelOf e')
  (h:Ends p nd inp s0 (t::K) x (comeTo (labelOf e') t.ctx t.bnd ⟨m,clos,t::K,none⟩))
  (hg:∀v m' clos',CloInv p nd inp m'.heap clos'->s0<=m'.steps->m'.steps<=300->Ends p nd inp s0 K (g v m') ⟨erM m',clos',{t with res:=t.res++[v]}::K,none⟩):Ends p nd inp s0 K (andThen x g) ⟨m,clos,t::K,none⟩:=
 Ends.step (by rw[step_part hk,hl];exact Ends.part h hg)
theorem Ends.last {s0:Nat} {K:List Vst} {t:Vst} {x:Out} {m:Made} {clos:List Bnd} {l:Nat} {c:Ctx} {b:Bnd} {S:MS} (e:stepM nd inp S=comeTo l c b ⟨m,clos,t::K,none⟩) (hk:firstK (nd t.lab).kind<=t.res.length)
  (h:Ends p nd inp s0 (t::K) x (comeTo l c b ⟨m,clos,t::K,none⟩)):Ends p nd inp s0 K (andThen x fun r m'=>Vacfaa.gives t.lab t.ctx r m') S:=
 Ends.step (by
  rw[e]
  refine Ends.part h fun v m' clos' c2 h0 h1=>Ends.gives (t:={t with res:=t.res++[v]}) ?_ c2 h0 h1
  rw[step_last (by simp;omega)]
  simp)
theorem Ends.wrongFin {s0:Nat} {K:List Vst} {t:Vst} {m:Made} {clos:List Bnd} (hk:t.res.length=firstK (nd t.lab).kind) (hf:finish nd inp t K ⟨erM m,clos,t::K,none⟩=wrongAt t ⟨erM m,clos,t::K,none⟩) :
  Ends p nd inp s0 K (.wrong t.lab m) ⟨erM m,clos,t::K,none⟩:=Ends.wrongs (by rw[step_fin hk,hf])
theorem Ends.giveFin {s0:Nat} {K:List Vst} {t:Vst} {v:Value} {m0 m:Made} {clos0 clos:List Bnd} (hk:t.res.length=firstK (nd t.lab).kind) (hf:finish nd inp t K ⟨erM m0,clos0,t::K,none⟩=give t K v ⟨erM m,clos,t::K,none⟩)
  (hc:CloInv p nd inp m.heap clos) (h0:s0<=m.steps) (h1:m.steps<=300):Ends p nd inp s0 K (Vacfaa.gives t.lab t.ctx v m) ⟨erM m0,clos0,t::K,none⟩:=Ends.gives (by rw[step_fin hk,hf]) hc h0 h1
theorem Ends.lastFin {s0:Nat} {K:List Vst} {t:Vst} {x:Out} {m0:Made} {m:Made} {clos:List Bnd} {l:Nat} {c:Ctx} {b:Bnd} (hk:t.res.length=firstK (nd t.lab).kind) (hf:finish nd inp t K ⟨m0,clos,t::K,none⟩=comeTo l c b ⟨m,clos,t::K,none⟩)
  (h:Ends p nd inp s0 (t::K) x (comeTo l c b ⟨m,clos,t::K,none⟩)):Ends p nd inp s0 K (andThen x fun r m'=>Vacfaa.gives t.lab t.ctx r m') ⟨m0,clos,t::K,none⟩:=
 Ends.last (by rw[step_fin hk,hf]) (by omega) h
theorem kEq {t:Vst} {n:Nd} (h:nd t.lab=n) (e:t.res.length=firstK n.kind):t.res.length=firstK (nd t.lab).kind:=by rw[h];exact e
theorem kLt {t:Vst} {n:Nd} (h:nd t.lab=n) (e:Nat.blt t.res.length (firstK n.kind)=true):t.res.length<firstK (nd t.lab).kind:=by rw[h];exact Nat.le_of_ble_eq_true e
theorem pAt {t:Vst} {n:Nd} {x:Nat} (h:nd t.lab=n) (e:n.parts.getD t.res.length 0=x):(nd t.lab).parts.getD t.res.length 0=x:=by rw[h];exact e
theorem hq {m:Made} {i:Nat} {o:Option Obj} (q:m.heap[i]?=o):(erM m).heap[i]?=o.map er:=by rw[erM_heap,q]
theorem fin_eq {t:Vst} {r:List Vst} {S x:MS} {n:Nd} (h:nd t.lab=n) (e:finN n (nth t.res 0) (nth t.res 1) nd inp t r S=x):finish nd inp t r S=x:=by rw[finish,h,e]
theorem lay_er {m:Made} {o:Obj} {b:Bnd} {c:List Bnd} {vs:List Vst} {f:Option (List Nat)}:lay (er o) b ⟨erM m,c,vs,f⟩=⟨erM {m with heap:=m.heap++[o]},c++[b],vs,f⟩:=by simp[lay,erM]
theorem len_er {m:Made}:(erM m).heap.length=m.heap.length:=List.length_map ..
theorem fin_h {t:Vst} {r:List Vst} {S x:MS} {n:Nd} {i:Nat} {o:Option Obj} (F:Option Obj->MS) (h:nd t.lab=n) (e:finN n (nth t.res 0) (nth t.res 1) nd inp t r S=F S.m.heap[i]?) (q:S.m.heap[i]?=o) (z:F o=x):finish nd inp t r S=x:=by rw[finish,h,e,q,z]
def Found (p:Expr):Prop:=∀(k l:Nat) (x:Name) (body:Expr),nodeAt p k=some (.fn l x body)->∀y∈nodesOf (.fn l x body),nodeAt p (labelOf y)=some y
theorem sim (hP:Found p):∀(f:Nat) (e:Expr) (sc:Scp) (ctx:Ctx) (env:Env) (b:Bnd) (m:Made) (clos:List Bnd) (K:List Vst),301<=f+m.steps->m.steps<=300->(∀y∈nodesOf e,nodeAt p (labelOf y)=some y)->Tab nd sc e->EnvRel inp sc env b ->
  CloInv p nd inp m.heap clos->Ends p nd inp m.steps K (eval p f ctx env e m) (comeTo (labelOf e) ctx b ⟨erM m,clos,K,none⟩):=by
 intro f
 induction f with
 |zero=>intro e sc ctx env b m clos K h1 h2;omega
 |succ f ih=>
  intro e sc ctx env b m clos K h1 h2 hp ht he hc
  by_cases hs:300<=m.steps
  ·have hs':m.steps=300:=by omega
   have e1:eval p (f+1) ctx env e m=.long m:=by
    rw[eval,if_pos (show STEPS<=m.steps from hs)]
   rw[e1]
   refine⟨0,?_,?_⟩
   ·show(comeTo (labelOf e) ctx b ⟨erM m,clos,K,none⟩).m=_
    unfold comeTo
    rw[if_pos (show(erM m).steps=300 from hs')]
   ·show(comeTo (labelOf e) ctx b ⟨erM m,clos,K,none⟩).fin=_
    unfold comeTo
    rw[if_pos (show(erM m).steps=300 from hs')]
    rfl
  ·have ec:comeTo (labelOf e) ctx b ⟨erM m,clos,K,none⟩=⟨erM {m with steps:=m.steps+1},clos,⟨labelOf e,ctx,b,[]⟩::K,none⟩:=by
    unfold comeTo
    rw[if_neg (show ¬ (erM m).steps=300 by show ¬ m.steps=300;omega)]
    rfl
   rw[ec,eval,if_neg (show ¬ STEPS<=m.steps from hs)]
   generalize hm1:({m with steps:=m.steps+1}:Made)=m1
   have s1:m1.steps=m.steps+1:=by rw[<-hm1]
   have c1:CloInv p nd inp m1.heap clos:=by rw[<-hm1];exact hc
   refine Ends.mono (s1:=m1.steps) ?_ (by omega)
   have b1:m1.steps<=300:=by omega
   have f1:301<=f+m1.steps:=by omega
   clear hm1 ec hc h1 h2 hs
   cases e with
   |num l n=>
    have ht:nd l=⟨0,n,[],none⟩:=ht
    exact Ends.gives (t:=⟨l,ctx,b,[]⟩) (by rw[step_fin (kEq ht rfl)];exact fin_eq ht rfl) c1 (Nat.le_refl _) b1
   |var l x=>
    obtain⟨ht,hx⟩:=ht
    refine Ends.gives (t:=⟨l,ctx,b,[]⟩) ?_ c1 (Nat.le_refl _) b1
    rw[step_fin (kEq ht rfl),look_eq he x hx,fin_eq ht rfl]
    cases (sc.find? fun z=>z.1==x).map (·.2)<;>rfl
   |fn l x body=>
    obtain⟨ht,hl,hb⟩:=ht
    have hn:=hp _ (show Expr.fn l x body∈nodesOf (.fn l x body) by simp[nodesOf])
    have c2:CloInv p nd inp ({m1 with heap:=m1.heap++[Obj.clo l env]}:Made).heap (clos++[b]):=clo_push c1 fun l' env' q=>by
     cases q
     exact⟨x,body,sc,hn,ht,hl,hb,he⟩
    refine Ends.gives (t:=⟨l,ctx,b,[]⟩) (m:={m1 with heap:=m1.heap++[Obj.clo l env]}) (clos:=clos++[b]) (v:=.clo m1.heap.length) ?_ c2 (Nat.le_refl _) b1
    rw[step_fin (kEq ht rfl)]
    exact fin_eq ht (by show give _ _ (.clo (erM m1).heap.length) (lay (er (.clo l env)) _ _)=_;rw[lay_er,len_er];rfl)
   |app l d d2=>
    obtain⟨ht,hd,hd2⟩:=ht
    refine Ends.run (t:=⟨l,ctx,b,[]⟩) (e':=d) (kLt ht rfl) (pAt ht rfl) (ih d sc ctx env b m1 clos _ f1 b1 (fun y hy=>hp y (by simp[nodesOf,hy])) hd he c1) fun v m2 clos2 c2 h0 h3=>?_
    refine Ends.run (t:=⟨l,ctx,b,[v]⟩) (e':=d2) (kLt ht rfl) (pAt ht rfl) (Ends.mono (ih d2 sc ctx env b m2 clos2 _ (by omega) h3 (fun y hy=>hp y (by simp[nodesOf,hy])) hd2 he c2) h0) fun w m3 clos3 c3 h4 h5=>?_
    cases v with
    |num n=>exact Ends.wrongFin (t:=⟨l,ctx,b,[.num n,w]⟩) (m:=m3) (clos:=clos3) (kEq ht rfl) (fin_eq ht rfl)
    |clo n=>
     cases q:m3.heap[n]? with
     |none=>
      simp only[q]
      exact Ends.wrongFin (t:=⟨l,ctx,b,[.clo n,w]⟩) (m:=m3) (clos:=clos3) (kEq ht rfl) (fin_h (callO _ _ _ _ _) ht rfl (hq q) rfl)
     |some o=>
      cases o with
      |clo k2 e2=>
       obtain⟨b2,x,body,sc2,q1,q2,q3,q4,q5,q6⟩:=c3.2 n k2 e2 q
       simp only[q,q2]
       have hbody:∀y∈nodesOf body,nodeAt p (labelOf y)=some y:=fun y hy=>hP _ _ _ _ q2 y (by simp[nodesOf,hy])
       exact Ends.lastFin (t:=⟨l,ctx,b,[.clo n,w]⟩) (m0:=erM m3) (m:=erM {m3 with calls:=addTo m3.calls ⟨l,k2,ctx⟩}) (clos:=clos3) (l:=labelOf body) (c:=(l::ctx).take STRING) (b:=putB b2 k2 w) (kEq ht rfl)
        (fin_eq ht (by show callO nd _ _ w clos3[n]? (erM m3).heap[n]?=_;rw[hq q,q1];show comeTo ((nd k2).parts.getD 0 0) _ _ _=_;rw[q3];rfl)) (Ends.mono (ih body _ _ _ _ {m3 with calls:=addTo m3.calls ⟨l,k2,ctx⟩} clos3 _ (show 301<=f+m3.steps by omega) h5 hbody q5 (q6.push w q4) c3) h4)
      |pair k2 a2 b2=>
       simp only[q]
       exact Ends.wrongFin (t:=⟨l,ctx,b,[.clo n,w]⟩) (m:=m3) (clos:=clos3) (kEq ht rfl) (fin_h (callO _ _ _ _ _) ht rfl (hq q) rfl)
      |ref k2 a2=>
       simp only[q]
       exact Ends.wrongFin (t:=⟨l,ctx,b,[.clo n,w]⟩) (m:=m3) (clos:=clos3) (kEq ht rfl) (fin_h (callO _ _ _ _ _) ht rfl (hq q) rfl)
    |pair n=>exact Ends.wrongFin (t:=⟨l,ctx,b,[.pair n,w]⟩) (m:=m3) (clos:=clos3) (kEq ht rfl) (fin_eq ht rfl)
    |ref n=>exact Ends.wrongFin (t:=⟨l,ctx,b,[.ref n,w]⟩) (m:=m3) (clos:=clos3) (kEq ht rfl) (fin_eq ht rfl)
   |letE l x d d2=>
    obtain⟨ht,hl,hd,hd2⟩:=ht
    refine Ends.run (t:=⟨l,ctx,b,[]⟩) (e':=d) (kLt ht rfl) (pAt ht rfl) (ih d sc ctx env b m1 clos _ f1 b1 (fun y hy=>hp y (by simp[nodesOf,hy])) hd he c1) fun v m2 clos2 c2 h0 h3=>?_
    exact Ends.lastFin (t:=⟨l,ctx,b,[v]⟩) (m0:=erM m2) (m:=erM m2) (clos:=clos2) (l:=labelOf d2) (c:=ctx) (b:=putB b l v) (kEq ht rfl) (fin_eq ht rfl) (Ends.mono (ih d2 _ ctx _ _ m2 clos2 _ (by omega) h3 (fun y hy=>hp y (by simp[nodesOf,hy])) hd2 (he.push v hl) c2) h0)
   |ifz l d d2 d3=>
    obtain⟨ht,hd,hd2,hd3⟩:=ht
    refine Ends.run (t:=⟨l,ctx,b,[]⟩) (e':=d) (kLt ht rfl) (pAt ht rfl) (ih d sc ctx env b m1 clos _ f1 b1 (fun y hy=>hp y (by simp[nodesOf,hy])) hd he c1) fun v m2 clos2 c2 h0 h3=>?_
    cases v with
    |num n=>
     by_cases hn:n=0
     ·subst hn
      exact Ends.lastFin (t:=⟨l,ctx,b,[.num 0]⟩) (m0:=erM m2) (m:=erM m2) (clos:=clos2) (l:=labelOf d2) (c:=ctx) (b:=b) (kEq ht rfl) (fin_eq ht rfl) (Ends.mono (ih d2 _ ctx _ _ m2 clos2 _ (by omega) h3 (fun y hy=>hp y (by simp[nodesOf,hy])) hd2 he c2) h0)
     ·simp only[if_neg hn]
      exact Ends.lastFin (t:=⟨l,ctx,b,[.num n]⟩) (m0:=erM m2) (m:=erM m2) (clos:=clos2) (l:=labelOf d3) (c:=ctx) (b:=b) (kEq ht rfl) (fin_eq ht (by show comeTo (List.getD _ (if n=0 then 1 else 2) 0) _ _ _=_;rw[if_neg hn];rfl)) (Ends.mono (ih d3 _ ctx _ _ m2 clos2 _ (by omega) h3 (fun y hy=>hp y (by simp[nodesOf,hy])) hd3 he c2) h0)
    |clo n=>exact Ends.wrongFin (t:=⟨l,ctx,b,[.clo n]⟩) (m:=m2) (clos:=clos2) (kEq ht rfl) (fin_eq ht rfl)
    |pair n=>exact Ends.wrongFin (t:=⟨l,ctx,b,[.pair n]⟩) (m:=m2) (clos:=clos2) (kEq ht rfl) (fin_eq ht rfl)
    |ref n=>exact Ends.wrongFin (t:=⟨l,ctx,b,[.ref n]⟩) (m:=m2) (clos:=clos2) (kEq ht rfl) (fin_eq ht rfl)
   |pair l d d2=>
    obtain⟨ht,hd,hd2⟩:=ht
    refine Ends.run (t:=⟨l,ctx,b,[]⟩) (e':=d) (kLt ht rfl) (pAt ht rfl) (ih d sc ctx env b m1 clos _ f1 b1 (fun y hy=>hp y (by simp[nodesOf,hy])) hd he c1) fun v m2 clos2 c2 h0 h3=>?_
    refine Ends.run (t:=⟨l,ctx,b,[v]⟩) (e':=d2) (kLt ht rfl) (pAt ht rfl) (Ends.mono (ih d2 sc ctx env b m2 clos2 _ (by omega) h3 (fun y hy=>hp y (by simp[nodesOf,hy])) hd2 he c2) h0) fun w m3 clos3 c3 h4 h5=>?_
    have c4:CloInv p nd inp ({m3 with heap:=m3.heap++[Obj.pair l v w]}:Made).heap (clos3++[[]]):=clo_push c3 fun l' env' q=>by cases q
    exact Ends.giveFin (t:=⟨l,ctx,b,[v,w]⟩) (m0:=m3) (m:={m3 with heap:=m3.heap++[Obj.pair l v w]}) (clos0:=clos3) (clos:=clos3++[[]]) (v:=.pair m3.heap.length) (kEq ht rfl) (fin_eq ht (by show give _ _ (.pair (erM m3).heap.length) (lay (er (.pair l v w)) _ _)=_;rw[lay_er,len_er])) c4 h4 h5
   |fst l d=>
    obtain⟨ht,hd⟩:=ht
    refine Ends.run (t:=⟨l,ctx,b,[]⟩) (e':=d) (kLt ht rfl) (pAt ht rfl) (ih d sc ctx env b m1 clos _ f1 b1 (fun y hy=>hp y (by simp[nodesOf,hy])) hd he c1) fun v m2 clos2 c2 h0 h3=>?_
    cases v with
    |num n=>exact Ends.wrongFin (t:=⟨l,ctx,b,[.num n]⟩) (m:=m2) (clos:=clos2) (kEq ht rfl) (fin_eq ht rfl)
    |clo n=>exact Ends.wrongFin (t:=⟨l,ctx,b,[.clo n]⟩) (m:=m2) (clos:=clos2) (kEq ht rfl) (fin_eq ht rfl)
    |pair n=>
     cases q:m2.heap[n]? with
     |none=>
      simp only[q]
      exact Ends.wrongFin (t:=⟨l,ctx,b,[.pair n]⟩) (m:=m2) (clos:=clos2) (kEq ht rfl) (fin_h (fstO _ _ _) ht rfl (hq q) rfl)
     |some o=>
      simp only[q]
      cases o with
      |clo k2 e2=>exact Ends.wrongFin (t:=⟨l,ctx,b,[.pair n]⟩) (m:=m2) (clos:=clos2) (kEq ht rfl) (fin_h (fstO _ _ _) ht rfl (hq q) rfl)
      |pair k2 a2 b2=>exact Ends.giveFin (t:=⟨l,ctx,b,[.pair n]⟩) (v:=a2) (m:=m2) (clos:=clos2) (kEq ht rfl) (fin_h (fstO _ _ _) ht rfl (hq q) rfl) c2 h0 h3
      |ref k2 a2=>exact Ends.wrongFin (t:=⟨l,ctx,b,[.pair n]⟩) (m:=m2) (clos:=clos2) (kEq ht rfl) (fin_h (fstO _ _ _) ht rfl (hq q) rfl)
    |ref n=>exact Ends.wrongFin (t:=⟨l,ctx,b,[.ref n]⟩) (m:=m2) (clos:=clos2) (kEq ht rfl) (fin_eq ht rfl)
   |snd l d=>
    obtain⟨ht,hd⟩:=ht
    refine Ends.run (t:=⟨l,ctx,b,[]⟩) (e':=d) (kLt ht rfl) (pAt ht rfl) (ih d sc ctx env b m1 clos _ f1 b1 (fun y hy=>hp y (by simp[nodesOf,hy])) hd he c1) fun v m2 clos2 c2 h0 h3=>?_
    cases v with
    |num n=>exact Ends.wrongFin (t:=⟨l,ctx,b,[.num n]⟩) (m:=m2) (clos:=clos2) (kEq ht rfl) (fin_eq ht rfl)
    |clo n=>exact Ends.wrongFin (t:=⟨l,ctx,b,[.clo n]⟩) (m:=m2) (clos:=clos2) (kEq ht rfl) (fin_eq ht rfl)
    |pair n=>
     cases q:m2.heap[n]? with
     |none=>
      simp only[q]
      exact Ends.wrongFin (t:=⟨l,ctx,b,[.pair n]⟩) (m:=m2) (clos:=clos2) (kEq ht rfl) (fin_h (sndO _ _ _) ht rfl (hq q) rfl)
     |some o=>
      simp only[q]
      cases o with
      |clo k2 e2=>exact Ends.wrongFin (t:=⟨l,ctx,b,[.pair n]⟩) (m:=m2) (clos:=clos2) (kEq ht rfl) (fin_h (sndO _ _ _) ht rfl (hq q) rfl)
      |pair k2 a2 b2=>exact Ends.giveFin (t:=⟨l,ctx,b,[.pair n]⟩) (v:=b2) (m:=m2) (clos:=clos2) (kEq ht rfl) (fin_h (sndO _ _ _) ht rfl (hq q) rfl) c2 h0 h3
      |ref k2 a2=>exact Ends.wrongFin (t:=⟨l,ctx,b,[.pair n]⟩) (m:=m2) (clos:=clos2) (kEq ht rfl) (fin_h (sndO _ _ _) ht rfl (hq q) rfl)
    |ref n=>exact Ends.wrongFin (t:=⟨l,ctx,b,[.ref n]⟩) (m:=m2) (clos:=clos2) (kEq ht rfl) (fin_eq ht rfl)
   |new l d=>
    obtain⟨ht,hd⟩:=ht
    refine Ends.run (t:=⟨l,ctx,b,[]⟩) (e':=d) (kLt ht rfl) (pAt ht rfl) (ih d sc ctx env b m1 clos _ f1 b1 (fun y hy=>hp y (by simp[nodesOf,hy])) hd he c1) fun v m2 clos2 c2 h0 h3=>?_
    have c4:CloInv p nd inp ({m2 with heap:=m2.heap++[Obj.ref l v]}:Made).heap (clos2++[[]]):=clo_push c2 fun l' env' q=>by cases q
    exact Ends.giveFin (t:=⟨l,ctx,b,[v]⟩) (m0:=m2) (m:={m2 with heap:=m2.heap++[Obj.ref l v]}) (clos0:=clos2) (clos:=clos2++[[]]) (v:=.ref m2.heap.length) (kEq ht rfl) (fin_eq ht (by show give _ _ (.ref (erM m2).heap.length) (lay (er (.ref l v)) _ _)=_;rw[lay_er,len_er])) c4 h0 h3
   |get l d=>
    obtain⟨ht,hd⟩:=ht
    refine Ends.run (t:=⟨l,ctx,b,[]⟩) (e':=d) (kLt ht rfl) (pAt ht rfl) (ih d sc ctx env b m1 clos _ f1 b1 (fun y hy=>hp y (by simp[nodesOf,hy])) hd he c1) fun v m2 clos2 c2 h0 h3=>?_
    cases v with
    |num n=>exact Ends.wrongFin (t:=⟨l,ctx,b,[.num n]⟩) (m:=m2) (clos:=clos2) (kEq ht rfl) (fin_eq ht rfl)
    |clo n=>exact Ends.wrongFin (t:=⟨l,ctx,b,[.clo n]⟩) (m:=m2) (clos:=clos2) (kEq ht rfl) (fin_eq ht rfl)
    |pair n=>exact Ends.wrongFin (t:=⟨l,ctx,b,[.pair n]⟩) (m:=m2) (clos:=clos2) (kEq ht rfl) (fin_eq ht rfl)
    |ref n=>
     cases q:m2.heap[n]? with
     |none=>
      simp only[q]
      exact Ends.wrongFin (t:=⟨l,ctx,b,[.ref n]⟩) (m:=m2) (clos:=clos2) (kEq ht rfl) (fin_h (getO _ _ _) ht rfl (hq q) rfl)
     |some o=>
      simp only[q]
      cases o with
      |clo k2 e2=>exact Ends.wrongFin (t:=⟨l,ctx,b,[.ref n]⟩) (m:=m2) (clos:=clos2) (kEq ht rfl) (fin_h (getO _ _ _) ht rfl (hq q) rfl)
      |pair k2 a2 b2=>exact Ends.wrongFin (t:=⟨l,ctx,b,[.ref n]⟩) (m:=m2) (clos:=clos2) (kEq ht rfl) (fin_h (getO _ _ _) ht rfl (hq q) rfl)
      |ref k2 a2=>exact Ends.giveFin (t:=⟨l,ctx,b,[.ref n]⟩) (v:=a2) (m:=m2) (clos:=clos2) (kEq ht rfl) (fin_h (getO _ _ _) ht rfl (hq q) rfl) c2 h0 h3
   |set l d d2=>
    obtain⟨ht,hd,hd2⟩:=ht
    refine Ends.run (t:=⟨l,ctx,b,[]⟩) (e':=d) (kLt ht rfl) (pAt ht rfl) (ih d sc ctx env b m1 clos _ f1 b1 (fun y hy=>hp y (by simp[nodesOf,hy])) hd he c1) fun v m2 clos2 c2 h0 h3=>?_
    refine Ends.run (t:=⟨l,ctx,b,[v]⟩) (e':=d2) (kLt ht rfl) (pAt ht rfl) (Ends.mono (ih d2 sc ctx env b m2 clos2 _ (by omega) h3 (fun y hy=>hp y (by simp[nodesOf,hy])) hd2 he c2) h0) fun w m3 clos3 c3 h4 h5=>?_
    cases v with
    |num n=>exact Ends.wrongFin (t:=⟨l,ctx,b,[.num n,w]⟩) (m:=m3) (clos:=clos3) (kEq ht rfl) (fin_eq ht rfl)
    |clo n=>exact Ends.wrongFin (t:=⟨l,ctx,b,[.clo n,w]⟩) (m:=m3) (clos:=clos3) (kEq ht rfl) (fin_eq ht rfl)
    |pair n=>exact Ends.wrongFin (t:=⟨l,ctx,b,[.pair n,w]⟩) (m:=m3) (clos:=clos3) (kEq ht rfl) (fin_eq ht rfl)
    |ref n=>
     cases q:m3.heap[n]? with
     |none=>
      simp only[q]
      exact Ends.wrongFin (t:=⟨l,ctx,b,[.ref n,w]⟩) (m:=m3) (clos:=clos3) (kEq ht rfl) (fin_h (setO _ _ _ _ _) ht rfl (hq q) rfl)
     |some o=>
      cases o with
      |clo k2 e2=>
       simp only[q]
       exact Ends.wrongFin (t:=⟨l,ctx,b,[.ref n,w]⟩) (m:=m3) (clos:=clos3) (kEq ht rfl) (fin_h (setO _ _ _ _ _) ht rfl (hq q) rfl)
      |pair k2 a2 b2=>
       simp only[q]
       exact Ends.wrongFin (t:=⟨l,ctx,b,[.ref n,w]⟩) (m:=m3) (clos:=clos3) (kEq ht rfl) (fin_h (setO _ _ _ _ _) ht rfl (hq q) rfl)
      |ref k2 a2=>
       simp only[q]
       exact Ends.giveFin (t:=⟨l,ctx,b,[.ref n,w]⟩) (m0:=m3) (m:={m3 with heap:=m3.heap.set n (.ref k2 w)}) (clos0:=clos3) (clos:=clos3) (v:=w) (kEq ht rfl) (fin_eq ht (by show setO _ _ _ n w (erM m3).heap[n]?=_;rw[hq q];show give _ _ _ ⟨⟨(m3.heap.map er).set n (er (.ref k2 w)),_,_,_⟩,_,_,_⟩=_;rw[<-List.map_set];rfl)) (clo_set c3) h4 h5
   |add l d d2=>
    obtain⟨ht,hd,hd2⟩:=ht
    refine Ends.run (t:=⟨l,ctx,b,[]⟩) (e':=d) (kLt ht rfl) (pAt ht rfl) (ih d sc ctx env b m1 clos _ f1 b1 (fun y hy=>hp y (by simp[nodesOf,hy])) hd he c1) fun v m2 clos2 c2 h0 h3=>?_
    refine Ends.run (t:=⟨l,ctx,b,[v]⟩) (e':=d2) (kLt ht rfl) (pAt ht rfl) (Ends.mono (ih d2 sc ctx env b m2 clos2 _ (by omega) h3 (fun y hy=>hp y (by simp[nodesOf,hy])) hd2 he c2) h0) fun w m3 clos3 c3 h4 h5=>?_
    cases v with
    |num i=>
     cases w with
     |num j=>exact Ends.giveFin (t:=⟨l,ctx,b,[.num i,.num j]⟩) (m0:=m3) (m:=m3) (clos0:=clos3) (clos:=clos3) (v:=.num ((i+j) % MOD)) (kEq ht rfl) (fin_eq ht rfl) c3 h4 h5
     |clo n=>exact Ends.wrongFin (t:=⟨l,ctx,b,[.num i,.clo n]⟩) (m:=m3) (clos:=clos3) (kEq ht rfl) (fin_eq ht rfl)
     |pair n=>exact Ends.wrongFin (t:=⟨l,ctx,b,[.num i,.pair n]⟩) (m:=m3) (clos:=clos3) (kEq ht rfl) (fin_eq ht rfl)
     |ref n=>exact Ends.wrongFin (t:=⟨l,ctx,b,[.num i,.ref n]⟩) (m:=m3) (clos:=clos3) (kEq ht rfl) (fin_eq ht rfl)
    |clo n=>exact Ends.wrongFin (t:=⟨l,ctx,b,[.clo n,w]⟩) (m:=m3) (clos:=clos3) (kEq ht rfl) (fin_eq ht rfl)
    |pair n=>exact Ends.wrongFin (t:=⟨l,ctx,b,[.pair n,w]⟩) (m:=m3) (clos:=clos3) (kEq ht rfl) (fin_eq ht rfl)
    |ref n=>exact Ends.wrongFin (t:=⟨l,ctx,b,[.ref n,w]⟩) (m:=m3) (clos:=clos3) (kEq ht rfl) (fin_eq ht rfl)
end
theorem sub_nodes {y:Expr}:∀{e:Expr},y∈nodesOf e->∀z∈nodesOf y,z∈nodesOf e:=by
 intro e
 induction e<;>(intro hy z hz;simp only[nodesOf,List.mem_cons,List.mem_append,List.not_mem_nil,or_false]at hy ⊢)
 case num=>subst hy;simpa[nodesOf]using hz
 case var=>subst hy;simpa[nodesOf]using hz
 case fn ih=>rcases hy with rfl|hy;(· simpa[nodesOf]using hz);exact .inr (ih hy z hz)
 case fst ih=>rcases hy with rfl|hy;(· simpa[nodesOf]using hz);exact .inr (ih hy z hz)
 case snd ih=>rcases hy with rfl|hy;(· simpa[nodesOf]using hz);exact .inr (ih hy z hz)
 case new ih=>rcases hy with rfl|hy;(· simpa[nodesOf]using hz);exact .inr (ih hy z hz)
 case get ih=>rcases hy with rfl|hy;(· simpa[nodesOf]using hz);exact .inr (ih hy z hz)
 case app ih1 ih2=>rcases hy with rfl|hy|hy;(· simpa[nodesOf]using hz);exact .inr (.inl (ih1 hy z hz));exact .inr (.inr (ih2 hy z hz))
 case letE ih1 ih2=>rcases hy with rfl|hy|hy;(· simpa[nodesOf]using hz);exact .inr (.inl (ih1 hy z hz));exact .inr (.inr (ih2 hy z hz))
 case pair ih1 ih2=>rcases hy with rfl|hy|hy;(· simpa[nodesOf]using hz);exact .inr (.inl (ih1 hy z hz));exact .inr (.inr (ih2 hy z hz))
 case set ih1 ih2=>rcases hy with rfl|hy|hy;(· simpa[nodesOf]using hz);exact .inr (.inl (ih1 hy z hz));exact .inr (.inr (ih2 hy z hz))
 case add ih1 ih2=>rcases hy with rfl|hy|hy;(· simpa[nodesOf]using hz);exact .inr (.inl (ih1 hy z hz));exact .inr (.inr (ih2 hy z hz))
 case ifz ih1 ih2 ih3=>rcases hy with rfl|hy|hy|hy;(· simpa[nodesOf]using hz);exact .inr (.inl (ih1 hy z hz));exact .inr (.inr (.inl (ih2 hy z hz)));exact .inr (.inr (.inr (ih3 hy z hz)))
theorem find_label:∀(l:List Expr) (n i:Nat),l.map labelOf=List.range' n l.length->(l.find? fun x=>labelOf x==n+i)=l[i]?
 |[],n,i,_=>by simp
 |a::l,n,i,h=>by
  rw[List.map_cons,List.length_cons,List.range'_succ]at h
  injection h with h1 h2
  rw[List.find?_cons]
  cases i with
  |zero=>simp[h1]
  |succ i=>
   have:(labelOf a==n+(i+1))=false:=by rw[h1];simp
   rw[this]
   have:=find_label l (n+1) i h2
   rw[show n+1+i=n+(i+1) by omega]at this
   simpa using this
structure Prg (p:Expr):Prop where
 lab:Lab p 0 (sz p)
 clo:isClosed [INPUT] p=true
 few:sz p<=30
 deep:deepOf p<=8
theorem prg_of {p:Expr} (h:isProgram p=true):Prg p:=by
 simp only[isProgram,Bool.and_eq_true,beq_iff_eq]at h
 obtain⟨c1,c2,c3,c4⟩:=h
 have c3:(labelsOf p).length<=30:=of_decide_eq_true c3
 rw[len_labels]at c3
 have l0:Lab p 0 (0+sz p):=lab_of p 0 (by rw[<-len_labels,<-List.range_eq_range'];exact c2)
 rw[Nat.zero_add]at l0
 exact⟨l0,c1,c3,of_decide_eq_true c4⟩
theorem nodeAt_get {p:Expr} (P:Prg p) (l:Nat):nodeAt p l=(nodesOf p)[l]?:=by
 have h:=(labelsOf_of P.lab).1
 have:=find_label (nodesOf p) 0 l (by rw[Nat.sub_zero]at h;exact h)
 rw[Nat.zero_add]at this
 exact this
theorem nodeAt_mem {p:Expr} (P:Prg p) {y:Expr} (h:y∈nodesOf p):nodeAt p (labelOf y)=some y:=by
 rw[nodeAt_get P]
 obtain⟨i,hi⟩:=List.mem_iff_getElem?.mp h
 have hl:=(labelsOf_of P.lab).1
 rw[Nat.sub_zero]at hl
 have e:(labelsOf p)[i]?=some (labelOf y):=by unfold labelsOf;rw[List.getElem?_map,hi];rfl
 have hlt:i<sz p:=(List.getElem?_eq_some_iff.mp hi).1
 rw[hl,List.getElem?_range' hlt]at e
 have e:0+1*i=labelOf y:=Option.some.inj e
 rw[<-e,show 0+1*i=i by omega]
 exact hi
theorem found_of {p:Expr} (P:Prg p):Found p:=fun k l x body h y hy=>by
 have hm:Expr.fn l x body∈nodesOf p:=List.mem_of_find?_eq_some h
 exact nodeAt_mem P (sub_nodes hm y hy)
structure Ann where
 e:Expr
 sc:Scp
 dep:Nat
 pos:Nat
def ann:Scp->Nat->Nat->Expr->List Ann
 |sc,d,q,.num l n=>[⟨.num l n,sc,d,q⟩]
 |sc,d,q,.var l x=>[⟨.var l x,sc,d,q⟩]
 |sc,d,q,.fn l x b=>⟨.fn l x b,sc,d,q⟩::ann ((x,l)::sc) (d+1) (q+6+x.length) b
 |sc,d,q,.app l f a=>⟨.app l f a,sc,d,q⟩::(ann sc (d+1) (q+1) f++ann sc (d+1) (q+2+(textOf f).length) a)
 |sc,d,q,.letE l x e b=>⟨.letE l x e b,sc,d,q⟩::(ann sc (d+1) (q+6+x.length) e++ann ((x,l)::sc) (d+1) (q+7+x.length+(textOf e).length) b)
 |sc,d,q,.ifz l c t e=>⟨.ifz l c t e,sc,d,q⟩::(ann sc (d+1) (q+4) c++(ann sc (d+1) (q+5+(textOf c).length) t++ann sc (d+1) (q+6+(textOf c).length+(textOf t).length) e))
 |sc,d,q,.pair l a b=>⟨.pair l a b,sc,d,q⟩::(ann sc (d+1) (q+6) a++ann sc (d+1) (q+7+(textOf a).length) b)
 |sc,d,q,.fst l e=>⟨.fst l e,sc,d,q⟩::ann sc (d+1) (q+5) e
 |sc,d,q,.snd l e=>⟨.snd l e,sc,d,q⟩::ann sc (d+1) (q+5) e
 |sc,d,q,.new l e=>⟨.new l e,sc,d,q⟩::ann sc (d+1) (q+5) e
 |sc,d,q,.get l e=>⟨.get l e,sc,d,q⟩::ann sc (d+1) (q+5) e
 |sc,d,q,.set l r e=>⟨.set l r e,sc,d,q⟩::(ann sc (d+1) (q+5) r++ann sc (d+1) (q+6+(textOf r).length) e)
 |sc,d,q,.add l a b=>⟨.add l a b,sc,d,q⟩::(ann sc (d+1) (q+5) a++ann sc (d+1) (q+6+(textOf a).length) b)
theorem ann_nodes:∀(e:Expr) (sc:Scp) (d q:Nat),(ann sc d q e).map (·.e)=nodesOf e:=by
 intro e
 induction e<;>(intro sc d q;simp only[ann,nodesOf,List.map_cons,List.map_append,List.map_nil])<;>simp[*]
theorem ann_len (e:Expr) (sc:Scp) (d q:Nat):(ann sc d q e).length=sz e:=by
 have:=congrArg List.length (ann_nodes e sc d q)
 rw[List.length_map]at this
 exact this
def kids:Expr->List Expr
 |.num _ _=>[]
 |.var _ _=>[]
 |.fn _ _ b=>[b]
 |.app _ f a=>[f,a]
 |.letE _ _ e b=>[e,b]
 |.ifz _ c t e=>[c,t,e]
 |.pair _ a b=>[a,b]
 |.fst _ e=>[e]
 |.snd _ e=>[e]
 |.new _ e=>[e]
 |.get _ e=>[e]
 |.set _ r e=>[r,e]
 |.add _ a b=>[a,b]
def bndOf (sc:Scp) (e:Expr):Option Nat:=match e with
 |.var _ x=>(sc.find? fun z=>z.1==x).map (·.2)
 |_=>none
def valOf (e:Expr):Nat:=match e with
 |.num _ n=>n
 |_=>0
def ndOf (a:Ann):Nd:=⟨kindOf a.e,valOf a.e,(kids a.e).map labelOf,bndOf a.sc a.e⟩
def Rows (L:List Ann) (n:Nat) (r:List Ann):Prop:=∀i (a:Ann),r[i]?=some a->L[n+i]?=some a
theorem Rows.head {L:List Ann} {n:Nat} {a:Ann} {r:List Ann} (h:Rows L n (a::r)):L[n]?=some a:=h 0 a rfl
theorem Rows.tail {L:List Ann} {n:Nat} {a:Ann} {r:List Ann} (h:Rows L n (a::r)):Rows L (n+1) r:=fun i b hb=>by
 have:=h (i+1) b (by simpa using hb)
 rw[show n+1+i=n+(i+1) by omega]
 exact this
theorem Rows.left {L:List Ann} {n:Nat} {r s:List Ann} (h:Rows L n (r++s)):Rows L n r:=fun i b hb=>h i b (by rw[List.getElem?_append_left (List.getElem?_eq_some_iff.mp hb).1];exact hb)
theorem Rows.right {L:List Ann} {n:Nat} {r s:List Ann} (h:Rows L n (r++s)):Rows L (n+r.length) s:=fun i b hb=>by
 have:=h (r.length+i) b (by rw[List.getElem?_append_right (by omega),show r.length+i-r.length=i by omega];exact hb)
 rw[show n+r.length+i=n+(r.length+i) by omega]
 exact this
theorem lab_head {e:Expr} {n n':Nat} (h:Lab e n n'):labelOf e=n:=by
 cases e<;>simp only[Lab]at h<;>first|exact h.1|exact h
theorem lab_next {e:Expr} {n n':Nat} (h:Lab e n n'):n'=n+sz e:=(labelsOf_of h).2
theorem tab_of (L:List Ann):∀(e:Expr) (sc:Scp) (d q n n':Nat),Lab e n n'->isClosed (names sc) e=true->(∀z∈sc,z.2<n)->Rows L n (ann sc d q e) ->
  Tab (fun l=>((L[l]?).map ndOf).getD ⟨0,0,[],none⟩) sc e:=by
 intro e
 have push:∀{sc:Scp} {n:Nat} {x:Name},(∀z∈sc,z.2<n)->∀z∈((x,n)::sc:Scp),z.2<n+1:=fun h z hz=>by
  rcases List.mem_cons.mp hz with rfl|hz
  ·exact Nat.lt_succ_self _
  ·have:=h z hz;omega
 have up:∀{sc:Scp} {n m:Nat},(∀z∈sc,z.2<n)->n<=m->∀z∈sc,z.2<m:=fun h hm z hz=>by have:=h z hz;omega
 induction e with
 |num l k=>intro sc d q n n' h hc hz hr;obtain⟨rfl,rfl⟩:=h;simp[Tab,hr.head,ann,ndOf,kindOf,valOf,kids,bndOf,Rows.head (r:=[]) (a:=⟨.num l k,sc,d,q⟩) hr]
 |var l x=>
  intro sc d q n n' h hc hz hr
  obtain⟨rfl,rfl⟩:=h
  simp only[isClosed,Bool.and_eq_true]at hc
  refine⟨by simp[Rows.head (r:=[]) (a:=⟨.var l x,sc,d,q⟩) hr,ndOf,kindOf,valOf,kids,bndOf],?_⟩
  have:=List.contains_iff_mem.mp hc.2
  unfold names at this
  rcases List.mem_append.mp this with q|q
  ·exact .inl q
  ·exact .inr (List.mem_singleton.mp q)
 |fn l x b ih=>
  intro sc d q n n' h hc hz hr
  obtain⟨rfl,h1⟩:=h
  simp only[isClosed,Bool.and_eq_true]at hc
  refine⟨by simp[Rows.head (a:=⟨.fn l x b,sc,d,q⟩) hr,ndOf,kindOf,valOf,kids,bndOf],hz,ih _ _ _ _ _ h1 hc.2.2 (push hz) hr.tail⟩
 |letE l x a b ih1 ih2=>
  intro sc d q n n' h hc hz hr
  obtain⟨rfl,m,h1,h2⟩:=h
  simp only[isClosed,Bool.and_eq_true]at hc
  have e1:=lab_next h1
  have r2:=hr.tail.right
  rw[ann_len,<-e1]at r2
  exact⟨by simp[Rows.head (a:=⟨.letE l x a b,sc,d,q⟩) hr,ndOf,kindOf,valOf,kids,bndOf],hz,ih1 _ _ _ _ _ h1 hc.2.2.1 (up hz (by omega)) hr.tail.left,ih2 _ _ _ _ _ h2 hc.2.2.2 (up (push hz) (by omega)) r2⟩
 |ifz l a b c ih1 ih2 ih3=>
  intro sc d q n n' h hc hz hr
  obtain⟨rfl,m,k,h1,h2,h3⟩:=h
  simp only[isClosed,Bool.and_eq_true]at hc
  have e1:=lab_next h1
  have e2:=lab_next h2
  have r2:=hr.tail.right
  rw[ann_len,<-e1]at r2
  have r3:=r2.right
  rw[ann_len,<-e2]at r3
  exact⟨by simp[Rows.head (a:=⟨.ifz l a b c,sc,d,q⟩) hr,ndOf,kindOf,valOf,kids,bndOf],ih1 _ _ _ _ _ h1 hc.1 (up hz (by omega)) hr.tail.left,ih2 _ _ _ _ _ h2 hc.2.1 (up hz (by omega)) r2.left,ih3 _ _ _ _ _ h3 hc.2.2 (up hz (by omega)) r3⟩
 |fst l b ih=>
  intro sc d q n n' h hc hz hr
  obtain⟨rfl,h1⟩:=h
  exact⟨by simp[Rows.head (a:=⟨.fst l b,sc,d,q⟩) hr,ndOf,kindOf,valOf,kids,bndOf],ih _ _ _ _ _ h1 hc (up hz (by omega)) hr.tail⟩
 |snd l b ih=>
  intro sc d q n n' h hc hz hr
  obtain⟨rfl,h1⟩:=h
  exact⟨by simp[Rows.head (a:=⟨.snd l b,sc,d,q⟩) hr,ndOf,kindOf,valOf,kids,bndOf],ih _ _ _ _ _ h1 hc (up hz (by omega)) hr.tail⟩
 |new l b ih=>
  intro sc d q n n' h hc hz hr
  obtain⟨rfl,h1⟩:=h
  exact⟨by simp[Rows.head (a:=⟨.new l b,sc,d,q⟩) hr,ndOf,kindOf,valOf,kids,bndOf],ih _ _ _ _ _ h1 hc (up hz (by omega)) hr.tail⟩
 |get l b ih=>
  intro sc d q n n' h hc hz hr
  obtain⟨rfl,h1⟩:=h
  exact⟨by simp[Rows.head (a:=⟨.get l b,sc,d,q⟩) hr,ndOf,kindOf,valOf,kids,bndOf],ih _ _ _ _ _ h1 hc (up hz (by omega)) hr.tail⟩
 |app l a b ih1 ih2=>
  intro sc d q n n' h hc hz hr
  obtain⟨rfl,m,h1,h2⟩:=h
  simp only[isClosed,Bool.and_eq_true]at hc
  have e1:=lab_next h1
  have r2:=hr.tail.right
  rw[ann_len,<-e1]at r2
  exact⟨by simp[Rows.head (a:=⟨.app l a b,sc,d,q⟩) hr,ndOf,kindOf,valOf,kids,bndOf],ih1 _ _ _ _ _ h1 hc.1 (up hz (by omega)) hr.tail.left,ih2 _ _ _ _ _ h2 hc.2 (up hz (by omega)) r2⟩
 |pair l a b ih1 ih2=>
  intro sc d q n n' h hc hz hr
  obtain⟨rfl,m,h1,h2⟩:=h
  simp only[isClosed,Bool.and_eq_true]at hc
  have e1:=lab_next h1
  have r2:=hr.tail.right
  rw[ann_len,<-e1]at r2
  exact⟨by simp[Rows.head (a:=⟨.pair l a b,sc,d,q⟩) hr,ndOf,kindOf,valOf,kids,bndOf],ih1 _ _ _ _ _ h1 hc.1 (up hz (by omega)) hr.tail.left,ih2 _ _ _ _ _ h2 hc.2 (up hz (by omega)) r2⟩
 |set l a b ih1 ih2=>
  intro sc d q n n' h hc hz hr
  obtain⟨rfl,m,h1,h2⟩:=h
  simp only[isClosed,Bool.and_eq_true]at hc
  have e1:=lab_next h1
  have r2:=hr.tail.right
  rw[ann_len,<-e1]at r2
  exact⟨by simp[Rows.head (a:=⟨.set l a b,sc,d,q⟩) hr,ndOf,kindOf,valOf,kids,bndOf],ih1 _ _ _ _ _ h1 hc.1 (up hz (by omega)) hr.tail.left,ih2 _ _ _ _ _ h2 hc.2 (up hz (by omega)) r2⟩
 |add l a b ih1 ih2=>
  intro sc d q n n' h hc hz hr
  obtain⟨rfl,m,h1,h2⟩:=h
  simp only[isClosed,Bool.and_eq_true]at hc
  have e1:=lab_next h1
  have r2:=hr.tail.right
  rw[ann_len,<-e1]at r2
  exact⟨by simp[Rows.head (a:=⟨.add l a b,sc,d,q⟩) hr,ndOf,kindOf,valOf,kids,bndOf],ih1 _ _ _ _ _ h1 hc.1 (up hz (by omega)) hr.tail.left,ih2 _ _ _ _ _ h2 hc.2 (up hz (by omega)) r2⟩
def tabOf (p:Expr):Nat->Nd:=fun l=>(((ann [] 0 0 p)[l]?).map ndOf).getD ⟨0,0,[],none⟩
theorem tab_prg {p:Expr} (P:Prg p):Tab (tabOf p) [] p:=tab_of (ann [] 0 0 p) p [] 0 0 0 _ P.lab P.clo (fun _ z=>nomatch z) (fun i a h=>by rw[Nat.zero_add];exact h)
def startS:MS:=⟨nothing,[],[],none⟩
theorem run_ends {p:Expr} (P:Prg p) (inp:Nat):∃k S,iterM (tabOf p) inp k (comeTo 0 [] [] startS)=S/\S.m=erM (madeOf (runOf p inp))/\S.fin=some (toldRun (runOf p inp)):=by
 have h:=sim (nd:=tabOf p) (inp:=inp) (found_of P) (STEPS+1) p [] [] [⟨INPUT,.num inp⟩] [] nothing [] [] (by simp[STEPS,nothing]) (by simp[nothing]) (fun y hy=>nodeAt_mem P hy) (tab_prg P) ⟨by simp,fun z hz=>nomatch hz⟩ ⟨rfl,fun i l env e=>by simp[nothing]at e⟩
 rw[lab_head P.lab]at h
 have e0:(⟨erM nothing,[],[],none⟩:MS)=startS:=rfl
 rw[e0]at h
 unfold runOf
 cases q:eval p (STEPS+1) [] [⟨INPUT,.num inp⟩] p nothing with
 |ok v m'=>
  rw[q]at h
  obtain⟨k,c,h1,h2,h3,h4⟩:=h
  refine⟨k,_,h1,rfl,?_⟩
  simp only[deliver,toldRun]
  have e1:absOf (erM m').heap v=absOf m'.heap v:=absOf_er _ _
  rw[e1]
  cases v<;>rfl
 |wrong l m'=>
  rw[q]at h
  obtain⟨k,h1,h2⟩:=h
  exact⟨k,_,rfl,h1,h2⟩
 |long m'=>
  rw[q]at h
  obtain⟨k,h1,h2⟩:=h
  exact⟨k,_,rfl,h1,h2⟩
def Cov (sc:List Nat) (b:Bnd):Prop:=∀z∈sc,(getB b z).isSome=true
structure TabOk (nd:Nat->Nd) (N:Nat) (sc:Nat->List Nat):Prop where
 kind:∀l,l<N->(nd l).kind<=12
 len:∀l,l<N->(nd l).parts.length=nparts (nd l).kind
 part:∀l,l<N->∀(j k:Nat),(nd l).parts[j]?=some k->k<N/\∀z∈sc k,z∈sc l\/(z=l/\((nd l).kind=2\/((nd l).kind=4/\j=1)))
 bnd:∀l,l<N->(nd l).kind=1->∀b,(nd l).bnd=some b->b∈sc l
structure VOk (nd:Nat->Nd) (N:Nat) (sc:Nat->List Nat) (st:Nat) (t:Vst):Prop where
 lab:t.lab<N
 cov:Cov (sc t.lab) t.bnd
 bl:t.bnd.length<=st
 rl:t.res.length<=3
 cl:t.ctx.length<=3
structure OkS (nd:Nat->Nd) (N:Nat) (sc:Nat->List Nat) (S:MS):Prop where
 st:S.m.steps<=300
 ne:S.fin=none->S.vis≠[]
 vf:S.vis.length+S.m.flows.length<=S.m.steps
 vh:S.vis.length+S.m.heap.length<=S.m.steps
 ca:S.m.calls.length<=S.m.steps+(if S.fin=none then 0 else 1)
 vs:∀t∈S.vis,VOk nd N sc S.m.steps t
 tl:∀t∈S.vis.tail,t.res.length<=2
 cl:S.clos.length=S.m.heap.length
 co:∀(i l:Nat) (env:Env) (b:Bnd),S.m.heap[i]?=some (Obj.clo l env)->S.clos[i]?=some b->l<N/\(nd l).kind=2/\Cov (sc l) b
 cb:∀b∈S.clos,b.length<=S.m.steps
 fe:∀l,S.fin=some l->l≠[]
 cx:∀c∈S.m.calls,c.ctx.length<=3
 fx:∀f∈S.m.flows,f.ctx.length<=3
theorem putB_len (b:Bnd) (k:Nat) (v:Value):(putB b k v).length<=b.length+1:=by
 unfold putB
 split
 ·rw[List.length_map];omega
 ·rw[List.length_append];exact Nat.le_refl _
theorem Cov.put {sc sc':List Nat} {b:Bnd} {l:Nat} {v:Value} (h:Cov sc b) (hs:∀z∈sc',z∈sc\/z=l):Cov sc' (putB b l v):=fun z hz=>by
 rw[getB_put]
 by_cases e:z=l
 ·rw[if_pos e];rfl
 ·rw[if_neg e]
  rcases hs z hz with k|k
  ·exact h z k
  ·exact absurd k e
theorem VOk.mono {nd:Nat->Nd} {N:Nat} {sc:Nat->List Nat} {a b:Nat} {t:Vst} (h:VOk nd N sc a t) (k:a<=b):VOk nd N sc b t:=⟨h.lab,h.cov,Nat.le_trans h.bl k,h.rl,h.cl⟩
theorem addTo_len {α:Type} [BEq α] (l:List α) (x:α):(addTo l x).length<=l.length+1:=by
 unfold addTo
 split
 ·omega
 ·rw[List.length_append];exact Nat.le_refl _
theorem addTo_mem {α:Type} [BEq α] {l:List α} {x y:α} (h:y∈addTo l x):y∈l\/y=x:=by
 unfold addTo at h
 split at h
 ·exact .inl h
 ·rcases List.mem_append.mp h with k|k
  ·exact .inl k
  ·exact .inr (List.mem_singleton.mp k)
section
variable {nd:Nat->Nd} {N:Nat} {sc:Nat->List Nat} {inp:Nat} {S:MS}
theorem OkS.come (h:OkS nd N sc S) (hf:S.fin=none) (ht:∀t∈S.vis.head?,t.res.length<=2) {cs:List Call} (hcx:∀c∈cs,c.ctx.length<=3) (hc:cs.length<=S.m.steps+1) {l:Nat} {c:Ctx} {b:Bnd} (hl:l<N) (hv:Cov (sc l) b) (hb:b.length<=S.m.steps+1) (hx:c.length<=3) :
  OkS nd N sc (comeTo l c b {S with m:={S.m with calls:=cs}}):=by
 unfold comeTo
 by_cases e:S.m.steps=300
 ·rw[if_pos e]
  exact⟨h.st,fun z=>by simp at z,h.vf,h.vh,by simpa using hc,h.vs,h.tl,h.cl,h.co,h.cb,fun l z=>(by cases z;simp),hcx,h.fx⟩
 ·rw[if_neg e]
  have:=h.st
  refine⟨by show S.m.steps+1<=300;omega,fun _ z=>(nomatch z),?_,?_,?_,?_,?_,h.cl,h.co,fun b hb=>Nat.le_succ_of_le (h.cb b hb),fun l z=>(by have z:S.fin=some l:=z;rw[hf]at z;cases z),hcx,h.fx⟩
  ·have:=h.vf
   show(_::S.vis).length+S.m.flows.length<=S.m.steps+1
   rw[List.length_cons];omega
  ·have:=h.vh
   show(_::S.vis).length+S.m.heap.length<=S.m.steps+1
   rw[List.length_cons];omega
  ·show cs.length<=S.m.steps+1+(if S.fin=none then 0 else 1)
   rw[if_pos hf];exact hc
  ·intro t ht
   rcases List.mem_cons.mp ht with rfl|ht
   ·exact⟨hl,hv,hb,by simp,hx⟩
   ·exact(h.vs t ht).mono (Nat.le_succ _)
  ·intro t h1
   have h1:t∈S.vis:=h1
   cases hv:S.vis with
   |nil=>rw[hv]at h1;exact nomatch h1
   |cons u r=>
    rw[hv]at h1
    rcases List.mem_cons.mp h1 with rfl|h2
    ·exact ht _ (by rw[hv];rfl)
    ·exact h.tl t (by rw[hv];exact h2)
theorem OkS.come0 (h:OkS nd N sc S) (hf:S.fin=none) (ht:∀t∈S.vis.head?,t.res.length<=2) {l:Nat} {c:Ctx} {b:Bnd} (hl:l<N) (hv:Cov (sc l) b) (hb:b.length<=S.m.steps+1) (hx:c.length<=3):OkS nd N sc (comeTo l c b S):=by
 have:=h.ca
 rw[hf]at this
 exact h.come hf ht (cs:=S.m.calls) h.cx (by simp at this;omega) hl hv hb hx
theorem OkS.wrong (h:OkS nd N sc S) (t:Vst):OkS nd N sc (wrongAt t S):=by
 have:=h.ca
 refine⟨h.st,fun z=>by simp[wrongAt]at z,h.vf,h.vh,?_,h.vs,h.tl,h.cl,h.co,h.cb,fun l z=>(by cases z;simp),h.cx,h.fx⟩
 show S.m.calls.length<=S.m.steps+(if(some _:Option (List Nat))=none then 0 else 1)
 rw[if_neg (by simp)]
 split at this<;>omega
theorem OkS.give (h:OkS nd N sc S) (hf:S.fin=none) {t:Vst} {r:List Vst} (hv:S.vis=t::r) {hp:List Obj} {cl:List Bnd} (hh:hp.length<=S.m.heap.length+1) (hc:cl.length=hp.length)
  (ho:∀(i l:Nat) (env:Env) (b:Bnd),hp[i]?=some (Obj.clo l env)->cl[i]?=some b->l<N/\(nd l).kind=2/\Cov (sc l) b) (hcb:∀b∈cl,b.length<=S.m.steps) (v:Value) :
  OkS nd N sc (Mth.give t r v {S with m:={S.m with heap:=hp},clos:=cl}):=by
 have h1:=h.vf
 have h2:=h.vh
 have h3:=h.ca
 rw[hv,List.length_cons]at h1 h2
 rw[if_pos hf]at h3
 unfold Mth.give deliver
 have hfl:(addTo S.m.flows (⟨t.lab,t.ctx,absOf hp v⟩:Flow)).length<=S.m.flows.length+1:=addTo_len _ _
 have hfx:∀f∈addTo S.m.flows (⟨t.lab,t.ctx,absOf hp v⟩:Flow),f.ctx.length<=3:=fun f hf'=>by
  rcases addTo_mem hf' with k|rfl
  ·exact h.fx f k
  ·exact(h.vs t (by rw[hv];exact List.mem_cons_self ..)).cl
 have hmem:∀u∈r,VOk nd N sc S.m.steps u:=fun u hu=>h.vs u (by rw[hv];exact List.mem_cons_of_mem _ hu)
 cases r with
 |nil=>
  refine⟨h.st,fun z=>by simp at z,?_,?_,?_,fun u hu=>(nomatch hu),fun u hu=>(nomatch hu),hc,ho,hcb,fun l z=>(by cases z;simp),h.cx,hfx⟩
  ·show 0+_<=S.m.steps
   simp only[List.length_nil]at h1
   exact Nat.le_trans (Nat.le_of_eq (Nat.zero_add _)) (Nat.le_trans hfl (by omega))
  ·show 0+hp.length<=S.m.steps
   simp only[List.length_nil]at h2
   omega
  ·show S.m.calls.length<=S.m.steps+_
   omega
 |cons u r=>
  refine⟨h.st,fun _ z=>(nomatch z),?_,?_,?_,?_,?_,hc,ho,hcb,fun l z=>(by have z:S.fin=some l:=z;rw[hf]at z;cases z),h.cx,hfx⟩
  ·show(r.length+1)+_<=S.m.steps
   simp only[List.length_cons]at h1
   exact Nat.le_trans (Nat.add_le_add_left hfl _) (by omega)
  ·show(r.length+1)+hp.length<=S.m.steps
   simp only[List.length_cons]at h2
   omega
  ·show S.m.calls.length<=S.m.steps+(if S.fin=none then 0 else 1)
   rw[if_pos hf];exact h3
  ·intro x hx
   rcases List.mem_cons.mp hx with rfl|hx
   ·have k:=hmem u (List.mem_cons_self ..)
    refine⟨k.lab,k.cov,k.bl,?_,k.cl⟩
    show(u.res++[v]).length<=3
    have:=h.tl u (by rw[hv];exact List.mem_cons_self ..)
    rw[List.length_append,List.length_singleton];omega
   ·exact hmem x (List.mem_cons_of_mem _ hx)
  ·intro x hx
   exact h.tl x (by rw[hv];exact List.mem_cons_of_mem _ hx)
def mu (S:MS):Nat:=2*(301-S.m.steps)+S.vis.length+(if S.fin=none then 1 else 0)
theorem mu_come (h:S.m.steps<=300) (hf:S.fin=none) (cs:List Call) (l:Nat) (c:Ctx) (b:Bnd):mu (comeTo l c b {S with m:={S.m with calls:=cs}})<mu S:=by
 unfold comeTo mu
 rw[if_pos hf]
 by_cases e:S.m.steps=300
 ·rw[if_pos e]
  show 2*(301-S.m.steps)+S.vis.length+(if(some _:Option (List Nat))=none then 1 else 0)<_
  rw[if_neg (by simp)]
  omega
 ·rw[if_neg e]
  show 2*(301-(S.m.steps+1))+(S.vis.length+1)+(if S.fin=none then 1 else 0)<_
  rw[if_pos hf]
  omega
theorem mu_give (hf:S.fin=none) {t:Vst} {r:List Vst} (hv:S.vis=t::r) (hp:List Obj) (cl:List Bnd) (v:Value):mu (Mth.give t r v {S with m:={S.m with heap:=hp},clos:=cl})<mu S:=by
 unfold Mth.give deliver mu
 rw[if_pos hf,hv]
 cases r with
 |nil=>
  show 2*(301-S.m.steps)+0+(if(some _:Option (List Nat))=none then 1 else 0)<2*(301-S.m.steps)+1+1
  rw[if_neg (by simp)]
  omega
 |cons u r=>
  show 2*(301-S.m.steps)+(r.length+1)+(if S.fin=none then 1 else 0)<2*(301-S.m.steps)+(r.length+1+1)+1
  rw[if_pos hf]
  omega
theorem mu_wrong (hf:S.fin=none) (t:Vst):mu (wrongAt t S)<mu S:=by
 unfold wrongAt mu
 rw[if_pos hf]
 show 2*(301-S.m.steps)+S.vis.length+(if(some _:Option (List Nat))=none then 1 else 0)<_
 rw[if_neg (by simp)]
 omega
theorem first_le:∀k:Fin 13,firstK k.val<=nparts k.val/\firstK k.val<=2:=by decide
theorem first_parts {k:Nat} (h:k<=12):firstK k<=nparts k/\firstK k<=2:=first_le ⟨k,by omega⟩
theorem getD_of {α:Type} {l:List α} {i:Nat} {x d:α} (h:l[i]?=some x):l.getD i d=x:=by rw[List.getD_eq_getElem?_getD,h];rfl
theorem some_at {α:Type} {l:List α} {i:Nat} (h:i<l.length):∃x,l[i]?=some x:=⟨_,List.getElem?_eq_getElem h⟩
def Nxt (nd:Nat->Nd) (N:Nat) (sc:Nat->List Nat) (S S':MS):Prop:=OkS nd N sc S'/\mu S'<mu S
theorem nxt_go (T:TabOk nd N sc) (h:OkS nd N sc S) (hf:S.fin=none):Nxt nd N sc S (goOn nd inp S):=by
 have hne:=h.ne hf
 unfold goOn
 cases hv:S.vis with
 |nil=>exact absurd hv hne
 |cons t r=>
  have vo:=h.vs t (by rw[hv];exact List.mem_cons_self ..)
  have hk:=T.kind _ vo.lab
  have hp:=T.len _ vo.lab
  obtain⟨f1,f2⟩:=first_parts hk
  have hd2:t.res.length<=firstK (nd t.lab).kind->∀u∈S.vis.head?,u.res.length<=2:=fun e u hu=>by
   rw[hv]at hu
   have hu:t=u:=Option.some.inj hu
   subst hu
   omega
  have giveN:∀v,Nxt nd N sc S (Mth.give t r v S):=fun v=>⟨h.give hf hv (hp:=S.m.heap) (cl:=S.clos) (Nat.le_succ _) h.cl h.co h.cb v,mu_give hf hv S.m.heap S.clos v⟩
  have wrongN:Nxt nd N sc S (wrongAt t S):=⟨h.wrong t,mu_wrong hf t⟩
  have layN:∀(o:Obj) (b:Bnd) (v:Value),b.length<=S.m.steps->(∀l env,o=.clo l env->l<N/\(nd l).kind=2/\Cov (sc l) b)->Nxt nd N sc S (Mth.give t r v (lay o b S)):=fun o b v hb ho=>by
   refine⟨h.give hf hv (hp:=S.m.heap++[o]) (cl:=S.clos++[b]) (by rw[List.length_append];exact Nat.le_refl _) (by rw[List.length_append,List.length_append,h.cl];rfl) (fun i l env b' h1 h2=>?_) (fun b' hb'=>?_) v,mu_give hf hv _ _ v⟩
   ·by_cases hi:i<S.m.heap.length
    ·rw[List.getElem?_append_left hi]at h1
     rw[List.getElem?_append_left (by rw[h.cl];exact hi)]at h2
     exact h.co i l env b' h1 h2
    ·rw[List.getElem?_append_right (by omega)]at h1
     rw[List.getElem?_append_right (by rw[h.cl];omega),h.cl]at h2
     have e0:i-S.m.heap.length=0:=by
      by_cases e:i-S.m.heap.length=0
      ·exact e
      ·rw[List.getElem?_eq_none (by simp;omega)]at h1
       cases h1
     rw[e0]at h1 h2
     cases h1
     cases h2
     exact ho l env rfl
   ·rcases List.mem_append.mp hb' with k|k
    ·exact h.cb b' k
    ·rw[List.mem_singleton.mp k];exact hb
  have comeN:∀(j:Nat) (b:Bnd),t.res.length<=firstK (nd t.lab).kind->j<nparts (nd t.lab).kind->(nd t.lab).kind≠2->Cov (sc t.lab) b\/(∃v,b=putB t.bnd t.lab v/\True)->((nd t.lab).kind=4->j=1->∃v,b=putB t.bnd t.lab v)->b.length<=S.m.steps+1->Nxt nd N sc S (comeTo ((nd t.lab).parts.getD j 0) t.ctx b S):=fun j b hr hj h2 hb hb2 hbl=>by
   obtain⟨k,hk2⟩:=some_at (l:=(nd t.lab).parts) (i:=j) (by rw[hp];exact hj)
   rw[getD_of hk2]
   obtain⟨k1,k2⟩:=T.part _ vo.lab j k hk2
   refine⟨h.come0 hf (hd2 hr) k1 ?_ hbl vo.cl,mu_come h.st hf S.m.calls _ _ _⟩
   by_cases e4:(nd t.lab).kind=4/\j=1
   ·obtain⟨v,rfl⟩:=hb2 e4.1 e4.2
    exact vo.cov.put fun z hz=>(k2 z hz).imp id (·.1)
   ·rcases hb with hb|⟨v,rfl,_⟩
    ·intro z hz
     rcases k2 z hz with q|⟨_,q|q⟩
     ·exact hb z q
     ·exact absurd q h2
     ·exact absurd q e4
    ·exact vo.cov.put fun z hz=>(k2 z hz).imp id (·.1)
  simp only
  by_cases e1:t.res.length<firstK (nd t.lab).kind
  ·rw[if_pos e1]
   refine comeN _ _ (Nat.le_of_lt e1) (by omega) (fun q=>by rw[q]at e1;exact absurd e1 (by simp[firstK])) (.inl vo.cov) (fun q q1=>?_) (Nat.le_succ_of_le vo.bl)
   rw[q]at e1
   simp[firstK]at e1
   rw[e1]at q1
   exact absurd q1 (by simp)
  rw[if_neg e1]
  by_cases e2:firstK (nd t.lab).kind<t.res.length
  ·rw[if_pos e2]
   exact giveN _
  rw[if_neg e2]
  have er:t.res.length=firstK (nd t.lab).kind:=by omega
  unfold finish finN
  by_cases q0:(nd t.lab).kind=0
  ·rw[if_pos q0]
   exact giveN _
  rw[if_neg q0]
  by_cases q1:(nd t.lab).kind=1
  ·rw[if_pos q1]
   cases (nd t.lab).bnd<;>exact giveN _
  rw[if_neg q1]
  by_cases q2:(nd t.lab).kind=2
  ·rw[if_pos q2]
   exact layN _ _ _ vo.bl fun l env e=>by cases e;exact⟨vo.lab,q2,vo.cov⟩
  rw[if_neg q2]
  by_cases q3:(nd t.lab).kind=3
  ·rw[if_pos q3]
   split
   ·unfold callO
    split
    ·rename_i i _ _ k env b h1 h2
     obtain⟨c1,c2,c3⟩:=h.co _ _ _ _ h1 h2
     have hk1:(nd k).parts.length=1:=by rw[T.len _ c1,c2];rfl
     obtain⟨j,hj⟩:=some_at (l:=(nd k).parts) (i:=0) (by omega)
     rw[getD_of hj]
     obtain⟨p1,p2⟩:=T.part _ c1 0 j hj
     have hca:=h.ca
     rw[if_pos hf]at hca
     refine⟨h.come hf (hd2 (Nat.le_of_eq er)) (fun c hc'=>(addTo_mem hc').elim (h.cx c) fun z=>by rw[z];exact vo.cl) (Nat.le_trans (addTo_len _ _) (by omega)) p1 (c3.put fun z hz=>(p2 z hz).imp id (·.1)) ?_ (by rw[List.length_take];omega),mu_come h.st hf _ _ _ _⟩
     exact Nat.le_trans (putB_len _ _ _) (Nat.succ_le_succ (h.cb _ (List.mem_of_getElem? h2)))
    ·exact wrongN
   ·exact wrongN
  rw[if_neg q3]
  by_cases q4:(nd t.lab).kind=4
  ·rw[if_pos q4]
   exact comeN 1 _ (Nat.le_of_eq er) (by rw[q4];decide) (by omega) (.inr ⟨_,rfl,trivial⟩) (fun _ _=>⟨_,rfl⟩) (Nat.le_trans (putB_len _ _ _) (Nat.succ_le_succ vo.bl))
  rw[if_neg q4]
  by_cases q5:(nd t.lab).kind=5
  ·rw[if_pos q5]
   split
   ·refine comeN _ _ (Nat.le_of_eq er) (by rw[q5];split<;>decide) (by omega) (.inl vo.cov) (fun q=>by omega) (Nat.le_succ_of_le vo.bl)
   ·exact wrongN
  rw[if_neg q5]
  by_cases q6:(nd t.lab).kind=6
  ·rw[if_pos q6]
   exact layN _ _ _ (Nat.zero_le _) fun l env e=>by cases e
  rw[if_neg q6]
  by_cases q7:(nd t.lab).kind=7
  ·rw[if_pos q7]
   split
   ·unfold fstO
    split
    ·exact giveN _
    ·exact wrongN
   ·exact wrongN
  rw[if_neg q7]
  by_cases q8:(nd t.lab).kind=8
  ·rw[if_pos q8]
   split
   ·unfold sndO
    split
    ·exact giveN _
    ·exact wrongN
   ·exact wrongN
  rw[if_neg q8]
  by_cases q9:(nd t.lab).kind=9
  ·rw[if_pos q9]
   exact layN _ _ _ (Nat.zero_le _) fun l env e=>by cases e
  rw[if_neg q9]
  by_cases q10:(nd t.lab).kind=10
  ·rw[if_pos q10]
   split
   ·unfold getO
    split
    ·exact giveN _
    ·exact wrongN
   ·exact wrongN
  rw[if_neg q10]
  by_cases q11:(nd t.lab).kind=11
  ·rw[if_pos q11]
   split
   ·unfold setO
    split
    ·rename_i i _ _ k _ h1
     refine⟨h.give hf hv (hp:=S.m.heap.set i (.ref k (nth t.res 1))) (cl:=S.clos) (by rw[List.length_set];exact Nat.le_succ _) (by rw[List.length_set];exact h.cl) (fun j l env b g1 g2=>?_) h.cb _,mu_give hf hv _ _ _⟩
     rw[List.getElem?_set]at g1
     split at g1
     ·split at g1
      ·cases g1
      ·cases g1
     ·exact h.co j l env b g1 g2
    ·exact wrongN
   ·exact wrongN
  rw[if_neg q11]
  split
  ·exact giveN _
  ·exact wrongN
theorem okS_start (h0:0<N) (hs:sc 0=[]):OkS nd N sc (comeTo 0 [] [] startS):=by
 have e:comeTo 0 [] [] startS=⟨⟨[],1,[],[]⟩,[],[⟨0,[],[],[]⟩],none⟩:=by
  unfold comeTo
  rw[if_neg (by decide)]
  rfl
 rw[e]
 refine⟨by simp,fun _ z=>(nomatch z),by simp,by simp,by simp,fun t ht=>?_,fun t ht=>(nomatch ht),rfl,fun i l env b h=>by simp at h,fun b hb=>(nomatch hb),fun l z=>(nomatch z),fun c hc=>(nomatch hc),fun c hc=>(nomatch hc)⟩
 rw[List.mem_singleton.mp ht]
 exact⟨h0,fun z hz=>(by rw[hs]at hz;exact nomatch hz),Nat.zero_le _,Nat.zero_le _,Nat.zero_le _⟩
theorem iter_go {k:Nat} {S0:MS} (h:iterM nd inp k S0=S) (hf:S.fin=none):iterM nd inp (k+1) S0=goOn nd inp S:=by
 rw[iterM_add k 1 S0,h]
 show stepM nd inp S=_
 unfold stepM
 rw[hf]
 rfl
theorem step_done (h:S.fin≠none):∀k,iterM nd inp k S=S
 |0=>rfl
 |k+1=>by
  have e:stepM nd inp S=S:=by
   unfold stepM
   rw[if_pos]
   cases e:S.fin with
   |none=>exact absurd e h
   |some l=>rfl
  show iterM nd inp k (stepM nd inp S)=S
  rw[e]
  exact step_done h k
theorem end_one {S0 S1 S2:MS} {k1 k2:Nat} (h1:iterM nd inp k1 S0=S1) (h2:iterM nd inp k2 S0=S2) (f1:S1.fin≠none) (f2:S2.fin≠none):S1=S2:=by
 rcases Nat.le_total k1 k2 with h|h
 ·obtain⟨j,rfl⟩:=Nat.le.dest h
  rw[iterM_add,h1,step_done f1]at h2
  exact h2
 ·obtain⟨j,rfl⟩:=Nat.le.dest h
  rw[iterM_add,h2,step_done f2]at h1
  exact h1.symm
end
end Mth
end
section
namespace L2
open PySem PySem.Spec PyProof.Rows
section
variable (P:Program) (w:World) (K:PySem.W.Frag) (mg:Str->Option Value) (base:Heap)
structure MOk (CX:CXT) (k:Nat) (C:Addr) (m:Str) (ps:List Str) (sp:Sp):Prop where
 ex:∃f fd,FnOk P w K mg base CX k f fd ps sp/\Binds K fd ps []/\Meth K C m f
structure DOk (CX:CXT) (k:Nat) (x:Str) (ps:List Str) (sp:Sp):Prop where
 ex:∃f fd,FnOk P w K mg base CX k f fd ps sp/\Binds K fd ps []/\mg x=some (.ref f)/\PySem.W.keepIn K (.ref f)=true
structure KOk (CX:CXT) (k:Nat) (C:Addr) (x:Str) (ps:List Str) (sp:Sp):Prop where
 ex:∃f fd,FnOk P w K mg base CX k f fd ps sp/\Binds K fd ps []/\Mk K C f/\mg x=some (.ref C)
end
section
variable {X:Cx} {CX:CXT} {k j:Nat} {C:Addr} {ps:List Str} {sp:Sp} {E:XK} {x m:Str} {p pos apos:Pos} {e o:Expr} {es:List Expr} {ta:TE} {t:TA}
theorem pe_mm {pl:Sem Bool} (G:MOk X.prog X.w X.K X.mg X.base CX k C m ps sp) (c:Cls X.K C) (hr:Room j X.A) (hk:k<=j) (hx:Passes CX X E) (he:PE X o ta) (ha:PA X (e::es) t)
  (hst:starEach (e::es) X.env=(false,eval e X.env)::starEach es X.env:=by rfl) (hpl:(backTo pos (starEach es X.env)).any (·.1)=false:=by rfl)
  (ht:eval (.Call (.Attribute o m apos) (e::es) [] pos) X.env=(do
   let ov<-eval o X.env
   standAt apos.atName
   let(f,first)<-holding [ov] (getMethod ov m pl)
   callWith pos f first (backTo pos (starEach (e::es) X.env)) (backToKw pos (keywordEach [] X.env))):=by rfl) :
  PE X (.Call (.Attribute o m apos) (e::es) [] pos) (tMeth C m sp [] E ta t):=by
 obtain⟨f,fd,F,b,hm⟩:=G.ex
 exact pe_meth he c hm F (hr.mono hk) b .nil hx ha hst hpl ht
theorem pe_mm0 {pl:Sem Bool} (G:MOk X.prog X.w X.K X.mg X.base CX k C m ps sp) (c:Cls X.K C) (hr:Room j X.A) (hk:k<=j) (hx:Passes CX X E) (he:PE X o ta)
  (ht:eval (.Call (.Attribute o m apos) [] [] pos) X.env=(do
   let ov<-eval o X.env
   standAt apos.atName
   let(f,first)<-holding [ov] (getMethod ov m pl)
   callWith pos f first (backTo pos (starEach [] X.env)) (backToKw pos (keywordEach [] X.env))):=by rfl) :
  PE X (.Call (.Attribute o m apos) [] [] pos) (tMeth C m sp [] E ta tNil):=by
 obtain⟨f,fd,F,b,hm⟩:=G.ex
 exact pe_meth0 he c hm F (hr.mono hk) b .nil hx ht
theorem pe_dd (G:DOk X.prog X.w X.K X.mg X.base CX k x ps sp) (hr:Room j X.A) (hk:k<=j) (hg:Gl X x) (hx:Passes CX X E)
  (ha:PA X (e::es) t) (hdb:(x==("__debug__":Str))=false:=by decide) (he:starEach (e::es) X.env=(false,eval e X.env)::starEach es X.env:=by rfl) (hpl:(backTo pos (starEach es X.env)).any (·.1)=false:=by rfl) :
  PE X (.Call (.Name x p) (e::es) [] pos) (tCall sp [] E t):=by
 obtain⟨f,fd,F,b,hm,kp⟩:=G.ex
 exact pe_call F (hr.mono hk) hg hm kp b .nil hx ha hdb he hpl
theorem pe_kk (G:KOk X.prog X.w X.K X.mg X.base CX k C x ps sp) (hr:Room j X.A) (hk:k+1<=j) (hg:Gl X x) (hx:Passes CX X E)
  (ha:PA X (e::es) t) (hdb:(x==("__debug__":Str))=false:=by decide) (he:starEach (e::es) X.env=(false,eval e X.env)::starEach es X.env:=by rfl) (hpl:(backTo pos (starEach es X.env)).any (·.1)=false:=by rfl) :
  PE X (.Call (.Name x p) (e::es) [] pos) (tMake C sp [] E t):=by
 obtain⟨f,fd,F,b,M,hm⟩:=G.ex
 exact pe_make M F (hr.mono hk) hg hm b .nil hx ha hdb he hpl
theorem pe_kk0 (G:KOk X.prog X.w X.K X.mg X.base CX k C x ps sp) (hr:Room j X.A) (hk:k+1<=j) (hg:Gl X x) (hx:Passes CX X E)
  (hdb:(x==("__debug__":Str))=false:=by decide):PE X (.Call (.Name x p) [] [] pos) (tMake C sp [] E tNil):=by
 obtain⟨f,fd,F,b,M,hm⟩:=G.ex
 exact pe_make0 M F (hr.mono hk) hg hm b .nil hx hdb
end
section
variable {X:Cx}
theorem ext_tup (l:Addr) (items:Array Value) (n:Nat) (b:Addr) (items2:Array Value) (n2:Nat) (dc:Option Addr) (sl:Array (Option Value)) (hs0:¬(!items.isEmpty&&Builtin.List.listTooLong (items.size+items2.size))=true) (hs1:items.size<=sizeLine) (hs2:items.size+items2.size<=sizeLine+1) :
  Meets (Builtin.«list.extend» ⟨[.ref l,.ref b],[]⟩) (fun _ R s=>s.heap.get? l=some {cls:=.type "list",dict:=none,data:=.seq items n,slots:=#[]}/\s.heap.get? b=some {cls:=.type "tuple",dict:=dc,data:=.seq items2 n2,slots:=sl}/\R (.ok (.ret Value.none)) {s with heap:=s.heap.update l (Obj.mapSeq fun x=>x++items2),toks:=s.toks}):=
 .of_wp fun prog w A R s h=>by
  obtain⟨hp,g,d,tk,os⟩:=s
  obtain⟨hl,hb,h⟩:=h
  have f2:=sub_tuple_tuple
  have f3:=sub_list_list
  have f4:=sub_tuple_list
  have f5:=sub_list_tuple
  have hz':(items++items2).size<=sizeLine+1:=by rw[Array.size_append];exact hs2
  wp_walk using(wpAny_updateSeq hl rfl (hz:=hs1) (_hz':=hz')),wpAny_loadPart' hl,wpAny_loadPart' hb
  exact⟨_,rfl,h⟩
def rExtendT:V->List V->Hp->VK->Prop:=fun x vs H Q=>∃l b xs zs,x=.ref l/\vs=[.ref b]/\H l=some (.lst xs)/\H b=some (.tup zs)/\xs.length+zs.length<=sizeLine/\Q .non (upd H l (.lst (xs++zs)))
theorem mt_extendT:MtM X "list.extend" rExtendT:=by
 intro pins s σ H x vs v us Q I rx rv h
 obtain⟨l,b,xs,zs,rfl,rfl,hH,hB,hz,q⟩:=h
 cases rx
 obtain⟨u,rfl,ru⟩:=rv.one
 cases ru
 obtain⟨z,its,n,r,hl,e⟩:=I.lstM hH
 obtain⟨z2,its2,r2,e2⟩:=I.hok b _ hB
 have hl2:=r2.length
 have hsz:its.toArray.size+its2.toArray.size<=sizeLine:=by rw[List.size_toArray,List.size_toArray];omega
 have hlong:¬ (!its.toArray.isEmpty&&Builtin.List.listTooLong (its.toArray.size+its2.toArray.size))=true:=by
  rw[notLongL hsz,Bool.and_false]
  exact Bool.false_ne_true
 obtain⟨⟨oc,od,oda,osl⟩,ho,hc,n2,hd⟩:=e2
 simp only at hc hd
 subst hc hd
 refine call_meets F.slot_list_extend ⟨_,e,rfl⟩ F.entry_list_extend (F.args_list_extend_2 _ _)
  (ext_tup l its.toArray n b its2.toArray n2 od osl hlong (by rw[List.size_toArray];omega) (by omega)) ⟨e,ho,?_⟩
 refine⟨.non,_,I.lset (its':=its++its2) hH e (by simp) (r.append r2) ?_,rfl,q⟩
 rw[List.length_append]
 omega
theorem call_dictC:CallR X (.type "dict") (fun xs H Q=>∃a kvs,xs=[.ref a]/\H a=some (.dK kvs)/\∀p,H p=none->Q (.ref p) (upd H p (.dK kvs))):=by
 intro pins s σ H xs us Q I r ⟨a,kvs,ex,e,q⟩
 subst ex
 obtain⟨u,eu,rx⟩:=vals1 r
 subst eu
 cases rx
 exact d_copyOf I (.inl e) fun p s' hp I'=>⟨.ref p,_,I',rfl,q p hp⟩
end
end L2
namespace HT
open PySem PySem.Spec PyProof.Rows
section
variable {prog:Program} {w:World} {A:Around} {E:Value->Shared->Prop} {s:Shared}
theorem getItem_tuple_all {t sl:Addr} {items:Array Value} {vl vu:Value} {lo hi:Option Int} {Q:Value->Shared->Prop} (ht:IsTup s.heap t items) (hs:s.heap.IsSliceOf sl vl vu .none) (pl:IsPart vl lo) (pu:IsPart vu hi)
  (hw:sIx items.size 0 lo=0/\sIx items.size items.size hi=items.size)
  (h:Q (.ref t) s):wpAny (model prog w) A (getItem (.ref t) (.ref sl)) Q E s:=by
 have hj:sIx items.size items.size hi<=items.size:=sIx_le _ _ (Nat.le_refl _) hi
 obtain⟨os,hos,hcs,hds⟩:=id hs
 have hTs:s.TypeIs (.ref sl) "slice":=⟨os,hos,hcs⟩
 unfold getItem
 try with_reducible refine wpAny_holding ?_
 first|refine wpAny_bind (wpAny_pure ?_)|skip
 refine wpAny_bind (wpAny_sequenceKey ht.typeIs (by decide) ?_)
 refine wpAny_bind (wpAny_callSpecial?_slot (name:=Str.ofString "__getitem__") ht.typeIs PyProof.Rows.slot_tuple_getitem
  (wpAny_call_entry PyProof.Rows.slot_tuple_getitem ht.typeIs entry_tuple_getitem ?_ (args_tuple_getitem _ _)))
 show wpAny _ _ (Builtin.Tuple.tupleItemsOf (.ref t) >>= _) _ _ s
 refine wpAny_bind (tupleItemsOf_ ht ?_)
 refine wpAny_bind (wpAny_typeOf hTs ?_)
 rw[if_pos (by decide)]
 refine wpAny_bind (sliceApplied_gen hs pl pu ?_)
 have hyes:(((sIx items.size 0 lo:Nat):Int)==0&&(1:Int)==1&&(sIx items.size items.size hi-sIx items.size 0 lo)==items.size)=true:=by
  rw[hw.1,hw.2]
  simp
 show wpAny _ _ (if(((sIx items.size 0 lo:Nat):Int)==0&&(1:Int)==1&&(sIx items.size items.size hi-sIx items.size 0 lo)==items.size)=true then _ else _) _ _ s
 rw[if_pos hyes]
 unfold Builtin.Tuple.tupleIsExact
 refine wpAny_bind (wpAny_bind (wpAny_typeOf ht.typeIs (wpAny_pure ?_)))
 rw[if_pos (by decide)]
 first
  |exact wpAny_bind (wpAny_rule (wpAny_pure ⟨_,rfl,wpAny_pure h⟩))
  |exact wpAny_bind (wpAny_pure (wpAny_pure ⟨_,rfl,wpAny_pure h⟩))
end
end HT
namespace L2
open PySem PySem.Spec PyProof.Rows
section
variable {X:Cx}
def rSlTA (K:PySem.W.Frag):V->Option Int->Option Int->Hp->VK->Prop:=fun x lo hi H Q=>∃a xs,x=.ref a/\SqT K H a xs /\
 (cutV xs lo hi=xs->Q (.ref a) H)/\∀p,H p=none->Q (.ref p) (upd H p (.tup (cutV xs lo hi)))
theorem sl_tupA:SlR X (rSlTA X.K):=by
 intro pins s σ H x v vl vu lo hi sl Q I rx hs pl pu h
 obtain⟨a,xs,rfl,hx,q1,q2⟩:=h
 by_cases hw:HT.sIx xs.length 0 lo=0/\HT.sIx xs.length xs.length hi=xs.length
 ·cases rx
  obtain⟨its,r,ht,hz⟩:=I.tuple hx
  have hlen:its.toArray.size=xs.length:=by rw[List.size_toArray];exact r.length.symm
  refine⟨"tuple",_,PyProof.Rows.slot_tuple_getitem.lookup,ht.typeIs,?_⟩
  refine HT.getItem_tuple_all ht hs pl pu (by rw[hlen];exact hw) ⟨.ref a,H,I,rfl,q1 ?_⟩
  unfold cutV
  rw[hw.1,hw.2]
  simp
 ·exact sl_tup pins s σ H (.ref a) v vl vu lo hi sl Q I rx hs pl pu ⟨a,xs,rfl,hx,hw,q2⟩
theorem ed_snoc {α:Type} [DecidableEq α] (l:List α) (x:α):(l++[x]).eraseDups=if x∈l then l.eraseDups else l.eraseDups++[x]:=by
 rw[List.eraseDups_append]
 by_cases h:x∈l
 ·rw[if_pos h]
  have:[x].removeAll l=[]:=by simp[List.removeAll,h]
  rw[this]
  simp
 ·rw[if_neg h]
  have:[x].removeAll l=[x]:=by simp[List.removeAll,h]
  rw[this]
  rfl
theorem met_dups (ns:List Int):∀i,i<=ns.length->firstMet (fun i=>ns.getD i 0) i=(ns.take i).eraseDups:=by
 intro i
 induction i with
 |zero=>intro _;rfl
 |succ i ih=>
  intro hi
  rw[firstMet_succ,ih (by omega)]
  have hx:ns[i]?=some (ns.getD i 0):=by
   rw[List.getD_eq_getElem?_getD,List.getElem?_eq_getElem (by omega)]
   rfl
  rw[List.take_add_one,hx]
  show step_dedup _ _=(ns.take i++[ns.getD i 0]).eraseDups
  rw[ed_snoc]
  unfold step_dedup
  have e:((ns.take i).eraseDups.any (·==ns.getD i 0))=decide (ns.getD i 0∈ns.take i):=by
   rw[Bool.eq_iff_iff,List.any_eq_true,decide_eq_true_iff]
   constructor
   ·rintro⟨y,hy,e⟩
    rw[<-eq_of_beq e]
    exact List.mem_eraseDups.mp hy
   ·intro h
    exact⟨_,List.mem_eraseDups.mpr h,beq_self_eq_true _⟩
  rw[e]
  by_cases h:ns.getD i 0∈ns.take i
  ·rw[if_pos h,decide_eq_true h]
   rfl
  ·rw[if_neg h,decide_eq_false h]
   rfl
theorem call_setL (hc:X.calm=true):CallR X (.type "set") (fun xs H Q=>∃(a:Addr) (ns:List Int),xs=[.ref a]/\SqL X.K H a (ns.map V.int)/\ns.length+1<scanBound/\∀p S,H p=none->Q (.ref p) (upd H p (.set S ns.eraseDups.length))):=by
 intro pins s σ H xs us Q I r h
 obtain⟨a,ns,rfl,hq,hb,q⟩:=h
 obtain⟨u,rfl,ru⟩:=vals1 r
 cases ru
 obtain⟨its,rv,pl,hz⟩:=I.list hq
 have hi:IntsAre its.toArray.toList ns:=intsAre_of rv
 have hl:its.toArray.size=ns.length:=by rw[List.size_toArray,<-rv.length,List.length_map]
 refine call_set_list (I.ok.hd hc) pl.isList hi (by rw[hl];exact hb) fun h' tk hs hk=>?_
 rw[hl,met_dups ns ns.length (Nat.le_refl _),List.take_length]at hs
 refine⟨.ref s.heap.objs.size,_,I.laid (a:=s.heap.objs.size) (o:=.set _ ns.eraseDups.length) (t':=tk) (fun b o e=>hk b o (Heap.lt_size e) e) (Nat.le_refl _) hs,rfl,q _ _ (I.hok.fresh (Nat.le_refl _))⟩
theorem call_lenS:CallR X (.builtin "len") (fun xs H Q=>∃p S n,xs=[.ref p]/\H p=some (.set S n)/\Q (.int (n:Nat)) H):=by
 intro pins s σ H xs us Q I r h
 obtain⟨p,S,n,rfl,e,q⟩:=h
 obtain⟨u,rfl,ru⟩:=vals1 r
 cases ru
 obtain⟨o,es,ep,t,h1,h2,h3,h4,h5,h6,h7,h8⟩:=(show s.heap.SetOf (intKind X.prog X.w) p S n from I.hok p _ e)
 subst h8
 refine call_len_set h1 h2 h3 h7 ?_ ⟨.int (es.size:Nat),H,I.tok _,⟨_,rfl⟩,q⟩
 have:(scanBound:Nat)=4096:=rfl
 omega
end
end L2
end
section
namespace Fv
open PySem PySem.Spec PyProof.Rows L2
def top (i:Nat):Stmt:=PySem.Challenge.pw_funsasvalues_s01_answers.main.body.getD i (.Pass ⟨0,0,0,0⟩)
structure Ad where
 cNd:Addr
 cFn:Addr
 cPr:Addr
 cRf:Addr
 cVs:Addr
 cRn:Addr
 cNp:Addr
 cRd:Addr
 cDk:Addr
 kw:Addr
 pk:Addr
 pf:Addr
 mks:Addr
 ft:Addr
def Ad.cls (A:Ad):List Addr:=[A.cNd,A.cFn,A.cPr,A.cRf,A.cVs,A.cRn,A.cRd,A.cDk]
def glInts:List (Str×Int):=([("NUMBER",0),("NAME",1),("FUN",2),("CALL",3),("LET",4),("IF",5),("PAIR",6),("FST",7),("SND",8),("NEW",9),("GET",10),("SET",11),("ADD",12),("NO_BINDER",-1),
 ("MOST_STEPS",300),("MOST_SITES",3),("MODULUS",100),("ENDED",0),("WRONG",1),("LONG",2),
 ("MOST_NODES",30),("MOST_AROUND",8),("MOST_DIGITS",2),("MOST_LETTERS",4),("BLANK",32),("OPENING",40),("CLOSING",41),("ZERO",48),("NINE",57),("SMALL_A",97),("SMALL_Z",122),("NO_BYTE",-1),
 ("REFUSED_PROGRAM",-1),("REFUSED_GIVEN",-2),("REFUSED_LABEL",-3),("REFUSED_SITE",-5),("HIGHEST_GIVEN",9),
 ("PROGRAM",0),("SHOW",1),("GIVEN",2),("RUN",3),("ARROWS",4),("CALLS",5),("VALUES",6),("FLOWS",7),("NODE",8),("FUNS",9),("SITES",10),("HEAP",11)]:List (String×Int)).map fun p=>(Str.ofString p.1,p.2)
def glTups (A:Ad):List (Str×Addr×List Int):=[("PARTS_OF_KIND",A.pk,[0,0,1,2,2,3,2,1,1,1,1,2,2]),("PARTS_RUN_FIRST",A.pf,[0,0,0,2,1,1,2,1,1,1,1,2,2]),("MAKING_KINDS",A.mks,[2,6,9]),("FIRST_TEXT",A.ft,[48])]
def kwF (x:Str):Option V:=([("fun",2),("let",4),("if",5),("pair",6),("fst",7),("snd",8),("new",9),("get",10),("set",11),("add",12)]:List (Str×Int)).lookup x |>.map V.int
def attrs (A:Ad):List (Addr×List Str):=[(A.cNd,["kind","depth","begin","behind","number","name","binder","parts"]),(A.cFn,["label","bound"]),(A.cPr,["label","first","second"]),(A.cRf,["label","inside"]),
 (A.cVs,["label","string","bound","results"]),(A.cRn,["nodes","given","steps","visits","calls","flows","made","ending"]),(A.cRd,["text","place","nodes","around"]),(A.cDk,["text","nodes","given"])]
def tyA (A:Ad):Nat->Value
 |0=>.type "int"
 |1=>.ref A.cFn
 |2=>.ref A.cPr
 |_=>.ref A.cRf
structure Own (K:PySem.W.Frag) (C:Addr):Prop where
 ha:PySem.W.findIn K (.ref C) "__class__"=some (some (.builtin "object.__class__"))
 hm:PySem.W.mroIn K C (.type "object")=some true
structure Txt (K:PySem.W.Frag) (w:World) (mg:Str->Option Value) (A:Ad):Prop where
 nd:A.cls.Nodup
 cl:∀c∈A.cls,Cls K c
 at_:∀p∈attrs A,∀f∈p.2,NoAttr K p.1 f
 gin:∀p∈glInts,∃t,mg p.1=some (.int p.2 t)
 tups:∀p∈glTups A,mg p.1=some (.ref p.2.1)/\∃(o:Obj) (its:Array Value) (n:Nat),K.lookup p.2.1=some o/\o.cls=.type "tuple"/\o.data=.seq its n/\its.size<=sizeLine/\Vals (p.2.2.map V.int) its.toList
 kw:mg "KIND_OF_WORD"=some (.ref A.kw)/\MDict K w A.kw kwF
 lets:∃t,mg "LETTERS"=some (.str "abcdefghijklmnopqrstuvwxyz" t)
 inn:∃t,mg "INPUT_NAME"=some (.str "in" t)
 blt:∀x∈(["len","isinstance","list","dict","int","reversed","enumerate","max","set"]:List Str),mg x=none
 kit:∀i j,i<4->j<4->PySem.W.kitOne K (tyA A i) (tyA A j)=some (decide (i=j))
 own:∀c∈[A.cFn,A.cPr,A.cRf],Own K c
 ocg:PySem.W.specialIn K (.builtin "object.__class__") "__get__"=some (some (.builtin "getset_descriptor.__get__"))
 oct:PySem.W.takesIn K (.builtin "object.__class__")=some true
 mcl:mg "Function"=some (.ref A.cFn)/\mg "Pair"=some (.ref A.cPr)/\mg "Reference"=some (.ref A.cRf)
section
variable {K:PySem.W.Frag} {w:World} {mg:Str->Option Value} {A:Ad}
theorem Txt.na (T:Txt K w mg A) {C:Addr} {fs:List Str} (h:(C,fs)∈attrs A) {f:Str} (hf:f∈fs):NoAttr K C f:=T.at_ (C,fs) h f hf
theorem Txt.kNd (T:Txt K w mg A):Cls K A.cNd:=T.cl _ (by simp[Ad.cls])
theorem Txt.kFn (T:Txt K w mg A):Cls K A.cFn:=T.cl _ (by simp[Ad.cls])
theorem Txt.kPr (T:Txt K w mg A):Cls K A.cPr:=T.cl _ (by simp[Ad.cls])
theorem Txt.kRf (T:Txt K w mg A):Cls K A.cRf:=T.cl _ (by simp[Ad.cls])
theorem Txt.kVs (T:Txt K w mg A):Cls K A.cVs:=T.cl _ (by simp[Ad.cls])
theorem Txt.kRn (T:Txt K w mg A):Cls K A.cRn:=T.cl _ (by simp[Ad.cls])
theorem Txt.kRd (T:Txt K w mg A):Cls K A.cRd:=T.cl _ (by simp[Ad.cls])
theorem Txt.kDk (T:Txt K w mg A):Cls K A.cDk:=T.cl _ (by simp[Ad.cls])
theorem Txt.nNd (T:Txt K w mg A) {f:Str} (hf:f∈(["kind","depth","begin","behind","number","name","binder","parts"]:List Str):=by decide):NoAttr K A.cNd f:=T.na (by simp[attrs]) hf
theorem Txt.nFn (T:Txt K w mg A) {f:Str} (hf:f∈(["label","bound"]:List Str):=by decide):NoAttr K A.cFn f:=T.at_ (A.cFn,["label","bound"]) (by simp[attrs]) f hf
theorem Txt.nPr (T:Txt K w mg A) {f:Str} (hf:f∈(["label","first","second"]:List Str):=by decide):NoAttr K A.cPr f:=T.at_ (A.cPr,["label","first","second"]) (by simp[attrs]) f hf
theorem Txt.nRf (T:Txt K w mg A) {f:Str} (hf:f∈(["label","inside"]:List Str):=by decide):NoAttr K A.cRf f:=T.at_ (A.cRf,["label","inside"]) (by simp[attrs]) f hf
theorem Txt.nVs (T:Txt K w mg A) {f:Str} (hf:f∈(["label","string","bound","results"]:List Str):=by decide):NoAttr K A.cVs f:=T.at_ (A.cVs,["label","string","bound","results"]) (by simp[attrs]) f hf
theorem Txt.nRn (T:Txt K w mg A) {f:Str} (hf:f∈(["nodes","given","steps","visits","calls","flows","made","ending"]:List Str):=by decide):NoAttr K A.cRn f:=T.at_ (A.cRn,["nodes","given","steps","visits","calls","flows","made","ending"]) (by simp[attrs]) f hf
theorem Txt.nRd (T:Txt K w mg A) {f:Str} (hf:f∈(["text","place","nodes","around"]:List Str):=by decide):NoAttr K A.cRd f:=T.at_ (A.cRd,["text","place","nodes","around"]) (by simp[attrs]) f hf
theorem Txt.nDk (T:Txt K w mg A) {f:Str} (hf:f∈(["text","nodes","given"]:List Str):=by decide):NoAttr K A.cDk f:=T.at_ (A.cDk,["text","nodes","given"]) (by simp[attrs]) f hf
theorem Txt.bl (T:Txt K w mg A) (x:Str) (h:x∈(["len","isinstance","list","dict","int","reversed","enumerate","max","set"]:List Str):=by decide):mg x=none:=T.blt x h
theorem Txt.sq (T:Txt K w mg A) {x:Str} {a:Addr} {ns:List Int} (h:(x,a,ns)∈glTups A) (H:Hp):SqT K H a (ns.map V.int):=.inr (T.tups _ h).2
end
section
variable {X:Cx} {A:Ad} {pos:Pos}
theorem gi (T:Txt X.K X.w X.mg A) {x:Str} (n:Int) (h:(x,n)∈glInts:=by decide +kernel) (hg:Gl X x:=by rfl) (hd:(x==("__debug__":Str))=false:=by decide):PE X (.Name x pos) (tC (.int n)):=by
 obtain⟨t,e⟩:=T.gin _ h
 exact pe_glob hg e ⟨t,rfl⟩ hd
theorem gt (T:Txt X.K X.w X.mg A) {x:Str} (a:Addr) (ns:List Int) (h:(x,a,ns)∈glTups A) (hg:Gl X x:=by rfl) (hd:(x==("__debug__":Str))=false:=by decide):PE X (.Name x pos) (tC (.ref a)):=
 pe_glob hg (T.tups _ h).1 rfl hd
theorem gkw (T:Txt X.K X.w X.mg A) (hg:Gl X "KIND_OF_WORD":=by rfl):PE X (.Name "KIND_OF_WORD" pos) (tC (.ref A.kw)):=pe_glob hg T.kw.1 rfl
end
end Fv
end
section
namespace Mth
open Vacfaa
structure RN where
 kind:Nat
 dep:Nat
 beg:Nat
 beh:Nat
 num:Nat
 name:Name
 bi:Option Nat
 parts:List Nat
structure RS where
 pl:Nat
 ns:List RN
 ar:List Nat
def bAt (t:Text) (p:Nat):Int:=match t[p]? with
 |some b=>(b.toNat:Int)
 |none=>-1
def rowW (p:UInt8->Bool) (t:Text) (pl:Nat):Text:=(t.drop pl).takeWhile p
def addPart (ns:List RN) (ar:List Nat):List RN:=match ar.getLast? with
 |none=>ns
 |some l=>ns.modify l fun n=>{n with parts:=n.parts++[ns.length]}
def newRN (k d b:Nat):RN:=⟨k,d,b,b,0,[],none,[]⟩
def addNode (k b:Nat) (s:RS):Option RS:=if s.ns.length=30\/8<s.ar.length then none else some {s with ns:=addPart s.ns s.ar++[newRN k s.ar.length b]}
def setLast (ns:List RN) (f:RN->RN):List RN:=ns.modify (ns.length-1) f
def takeB (t:Text) (c:Nat) (s:RS):Option RS:=if bAt t s.pl=(c:Int)then some {s with pl:=s.pl+1}else none
def bindsL (n:RN):Bool:=decide (n.kind=2) || decide (n.parts.length=2)
def isB (ns:List RN) (x:Name) (l:Nat):Bool:=match ns[l]? with
 |some n=>decide (n.name=x)&&bindsL n
 |none=>false
def binderR (s:RS) (x:Name):Option Nat:=s.ar.reverse.find? (isB s.ns x)
def readNum (t:Text) (s:RS):Option RS:=(addNode 0 s.pl s).bind fun s1=>
 if numOk (rowW isDigit t s1.pl)=true then some ⟨s1.pl+(rowW isDigit t s1.pl).length,setLast s1.ns (fun n=>{n with num:=valueOf (rowW isDigit t s1.pl),beh:=s1.pl+(rowW isDigit t s1.pl).length}),s1.ar⟩else none
def nameIn (t:Text) (s1:RS):RS:=⟨s1.pl+(rowW isSmall t s1.pl).length,setLast s1.ns (fun n=>{n with name:=rowW isSmall t s1.pl,beh:=s1.pl+(rowW isSmall t s1.pl).length}),s1.ar⟩
def readName (t:Text) (s:RS):Option RS:=(addNode 1 s.pl s).bind fun s1=>
 if isName (rowW isSmall t s1.pl)=true then(if rowW isSmall t s1.pl=INPUT then some (nameIn t s1)else(binderR (nameIn t s1) (rowW isSmall t s1.pl)).map fun l=>{nameIn t s1 with ns:=setLast (nameIn t s1).ns fun n=>{n with bi:=some l}})else none
def openLast (s:RS):RS:={s with ar:=s.ar++[s.ns.length-1]}
def bindName (t:Text) (s:RS):Option RS:=(takeB t 32 s).bind fun s3=>
 if isName (rowW isSmall t s3.pl)=true/\rowW isSmall t s3.pl≠INPUT then some ⟨s3.pl+(rowW isSmall t s3.pl).length,setLast s3.ns (fun n=>{n with name:=rowW isSmall t s3.pl}),s3.ar⟩else none
def beginBr (t:Text) (s:RS):Option RS:=(takeB t 40 s).bind fun s1=>
 (addNode ((kindW (rowW isSmall t s1.pl)).getD 3) s.pl (if(kindW (rowW isSmall t s1.pl)).isSome=true then{s1 with pl:=s1.pl+(rowW isSmall t s1.pl).length}else s1)).bind fun s2=>
  (if(kindW (rowW isSmall t s1.pl)).getD 3=2\/(kindW (rowW isSmall t s1.pl)).getD 3=4 then bindName t s2 else some s2).map openLast
def beginE (t:Text) (s:RS):Option RS:=if bAt t s.pl=40 then beginBr t s else if 48<=bAt t s.pl/\bAt t s.pl<=57 then readNum t s else readName t s
def goR (t:Text) (s:RS):Option RS:=match s.ar.getLast? with
 |none=>some s
 |some l=>match s.ns[l]? with
  |none=>none
  |some n=>if n.parts.length=nparts n.kind then(takeB t 41 s).map fun s1=>⟨s1.pl,s1.ns.modify l (fun n=>{n with beh:=s1.pl}),s1.ar.dropLast⟩
   else(if n.kind≠3\/0<n.parts.length then takeB t 32 s else some s).bind (beginE t)
def iterR (t:Text):Nat->Option RS->Option RS
 |0,o=>o
 |k+1,o=>iterR t k (o.bind (goR t))
theorem iterR_none (t:Text):∀k,iterR t k none=none
 |0=>rfl
 |k+1=>iterR_none t k
theorem iterR_add (t:Text):∀(a b:Nat) (o:Option RS),iterR t (a+b) o=iterR t b (iterR t a o)
 |0,b,o=>by rw[Nat.zero_add];rfl
 |a+1,b,o=>by
  rw[show a+1+b=(a+b)+1 by omega]
  show iterR t (a+b) (o.bind (goR t))=_
  rw[iterR_add t a b]
  rfl
def nmOf (e:Expr):Name:=match e with
 |.var _ x=>x
 |.fn _ x _=>x
 |.letE _ x _ _=>x
 |_=>[]
def rnOf (a:Ann):RN:=⟨kindOf a.e,a.dep,a.pos,a.pos+(textOf a.e).length,valOf a.e,nmOf a.e,bndOf a.sc a.e,(kids a.e).map labelOf⟩
def offB (k i:Nat):Nat:=if k=3/\i=0 then 0 else 1
def annL (k l:Nat) (x:Name) (sc:Scp) (d:Nat):Nat->Nat->List Expr->List Ann
 |_,_,[]=>[]
 |q,i,p::ps=>ann (scAt k l x sc i) (d+1) (q+offB k i) p++annL k l x sc d (q+offB k i+(textOf p).length) (i+1) ps
theorem len_word:(wordK 2).length=3/\(wordK 3).length=0/\(wordK 4).length=3/\(wordK 5).length=2/\(wordK 6).length=4/\(wordK 7).length=3/\(wordK 8).length=3/\(wordK 9).length=3/\(wordK 10).length=3/\(wordK 11).length=3/\(wordK 12).length=3:=by decide
theorem mk_ann {k l:Nat} {x:Name} {ps:List Expr} {e:Expr} (h:mkE k l x ps=some e) (sc:Scp) (d q:Nat):ann sc d q e=⟨e,sc,d,q⟩::annL k l x sc d (q+1+(headT k x).length) 0 ps:=by
 obtain⟨w2,w3,w4,w5,w6,w7,w8,w9,w10,w11,w12⟩:=len_word
 rcases mk_cases h with⟨a,rfl,z⟩|⟨a,b,rfl,z⟩|⟨a,b,c,rfl,z⟩
 ·rcases z with⟨rfl,rfl⟩|⟨rfl,rfl⟩|⟨rfl,rfl⟩|⟨rfl,rfl⟩|⟨rfl,rfl⟩ <;>
   simp only[ann,annL,scAt,offB,headT,List.append_nil,List.length_append,List.length_cons,w2,w7,w8,w9,w10]<;>simp<;>congr 1<;>omega
 ·rcases z with⟨rfl,rfl⟩|⟨rfl,rfl⟩|⟨rfl,rfl⟩|⟨rfl,rfl⟩|⟨rfl,rfl⟩ <;>
   simp only[ann,annL,scAt,offB,headT,List.append_nil,List.length_append,List.length_cons,w3,w4,w6,w11,w12]<;>simp<;>(congr 1<;>(first|rfl|(congr 1;omega)))
 ·obtain⟨rfl,rfl⟩:=z
  simp only[ann,annL,scAt,offB,headT,List.append_nil,List.length_append,List.length_cons,w5]
  simp
  refine congr (congrArg _ ?_) (congr (congrArg _ ?_) ?_)<;>(first|rfl|(congr 1;omega))
theorem bAt_cons {t:Text} {p:Nat} {b:UInt8} {r:Text} (h:t.drop p=b::r):bAt t p=(b.toNat:Int):=by
 have e:t[p]?=some b:=by
  have:=congrArg (fun l=>l[0]?) h
  simpa[List.getElem?_drop]using this
 unfold bAt
 rw[e]
theorem bAt_nil {t:Text} {p:Nat} (h:t.drop p=[]):bAt t p=-1:=by
 have e:t[p]?=none:=by
  have:=congrArg (fun l=>l[0]?) h
  simpa[List.getElem?_drop]using this
 unfold bAt
 rw[e]
theorem u8_eq {b:UInt8} {c:Nat} (hc:c<256):((b.toNat:Int)=(c:Int))↔b=UInt8.ofNat c:=by
 rw[Int.ofNat_inj]
 constructor
 ·intro h
  apply UInt8.toNat_inj.mp
  rw[h]
  simp
  omega
 ·rintro rfl
  simp
  omega
theorem dig_int {b:UInt8}:(48<=(b.toNat:Int)/\(b.toNat:Int)<=57)↔isDigit b=true:=by
 unfold isDigit
 rw[Bool.and_eq_true,decide_eq_true_iff,decide_eq_true_iff,UInt8.le_iff_toNat_le,UInt8.le_iff_toNat_le]
 constructor
 ·rintro⟨h1,h2⟩
  exact⟨by show 48<=b.toNat;omega,by show b.toNat<=57;omega⟩
 ·rintro⟨h1,h2⟩
  have h1:48<=b.toNat:=h1
  have h2:b.toNat<=57:=h2
  omega
theorem drop_row (p:UInt8->Bool) (t:Text) (pl:Nat):t.drop (pl+(rowW p t pl).length)=(t.drop pl).dropWhile p:=by
 unfold rowW
 rw[<-List.drop_drop]
 have h:=List.takeWhile_append_dropWhile (p:=p) (l:=t.drop pl)
 generalize hA:(t.drop pl).takeWhile p=A at *
 generalize (t.drop pl).dropWhile p=B at *
 rw[<-h,List.drop_left]
theorem drop_succ {t:Text} {p:Nat} {b:UInt8} {r:Text} (h:t.drop p=b::r):t.drop (p+1)=r:=by
 rw[<-List.drop_drop,h]
 rfl
def ScR (ns:List RN):List Nat->Scp->Prop
 |[],sc=>sc=[]
 |l::r,sc=>∃n sc0,ns[l]?=some n/\ScR ns r sc0/\(((n.kind=2\/n.kind=4)/\n.name≠[])\/(¬(n.kind=2\/n.kind=4)/\n.name=[]))/\sc=(if n.kind=2\/(n.kind=4/\n.parts.length=2)then(n.name,l)::sc0 else sc0)
theorem ScR.more {ns ns':List RN}:∀{r:List Nat} {sc:Scp},ScR ns r sc->(∀l∈r,ns'[l]?=ns[l]?)->ScR ns' r sc
 |[],_,h,_=>h
 |l::r,sc,⟨n,sc0,h1,h2,h3,h4⟩,k=>⟨n,sc0,by rw[k l (List.mem_cons_self ..)];exact h1,h2.more fun j hj=>k j (List.mem_cons_of_mem _ hj),h3,h4⟩
theorem ScR.find {ns:List RN} {x:Name} (hx:x≠[]):∀{r:List Nat} {sc:Scp},ScR ns r sc->r.find? (isB ns x)=(sc.find? fun z=>z.1==x).map (·.2)
 |[],sc,h=>by
  have h:sc=[]:=h
  subst h
  rfl
 |l::r,sc,⟨n,sc0,h1,h2,h3,h4⟩=>by
  have ih:=h2.find hx
  rw[List.find?_cons]
  have eB:isB ns x l=(decide (n.name=x)&&bindsL n):=by unfold isB;rw[h1]
  by_cases hb:n.kind=2\/(n.kind=4/\n.parts.length=2)
  ·rw[if_pos hb]at h4
   have hbl:bindsL n=true:=by
    unfold bindsL
    rcases hb with h|h
    ·simp[h]
    ·simp[h.2]
   subst h4
   rw[List.find?_cons,eB,hbl,Bool.and_true]
   by_cases e:n.name=x
   ·simp[e]
   ·have e':(n.name==x)=false:=beq_eq_false_iff_ne.mpr e
    simp[e,ih,e']
  ·rw[if_neg hb]at h4
   subst h4
   have eF:isB ns x l=false:=by
    rw[eB]
    by_cases e:n.name=x
    ·rcases h3 with⟨k,_⟩|⟨_,k⟩
     ·have k4:n.kind=4:=by
       rcases k with k|k
       ·exact absurd (.inl k) hb
       ·exact k
      have:n.parts.length≠2:=fun z=>hb (.inr ⟨k4,z⟩)
      simp[bindsL,k4,this]
     ·exact absurd (e.symm.trans k) hx
    ·simp[e]
   rw[eF]
   exact ih
theorem addPart_len (ns:List RN) (ar:List Nat):(addPart ns ar).length=ns.length:=by
 unfold addPart
 cases ar.getLast? with
 |none=>rfl
 |some l=>simp
structure Pre (t:Text) (s:RS) (d:Nat) (sc:Scp) (n:Nat):Prop where
 dl:s.ar.length=d
 nl:s.ns.length=n
 n30:n<=30
 wf:∀l∈s.ar,l<n
 scr:ScR (addPart s.ns s.ar) s.ar.reverse sc
 inn:∀z∈sc,z.1≠INPUT
def Res (t:Text) (s:RS) (d:Nat) (sc:Scp) (o:Option (Expr×Nat×Text)):Prop:=match o with
 |some (e,_,_)=>∃k,iterR t k (beginE t s)=some ⟨s.pl+(textOf e).length,addPart s.ns s.ar++(ann sc d s.pl e).map rnOf,s.ar⟩
 |none=>∃k,iterR t k (beginE t s)=none
theorem mod_app (f:RN->RN) (n:RN) (B:List RN):∀A:List RN,(A++n::B).modify A.length f=A++f n::B
 |[]=>by simp
 |a::A=>by
  have:=mod_app f n B A
  simp[this]
theorem set_last {ns:List RN} {n:RN} (f:RN->RN):setLast (ns++[n]) f=ns++[f n]:=by
 unfold setLast
 rw[List.length_append,List.length_singleton,Nat.add_sub_cancel]
 exact mod_app f n [] ns
theorem add_ok {k b:Nat} {s:RS} (h:¬(s.ns.length=30\/8<s.ar.length)):addNode k b s=some {s with ns:=addPart s.ns s.ar++[newRN k s.ar.length b]}:=by
 unfold addNode
 rw[if_neg h]
theorem add_no {k b:Nat} {s:RS} (h:s.ns.length=30\/8<s.ar.length):addNode k b s=none:=by
 unfold addNode
 rw[if_pos h]
theorem begin_no {t:Text} {s:RS} (h:s.ns.length=30\/8<s.ar.length):beginE t s=none:=by
 unfold beginE
 split
 ·unfold beginBr takeB
  split
  ·simp only[Option.bind_some]
   rw[add_no]
   ·rfl
   ·split<;>exact h
  ·rfl
 ·split
  ·unfold readNum
   rw[add_no h]
   rfl
  ·unfold readName
   rw[add_no h]
   rfl
structure Mid (t:Text) (s0 s:RS) (d n0:Nat) (sc:Scp) (k:Nat) (x:Name) (done:List Expr) (n:Nat):Prop where
 ns:s.ns=addPart s0.ns s0.ar++⟨k,d,s0.pl,s0.pl,0,x,none,done.map labelOf⟩::(annL k n0 x sc d (s0.pl+1+(headT k x).length) 0 done).map rnOf
 ar:s.ar=s0.ar++[n0]
 pl:s.pl=s0.pl+1+(headT k x).length+(partsText k 0 done).length
 nl:s.ns.length=n
 n30:n<=30
theorem partsText_snoc (k:Nat) (p:Expr):∀(i:Nat) (ps:List Expr),(partsText k i (ps++[p])).length=(partsText k i ps).length+offB k (i+ps.length)+(textOf p).length
 |i,[]=>by
  simp only[List.nil_append,partsText,offB,List.length_append,List.length_nil,Nat.add_zero,List.append_nil]
  split<;>simp<;>omega
 |i,q::ps=>by
  have ih:=partsText_snoc k p (i+1) ps
  simp only[List.cons_append,partsText,List.length_append,List.length_cons]at ih ⊢
  rw[ih,show i+1+ps.length=i+(ps.length+1) by omega]
  omega
theorem annL_snoc (k l:Nat) (x:Name) (sc:Scp) (d:Nat) (p:Expr):∀(q i:Nat) (ps:List Expr),annL k l x sc d q i (ps++[p])=annL k l x sc d q i ps++ann (scAt k l x sc (i+ps.length)) (d+1) (q+(partsText k i ps).length+offB k (i+ps.length)) p
 |q,i,[]=>by simp[annL,partsText]
 |q,i,r::ps=>by
  have ih:=annL_snoc k l x sc d p (q+offB k i+(textOf r).length) (i+1) ps
  have e:(partsText k i (r::ps)).length=offB k i+(textOf r).length+(partsText k (i+1) ps).length:=by
   simp only[partsText,List.length_append,offB]
   split<;>simp
  simp only[List.cons_append,annL,List.length_cons]
  rw[ih,e,List.append_assoc,show i+1+ps.length=i+(ps.length+1) by omega]
  congr 3
  omega
theorem mk_some {k l:Nat} {x:Name} {ps:List Expr} (h1:2<=k) (h2:k<=12) (h:ps.length=nparts k):∃e,mkE k l x ps=some e:=by
 have hk:∀k:Nat,k<11->k=0\/k=1\/k=2\/k=3\/k=4\/k=5\/k=6\/k=7\/k=8\/k=9\/k=10:=by decide
 obtain⟨j,rfl⟩:=Nat.exists_eq_add_of_le h1
 rcases hk j (by omega)with rfl|rfl|rfl|rfl|rfl|rfl|rfl|rfl|rfl|rfl|rfl<;>simp[nparts]at h
 all_goals
  match ps,h with
  |[a],_=>first|exact⟨_,rfl⟩|(rename_i h;cases h)
  |[a,b],_=>first|exact⟨_,rfl⟩|(rename_i h;cases h)
  |[a,b,c],_=>first|exact⟨_,rfl⟩|(rename_i h;cases h)
theorem mk_rn {k l:Nat} {x:Name} {ps:List Expr} {e:Expr} (h:mkE k l x ps=some e) (hx:¬(k=2\/k=4)->x=[]) (sc:Scp) (d q:Nat):rnOf ⟨e,sc,d,q⟩=⟨k,d,q,q+(textOf e).length,0,x,none,ps.map labelOf⟩:=by
 rcases mk_cases h with⟨a,rfl,z⟩|⟨a,b,rfl,z⟩|⟨a,b,c,rfl,z⟩
 ·rcases z with⟨rfl,rfl⟩|⟨rfl,rfl⟩|⟨rfl,rfl⟩|⟨rfl,rfl⟩|⟨rfl,rfl⟩<;>simp[rnOf,kindOf,valOf,nmOf,bndOf,kids]<;>exact hx (by omega)
 ·rcases z with⟨rfl,rfl⟩|⟨rfl,rfl⟩|⟨rfl,rfl⟩|⟨rfl,rfl⟩|⟨rfl,rfl⟩<;>simp[rnOf,kindOf,valOf,nmOf,bndOf,kids]<;>exact hx (by omega)
 ·obtain⟨rfl,rfl⟩:=z
  simp[rnOf,kindOf,valOf,nmOf,bndOf,kids]
  exact hx (by omega)
theorem get_mid {α:Type} (A:List α) (x:α) (B:List α) {n:Nat} (h:A.length=n):(A++x::B)[n]?=some x:=by
 subst h
 rw[List.getElem?_append_right (Nat.le_refl _),Nat.sub_self]
 rfl
section
variable {t:Text} {f d:Nat}
theorem goR_mid {s0 s:RS} {n0 n k:Nat} {sc:Scp} {x:Name} {done:List Expr} (hn0:s0.ns.length=n0) (M:Mid t s0 s d n0 sc k x done n) :
  goR t s=if done.length=nparts k then(takeB t 41 s).map fun s1=>⟨s1.pl,s1.ns.modify n0 (fun n=>{n with beh:=s1.pl}),s1.ar.dropLast⟩else(if k≠3\/0<done.length then takeB t 32 s else some s).bind (beginE t):=by
 unfold goR
 rw[M.ar,List.getLast?_concat]
 have e:s.ns[n0]?=some ⟨k,d,s0.pl,s0.pl,0,x,none,done.map labelOf⟩:=by
  rw[M.ns]
  exact get_mid _ _ _ (by rw[addPart_len];exact hn0)
 simp only[e,List.length_map]
theorem parts_run {sc:Scp} {n0:Nat} {s0:RS} (P0:Pre t s0 d sc n0) {k:Nat} {x:Name} (h2:2<=k) (h12:k<=12) (hx1:(k=2\/k=4)->x≠[]/\x≠INPUT) (hx2:¬(k=2\/k=4)->x=[])
  (IH:∀(sc:Scp) (n:Nat) (s:RS),Pre t s (d+1) sc n->Res t s (d+1) sc (pexp f (d+1) sc n (t.drop s.pl))) :
  ∀(m:Nat) (done:List Expr) (n:Nat) (s:RS),Mid t s0 s d n0 sc k x done n->done.length+m=nparts k->(∀e n' r,parts (pexp f (d+1)) k n0 x sc m done n (t.drop s.pl)=some (e,n',r)->∃j,iterR t j (some s)=some ⟨s0.pl+(textOf e).length,addPart s0.ns s0.ar++(ann sc d s0.pl e).map rnOf,s0.ar⟩) /\
   (parts (pexp f (d+1)) k n0 x sc m done n (t.drop s.pl)=none->∃j,iterR t j (some s)=none):=by
 intro m
 induction m with
 |zero=>
  intro done n s M hm
  have hg:=goR_mid P0.nl M
  rw[if_pos (by omega)]at hg
  obtain⟨e0,he0⟩:=mk_some (l:=n0) (x:=x) (ps:=done) h2 h12 (by omega)
  unfold parts
  cases ht:t.drop s.pl with
  |nil=>
   refine⟨fun e n' r h=>(nomatch h),fun _=>⟨1,?_⟩⟩
   show goR t s=none
   rw[hg]
   unfold takeB
   rw[bAt_nil ht,if_neg (by decide)]
   rfl
  |cons b r=>
   simp only
   by_cases hb:b=41
   ·rw[if_pos hb,he0]
    refine⟨fun e n' r' h=>?_,fun h=>nomatch h⟩
    have h:some (e0,n,r)=some (e,n',r'):=h
    cases h
    refine⟨1,?_⟩
    show goR t s=_
    rw[hg]
    unfold takeB
    rw[bAt_cons ht,if_pos ((u8_eq (c:=41) (by decide)).mpr hb)]
    simp only[Option.map_some]
    have el:s.pl+1=s0.pl+(textOf e0).length:=by
     rw[M.pl,mk_text he0]
     simp only[List.length_cons,List.length_append,List.length_nil]
     omega
    rw[M.ns,M.ar,List.dropLast_concat,el]
    congr 2
    rw[mk_ann he0,List.map_cons,mk_rn he0 hx2]
    rw[show n0=(addPart s0.ns s0.ar).length by rw[addPart_len,P0.nl]]
    rw[mod_app]
   ·rw[if_neg hb]
    refine⟨fun e n' r h=>(nomatch h),fun _=>⟨1,?_⟩⟩
    show goR t s=none
    rw[hg]
    unfold takeB
    rw[bAt_cons ht,if_neg (fun z=>hb ((u8_eq (c:=41) (by decide)).mp z))]
    rfl
 |succ m ihm=>
  intro done n s M hm
  have hg:=goR_mid P0.nl M
  rw[if_neg (by omega)]at hg
  have hlen:(addPart s0.ns s0.ar).length=n0:=by rw[addPart_len,P0.nl]
  have hnn:n0<n:=by
   have:=congrArg List.length M.ns
   rw[M.nl,List.length_append,List.length_cons,hlen]at this
   omega
  have part:∀(s':RS),s'.ns=s.ns->s'.ar=s.ar->s'.pl=s.pl+offB k done.length->goR t s=beginE t s' ->
    (∀e n' r,((pexp f (d+1) (scAt k n0 x sc done.length) n (t.drop s'.pl)).bind fun z=>parts (pexp f (d+1)) k n0 x sc m (done++[z.1]) z.2.1 z.2.2)=some (e,n',r)->∃j,iterR t j (some s)=some ⟨s0.pl+(textOf e).length,addPart s0.ns s0.ar++(ann sc d s0.pl e).map rnOf,s0.ar⟩) /\
    (((pexp f (d+1) (scAt k n0 x sc done.length) n (t.drop s'.pl)).bind fun z=>parts (pexp f (d+1)) k n0 x sc m (done++[z.1]) z.2.1 z.2.2)=none->∃j,iterR t j (some s)=none):=by
   intro s' e1 e2 e3 e4
   have eA:addPart s'.ns s'.ar=addPart s0.ns s0.ar++⟨k,d,s0.pl,s0.pl,0,x,none,done.map labelOf++[n]⟩::(annL k n0 x sc d (s0.pl+1+(headT k x).length) 0 done).map rnOf:=by
    have hsl:s'.ns.length=n:=by rw[e1,M.nl]
    unfold addPart
    rw[e2,M.ar,List.getLast?_concat]
    simp only
    rw[hsl,e1,M.ns]
    rw[show n0=(addPart s0.ns s0.ar).length from hlen.symm]
    exact mod_app _ _ _ _
   have PR:Pre t s' (d+1) (scAt k n0 x sc done.length) n:=by
    refine⟨?_,by rw[e1,M.nl],M.n30,?_,?_,?_⟩
    ·rw[e2,M.ar,List.length_append,P0.dl];rfl
    ·intro l hl
     rw[e2,M.ar]at hl
     rcases List.mem_append.mp hl with h|h
     ·exact Nat.lt_trans (P0.wf l h) hnn
     ·rw[List.mem_singleton.mp h];exact hnn
    ·rw[eA,e2,M.ar,List.reverse_append]
     refine⟨_,sc,get_mid _ _ _ hlen,P0.scr.more fun l hl=>?_,?_,?_⟩
     ·rw[List.getElem?_append_left]
      rw[hlen]
      exact P0.wf l (List.mem_reverse.mp hl)
     ·by_cases hk:k=2\/k=4
      ·exact .inl ⟨hk,(hx1 hk).1⟩
      ·exact .inr ⟨hk,hx2 hk⟩
     ·unfold scAt
      simp only[List.length_append,List.length_map,List.length_singleton]
      have:(k=2\/k=4/\done.length=1)↔(k=2\/k=4/\done.length+1=2):=by omega
      by_cases hc:k=2\/k=4/\done.length=1
      ·rw[if_pos hc,if_pos (this.mp hc)]
      ·rw[if_neg hc,if_neg fun z=>hc (this.mpr z)]
    ·intro z hz
     unfold scAt at hz
     split at hz
     ·rename_i hk
      rcases List.mem_cons.mp hz with rfl|hz
      ·exact(hx1 (by omega)).2
      ·exact P0.inn z hz
     ·exact P0.inn z hz
   have R:=IH _ _ _ PR
   cases hp:pexp f (d+1) (scAt k n0 x sc done.length) n (t.drop s'.pl)with
   |none=>
    rw[hp]at R
    obtain⟨j,hj⟩:=R
    refine⟨fun e n' r h=>(nomatch h),fun _=>⟨j+1,?_⟩⟩
    show iterR t j (goR t s)=none
    rw[e4]
    exact hj
   |some z=>
    obtain⟨e1',n1,r1⟩:=z
    rw[hp]at R
    obtain⟨j,hj⟩:=R
    obtain⟨so1,so2,so3,so4,so5,so6⟩:=pexp_sound f (d+1) _ _ _ _ _ _ hp
    have hsz:n1=n+sz e1':=lab_next so3
    have M2:Mid t s0 ⟨s'.pl+(textOf e1').length,addPart s'.ns s'.ar++(ann (scAt k n0 x sc done.length) (d+1) s'.pl e1').map rnOf,s'.ar⟩ d n0 sc k x (done++[e1']) n1:=by
     refine⟨?_,by rw[<-M.ar];exact e2,?_,?_,so5⟩
     ·show addPart s'.ns s'.ar++_=_
      rw[eA,annL_snoc,List.append_assoc,List.cons_append,List.map_append,List.map_append,Nat.zero_add,e3,M.pl]
      simp only[List.map_cons,List.map_nil]
      rw[lab_head so3]
     ·show s'.pl+_=_
      rw[partsText_snoc,e3,M.pl,Nat.zero_add]
      omega
     ·show(addPart s'.ns s'.ar++_).length=_
      rw[List.length_append,addPart_len,List.length_map,ann_len,e1,M.nl,hsz]
    have hd:t.drop (s'.pl+(textOf e1').length)=r1:=by
     rw[<-List.drop_drop,so1,List.drop_left]
    obtain⟨q1,q2⟩:=ihm (done++[e1']) n1 _ M2 (by rw[List.length_append,List.length_singleton];omega)
    simp only[hd]at q1 q2
    refine⟨fun e n' r h=>?_,fun h=>?_⟩
    ·obtain⟨j2,hj2⟩:=q1 e n' r h
     refine⟨(j+j2)+1,?_⟩
     show iterR t (j+j2) (goR t s)=_
     rw[e4,iterR_add,hj]
     exact hj2
    ·obtain⟨j2,hj2⟩:=q2 h
     refine⟨(j+j2)+1,?_⟩
     show iterR t (j+j2) (goR t s)=_
     rw[e4,iterR_add,hj]
     exact hj2
  unfold parts
  by_cases hb:k=3/\done=[]
  ·have eu:unblank (k=3/\done=[]) (t.drop s.pl)=some (t.drop s.pl):=by unfold unblank;rw[if_pos hb]
   rw[eu]
   have ho:offB k done.length=0:=by unfold offB;rw[if_pos ⟨hb.1,by rw[hb.2];rfl⟩]
   refine part s rfl rfl (by rw[ho,Nat.add_zero]) ?_
   rw[hg,if_neg (by rintro(z|z);exact z hb.1;rw[hb.2]at z;cases z)]
   rfl
  ·have ho:offB k done.length=1:=by
    unfold offB
    rw[if_neg]
    rintro⟨z1,z2⟩
    exact hb ⟨z1,List.length_eq_zero_iff.mp z2⟩
   have hc:k≠3\/0<done.length:=by
    by_cases z:k=3
    ·right
     rcases Nat.eq_zero_or_pos done.length with w|w
     ·exact absurd ⟨z,List.length_eq_zero_iff.mp w⟩ hb
     ·exact w
    ·exact .inl z
   rw[if_pos hc]at hg
   cases ht:t.drop s.pl with
   |nil=>
    have eu:unblank (k=3/\done=[]) []=none:=by unfold unblank;rw[if_neg hb]
    rw[eu]
    refine⟨fun e n' r h=>(nomatch h),fun _=>⟨1,?_⟩⟩
    show goR t s=none
    rw[hg]
    unfold takeB
    rw[bAt_nil ht,if_neg (by decide)]
    rfl
   |cons b r=>
    by_cases h32:b=32
    ·have eu:unblank (k=3/\done=[]) (b::r)=some r:=by unfold unblank;rw[if_neg hb];simp only;rw[if_pos h32]
     rw[eu]
     have hd:t.drop (s.pl+1)=r:=drop_succ ht
     have:=part {s with pl:=s.pl+1} rfl rfl (by rw[ho]) (by
      rw[hg]
      unfold takeB
      rw[bAt_cons ht,if_pos ((u8_eq (c:=32) (by decide)).mpr h32)]
      rfl)
     simp only[hd]at this
     exact this
    ·have eu:unblank (k=3/\done=[]) (b::r)=none:=by unfold unblank;rw[if_neg hb];simp only;rw[if_neg h32]
     rw[eu]
     refine⟨fun e n' r h=>(nomatch h),fun _=>⟨1,?_⟩⟩
     show goR t s=none
     rw[hg]
     unfold takeB
     rw[bAt_cons ht,if_neg (fun z=>h32 ((u8_eq (c:=32) (by decide)).mp z))]
     rfl
end
theorem row_eq {p:UInt8->Bool} {t:Text} {pl:Nat} {r:Text} (h:t.drop pl=r):rowW p t pl=r.takeWhile p:=by unfold rowW;rw[h]
theorem bnd_in {sc:Scp} {x:Name}:((sc.find? fun z=>z.1==x).map (·.2)).isSome=true↔x∈sc.map (·.1):=by
 rw[Option.isSome_map,List.find?_isSome]
 constructor
 ·rintro⟨z,hz,e⟩
  exact List.mem_map.mpr ⟨z,hz,eq_of_beq e⟩
 ·intro h
  obtain⟨z,hz,e⟩:=List.mem_map.mp h
  exact⟨z,hz,beq_iff_eq.mpr e⟩
theorem not_inn {sc:Scp} (h:∀z∈sc,z.1≠INPUT):(sc.find? fun z=>z.1==INPUT).map (·.2)=none:=by
 cases e:sc.find? fun z=>z.1==INPUT with
 |none=>rfl
 |some z=>exact absurd (eq_of_beq (show(z.1==INPUT)=true from List.find?_some (p:=fun(z:Name×Nat)=>z.1==INPUT) e)) (h z (List.mem_of_find?_eq_some e))
theorem read_all (t:Text):∀(f d:Nat) (sc:Scp) (n:Nat) (s:RS),9<=f+d->Pre t s d sc n->Res t s d sc (pexp f d sc n (t.drop s.pl)):=by
 intro f
 induction f with
 |zero=>
  intro d sc n s hd PR
  exact⟨0,begin_no (.inr (by rw[PR.dl];omega))⟩
 |succ f ih=>
  intro d sc n s hd PR
  rw[pexp.eq_def]
  dsimp only
  by_cases hc:30<=n\/8<d
  ·rw[if_pos hc]
   refine⟨0,begin_no ?_⟩
   rcases hc with h|h
   ·exact .inl (by rw[PR.nl];have:=PR.n30;omega)
   ·exact .inr (by rw[PR.dl];exact h)
  rw[if_neg hc]
  have hok:¬(s.ns.length=30\/8<s.ar.length):=by rw[PR.nl,PR.dl];omega
  have hn1:n+1<=30:=by omega
  cases ht:t.drop s.pl with
  |nil=>
   refine⟨0,?_⟩
   show beginE t s=none
   unfold beginE
   rw[bAt_nil ht,if_neg (by decide),if_neg (by decide)]
   unfold readName
   rw[add_ok hok]
   simp only[Option.bind_some]
   rw[row_eq ht]
   rfl
  |cons b r=>
   simp only
   have hd1:t.drop (s.pl+1)=r:=drop_succ ht
   by_cases h40:b=40
   ·rw[if_pos h40]
    have eb:beginE t s=beginBr t s:=by
     unfold beginE
     rw[bAt_cons ht,if_pos (show(b.toNat:Int)=40 from(u8_eq (c:=40) (by decide)).mpr h40)]
    have eb2:beginBr t s=(addNode ((kindW (r.takeWhile isSmall)).getD 3) s.pl (if(kindW (r.takeWhile isSmall)).isSome=true then{s with pl:=s.pl+1+(r.takeWhile isSmall).length}else{s with pl:=s.pl+1})).bind fun s2=>
      (if(kindW (r.takeWhile isSmall)).getD 3=2\/(kindW (r.takeWhile isSmall)).getD 3=4 then bindName t s2 else some s2).map openLast:=by
     unfold beginBr takeB
     rw[bAt_cons ht,if_pos ((u8_eq (c:=40) (by decide)).mpr h40)]
     simp only[Option.bind_some]
     rw[row_eq hd1]
    have IH:∀(sc:Scp) (n:Nat) (s:RS),Pre t s (d+1) sc n->Res t s (d+1) sc (pexp f (d+1) sc n (t.drop s.pl)):=fun sc n s=>ih (d+1) sc n s (by omega)
    have fin:∀(k:Nat) (x:Name) (s1:RS),2<=k->k<=12->((k=2\/k=4)->x≠[]/\x≠INPUT)->(¬(k=2\/k=4)->x=[])->s1.ns=addPart s.ns s.ar++[⟨k,d,s.pl,s.pl,0,x,none,[]⟩]->s1.ar=s.ar++[n]->s1.pl=s.pl+1+(headT k x).length->beginBr t s=some s1 ->
      Res t s d sc (parts (pexp f (d+1)) k n x sc (nparts k) [] (n+1) (t.drop s1.pl)):=by
     intro k x s1 k1 k2 hx1 hx2 e1 e2 e3 e4
     have M:Mid t s s1 d n sc k x [] (n+1):=by
      refine⟨e1,e2,by rw[e3];rfl,?_,hn1⟩
      rw[e1,List.length_append,addPart_len,PR.nl]
      rfl
     obtain⟨q1,q2⟩:=parts_run PR k1 k2 hx1 hx2 IH (nparts k) [] (n+1) s1 M (by simp)
     cases hp:parts (pexp f (d+1)) k n x sc (nparts k) [] (n+1) (t.drop s1.pl)with
     |none=>
      obtain⟨j,hj⟩:=q2 hp
      exact⟨j,by rw[eb,e4];exact hj⟩
     |some z=>
      obtain⟨e,n',r'⟩:=z
      obtain⟨j,hj⟩:=q1 e n' r' hp
      exact⟨j,by rw[eb,e4];exact hj⟩
    cases hk:kindW (r.takeWhile isSmall)with
    |none=>
     rw[hk]at eb2
     simp only[Option.getD_none,Option.isSome_none,Bool.false_eq_true,if_false]at eb2
     rw[add_ok (s:={s with pl:=s.pl+1}) hok]at eb2
     simp only[Option.bind_some]at eb2
     rw[if_neg (by decide)]at eb2
     have:=fin 3 [] (openLast {s with pl:=s.pl+1,ns:=addPart s.ns s.ar++[newRN 3 s.ar.length s.pl]}) (by decide) (by decide) (fun z=>by omega) (fun _=>rfl) (by simp[openLast,newRN,PR.dl]) (by simp[openLast,addPart_len,PR.nl]) rfl eb2
     have e5:t.drop (openLast {s with pl:=s.pl+1,ns:=addPart s.ns s.ar++[newRN 3 s.ar.length s.pl]}).pl=r:=hd1
     rw[e5]at this
     exact this
    |some k=>
     obtain⟨hw,k1,k2,k3⟩:=kindW_word hk
     rw[hk]at eb2
     simp only[Option.getD_some,Option.isSome_some,if_true]at eb2
     rw[add_ok (s:={s with pl:=s.pl+1+(r.takeWhile isSmall).length}) hok]at eb2
     simp only[Option.bind_some]at eb2
     have hdw:t.drop (s.pl+1+(r.takeWhile isSmall).length)=r.dropWhile isSmall:=by
      have:=drop_row isSmall t (s.pl+1)
      rw[row_eq hd1,hd1]at this
      exact this
     simp only
     by_cases h24:k=2\/k=4
     ·rw[if_pos h24]at eb2 ⊢
      unfold bindName takeB at eb2
      cases hq:r.dropWhile isSmall with
      |nil=>
       rw[hq]at hdw
       simp only[bAt_nil hdw]at eb2
       rw[if_neg (by decide)]at eb2
       exact⟨0,by rw[eb];exact eb2⟩
      |cons c q=>
       rw[hq]at hdw
       simp only[bAt_cons hdw]at eb2 ⊢
       by_cases h32:c=32
       ·rw[if_pos ((u8_eq (c:=32) (by decide)).mpr h32)]at eb2
        simp only[Option.bind_some]at eb2
        have hd3:t.drop (s.pl+1+(r.takeWhile isSmall).length+1)=q:=drop_succ hdw
        rw[row_eq hd3]at eb2
        by_cases hn:isName (q.takeWhile isSmall)=true/\q.takeWhile isSmall≠INPUT
        ·rw[if_pos hn]at eb2
         rw[if_pos ⟨h32,hn.1,hn.2⟩]
         simp only[Option.map_some]at eb2
         rw[set_last]at eb2
         have:=fin k (q.takeWhile isSmall) _ k1 k2 (fun _=>⟨name_ne hn.1,hn.2⟩) (fun z=>absurd h24 z) (by simp[openLast,newRN,PR.dl]) (by simp[openLast,addPart_len,PR.nl]) (by
          show s.pl+1+(r.takeWhile isSmall).length+1+(q.takeWhile isSmall).length=_
          unfold headT
          rw[if_pos h24,List.length_append,List.length_cons,hw]
          omega) eb2
         have e5:t.drop (s.pl+1+(r.takeWhile isSmall).length+1+(q.takeWhile isSmall).length)=q.dropWhile isSmall:=by
          have:=drop_row isSmall t (s.pl+1+(r.takeWhile isSmall).length+1)
          rw[row_eq hd3,hd3]at this
          exact this
         simp only[openLast]at this
         rw[e5]at this
         exact this
        ·rw[if_neg hn]at eb2
         rw[if_neg fun z=>hn ⟨z.2.1,z.2.2⟩]
         exact⟨0,by rw[eb];exact eb2⟩
       ·rw[if_neg fun z=>h32 ((u8_eq (c:=32) (by decide)).mp z)]at eb2
        rw[if_neg fun z=>h32 z.1]
        exact⟨0,by rw[eb];exact eb2⟩
     ·rw[if_neg h24]at eb2 ⊢
      simp only[Option.map_some]at eb2
      have:=fin k [] _ k1 k2 (fun z=>absurd z h24) (fun _=>rfl) (by simp[openLast,newRN,PR.dl]) (by simp[openLast,addPart_len,PR.nl]) (by
       show s.pl+1+(r.takeWhile isSmall).length=_
       unfold headT
       rw[if_neg h24,hw]) eb2
      simp only[openLast]at this
      rw[hdw]at this
      exact this
   ·rw[if_neg h40]
    by_cases hdg:isDigit b=true
    ·rw[if_pos hdg]
     have eb:beginE t s=readNum t s:=by
      unfold beginE
      rw[bAt_cons ht,if_neg (show ¬ (b.toNat:Int)=40 from fun z=>h40 ((u8_eq (c:=40) (by decide)).mp z)),if_pos (dig_int.mpr hdg)]
     have er:rowW isDigit t s.pl=(b::r).takeWhile isDigit:=row_eq ht
     unfold readNum at eb
     rw[add_ok hok]at eb
     simp only[Option.bind_some]at eb
     rw[er]at eb
     by_cases hnum:numOk ((b::r).takeWhile isDigit)=true
     ·rw[if_pos hnum]at eb ⊢
      refine⟨0,?_⟩
      show beginE t s=_
      rw[eb,set_last]
      have hne:(b::r).takeWhile isDigit≠[]:=by rw[List.takeWhile_cons,if_pos hdg];simp
      obtain⟨ns1,_⟩:=num_sound hne (all_takeWhile isDigit (b::r)) hnum
      simp[newRN,ann,rnOf,kindOf,valOf,nmOf,bndOf,kids,textOf,ns1,PR.dl]
     ·rw[if_neg hnum]at eb ⊢
      exact⟨0,eb⟩
    ·rw[if_neg hdg]
     have eb:beginE t s=readName t s:=by
      unfold beginE
      rw[bAt_cons ht,if_neg (show ¬ (b.toNat:Int)=40 from fun z=>h40 ((u8_eq (c:=40) (by decide)).mp z)),if_neg fun z=>hdg (dig_int.mp z)]
     have er:rowW isSmall t s.pl=(b::r).takeWhile isSmall:=row_eq ht
     unfold readName at eb
     rw[add_ok hok]at eb
     simp only[Option.bind_some]at eb
     rw[er]at eb
     by_cases hnm:isName ((b::r).takeWhile isSmall)=true
     ·rw[if_pos hnm]at eb
      have en:nameIn t {s with ns:=addPart s.ns s.ar++[newRN 1 s.ar.length s.pl]}=⟨s.pl+((b::r).takeWhile isSmall).length,addPart s.ns s.ar++[⟨1,d,s.pl,s.pl+((b::r).takeWhile isSmall).length,0,(b::r).takeWhile isSmall,none,[]⟩],s.ar⟩:=by
       unfold nameIn
       simp only[er,set_last]
       simp[newRN,PR.dl]
      rw[en]at eb
      by_cases hin:(b::r).takeWhile isSmall=INPUT
      ·rw[if_pos hin]at eb
       rw[if_pos ⟨hnm,by rw[hin];unfold names;simp⟩]
       refine⟨0,?_⟩
       show beginE t s=_
       rw[eb]
       simp only[ann,rnOf,kindOf,valOf,nmOf,bndOf,kids,textOf,List.map_cons,List.map_nil]
       rw[hin,not_inn PR.inn]
      ·rw[if_neg hin]at eb
       have hfb:binderR ⟨s.pl+((b::r).takeWhile isSmall).length,addPart s.ns s.ar++[⟨1,d,s.pl,s.pl+((b::r).takeWhile isSmall).length,0,(b::r).takeWhile isSmall,none,[]⟩],s.ar⟩ ((b::r).takeWhile isSmall)=(sc.find? fun z=>z.1==(b::r).takeWhile isSmall).map (·.2):=by
        unfold binderR
        refine ScR.find (name_ne hnm) (PR.scr.more fun l hl=>?_)
        rw[List.getElem?_append_left]
        rw[addPart_len,PR.nl]
        exact PR.wf l (List.mem_reverse.mp hl)
       rw[hfb]at eb
       have hmem:((b::r).takeWhile isSmall∈names sc)↔(((sc.find? fun z=>z.1==(b::r).takeWhile isSmall).map (·.2)).isSome=true):=by
        rw[bnd_in]
        unfold names
        rw[List.mem_append,List.mem_singleton]
        exact⟨fun h=>h.elim id fun z=>absurd z hin,.inl⟩
       cases hfd:(sc.find? fun z=>z.1==(b::r).takeWhile isSmall).map (·.2)with
       |none=>
        rw[hfd]at eb hmem
        rw[if_neg fun z=>by have:=hmem.mp z.2;cases this]
        exact⟨0,eb⟩
       |some l=>
        rw[hfd]at eb hmem
        rw[if_pos ⟨hnm,hmem.mpr rfl⟩]
        refine⟨0,?_⟩
        show beginE t s=_
        rw[eb]
        simp only[Option.map_some,set_last]
        simp only[ann,rnOf,kindOf,valOf,nmOf,bndOf,kids,textOf,List.map_cons,List.map_nil]
        rw[hfd]
     ·rw[if_neg hnm]at eb
      rw[if_neg fun z=>hnm z.1]
      exact⟨0,eb⟩
def s0R:RS:=⟨0,[],[]⟩
theorem read_end (t:Text):(∀p,programOf t=some p->∃k,iterR t k (beginE t s0R)=some ⟨t.length,(ann [] 0 0 p).map rnOf,[]⟩) /\
  (programOf t=none->∃k,iterR t k (beginE t s0R)=none\/∃s,iterR t k (beginE t s0R)=some s/\s.ar=[]/\s.pl<t.length):=by
 have R:=read_all t 31 0 [] 0 s0R (by decide) ⟨rfl,rfl,by decide,fun l hl=>(nomatch hl),rfl,fun z hz=>(nomatch hz)⟩
 have hd:t.drop s0R.pl=t:=rfl
 rw[hd]at R
 rw[<-readB_eq]
 unfold readB
 cases hp:pexp 31 0 [] 0 t with
 |none=>
  rw[hp]at R
  obtain⟨k,hk⟩:=R
  exact⟨fun p h=>(nomatch h),fun _=>⟨k,.inl hk⟩⟩
 |some z=>
  obtain⟨e,n',r⟩:=z
  rw[hp]at R
  obtain⟨k,hk⟩:=R
  obtain⟨so1,_⟩:=pexp_sound 31 0 _ _ _ _ _ _ hp
  have hl:t.length=(textOf e).length+r.length:=by rw[so1,List.length_append]
  have hpl:s0R.pl+(textOf e).length=(textOf e).length:=Nat.zero_add _
  rw[hpl]at hk
  simp only[Option.bind_some]
  by_cases hr:r=[]
  ·rw[if_pos hr]
   refine⟨fun p h=>?_,fun h=>(nomatch h)⟩
   cases h
   refine⟨k,?_⟩
   rw[hk,hl,hr]
   rfl
  ·rw[if_neg hr]
   refine⟨fun p h=>(nomatch h),fun _=>⟨k,.inr ⟨_,hk,rfl,?_⟩⟩⟩
   show(textOf e).length<t.length
   have:0<r.length:=List.length_pos_iff.mpr hr
   omega
structure WfR (t:Text) (s:RS):Prop where
 ar:∀l∈s.ar,l<s.ns.length
 n30:s.ns.length<=30
 a9:s.ar.length<=9
 k12:∀n∈s.ns,n.kind<=12
 pl:s.pl<=t.length
 tl:t.length<=2000
 pr:∀n∈s.ns,n.parts.length<=s.ns.length
variable {t:Text} {s s':RS}
theorem wf_place (W:WfR t s) {p:Nat} (h:p<=t.length):WfR t {s with pl:=p}:=⟨W.ar,W.n30,W.a9,W.k12,h,W.tl,W.pr⟩
theorem takeB_some {c:Nat} (h:takeB t c s=some s'):s'={s with pl:=s.pl+1}/\s.pl+1<=t.length:=by
 unfold takeB at h
 split at h
 ·rename_i e
  cases h
  refine⟨rfl,?_⟩
  unfold bAt at e
  cases hb:t[s.pl]? with
  |none=>rw[hb]at e;simp only at e;omega
  |some b=>exact(List.getElem?_eq_some_iff.mp hb).1
 ·cases h
theorem mem_modify {f:RN->RN} {n:RN} {i:Nat}:∀{l:List RN},n∈l.modify i f->n∈l\/∃m∈l,n=f m:=by
 intro l h
 obtain⟨j,hj⟩:=List.getElem?_of_mem h
 rw[List.getElem?_modify]at hj
 cases hl:l[j]? with
 |none=>rw[hl]at hj;cases hj
 |some m=>
  rw[hl]at hj
  have hj:(if i=j then f m else m)=n:=by simpa using hj
  by_cases e:i=j
  ·rw[if_pos e]at hj
   exact .inr ⟨m,List.mem_of_getElem? hl,hj.symm⟩
  ·rw[if_neg e]at hj
   rw[<-hj]
   exact .inl (List.mem_of_getElem? hl)
theorem wf_add {k b:Nat} (W:WfR t s) (hk:k<=12) (h:addNode k b s=some s'):WfR t s'/\s'.pl=s.pl/\s'.ar=s.ar/\s.ar.length<=8/\s'.ns.length=s.ns.length+1/\s'.ns=addPart s.ns s.ar++[newRN k s.ar.length b]:=by
 unfold addNode at h
 split at h
 ·cases h
 ·rename_i hc
  cases h
  have hl:(addPart s.ns s.ar++[newRN k s.ar.length b]).length=s.ns.length+1:=by rw[List.length_append,addPart_len];rfl
  have hm:∀n∈addPart s.ns s.ar++[newRN k s.ar.length b],n.kind<=12/\n.parts.length<=s.ns.length+1:=by
   intro n hn
   rcases List.mem_append.mp hn with h|h
   ·unfold addPart at h
    split at h
    ·exact⟨W.k12 n h,Nat.le_succ_of_le (W.pr n h)⟩
    ·rcases mem_modify h with h|⟨m,hm,rfl⟩
     ·exact⟨W.k12 n h,Nat.le_succ_of_le (W.pr n h)⟩
     ·refine⟨W.k12 m hm,?_⟩
      have:=W.pr m hm
      simp only[List.length_append,List.length_singleton]
      omega
   ·rw[List.mem_singleton.mp h]
    exact⟨hk,Nat.zero_le _⟩
  have h30:=W.n30
  refine⟨⟨fun l hl'=>?_,?_,W.a9,fun n hn=>(hm n hn).1,W.pl,W.tl,fun n hn=>?_⟩,rfl,rfl,by omega,hl,rfl⟩
  ·show l<(addPart s.ns s.ar++[newRN k s.ar.length b]).length
   rw[hl]
   exact Nat.lt_succ_of_lt (W.ar l hl')
  ·show(addPart s.ns s.ar++[newRN k s.ar.length b]).length<=30
   rw[hl]
   omega
  ·show n.parts.length<=(addPart s.ns s.ar++[newRN k s.ar.length b]).length
   rw[hl]
   exact(hm n hn).2
theorem wf_mod {i:Nat} {g:RN->RN} (W:WfR t s) (h1:∀n,(g n).kind=n.kind) (h2:∀n,(g n).parts=n.parts) {p:Nat} (hp:p<=t.length):WfR t ⟨p,s.ns.modify i g,s.ar⟩:=by
 have hl:(s.ns.modify i g).length=s.ns.length:=by simp
 refine⟨fun l h=>by show l<(s.ns.modify i g).length;rw[hl];exact W.ar l h,by show(s.ns.modify i g).length<=30;rw[hl];exact W.n30,W.a9,fun n hn=>?_,hp,W.tl,fun n hn=>?_⟩
 ·rcases mem_modify hn with h|⟨m,hm,rfl⟩
  ·exact W.k12 n h
  ·rw[h1];exact W.k12 m hm
 ·show n.parts.length<=(s.ns.modify i g).length
  rw[hl]
  rcases mem_modify hn with h|⟨m,hm,rfl⟩
  ·exact W.pr n h
  ·rw[h2];exact W.pr m hm
theorem wf_last {g:RN->RN} (W:WfR t s) {p:Nat} (hp:p<=t.length) (h1:∀n,(g n).kind=n.kind) (h2:∀n,(g n).parts=n.parts):WfR t ⟨p,setLast s.ns g,s.ar⟩:=wf_mod W h1 h2 hp
theorem row_pl (p:UInt8->Bool) (h:s.pl<=t.length):s.pl+(rowW p t s.pl).length<=t.length:=by
 have hl:(rowW p t s.pl).length<=(t.drop s.pl).length:=List.Sublist.length_le (List.takeWhile_sublist p)
 rw[List.length_drop]at hl
 omega
theorem row_pos {p:UInt8->Bool} {b:UInt8} (h:t[s.pl]?=some b) (hp:p b=true):0<(rowW p t s.pl).length:=by
 have hd:t.drop s.pl=b::t.drop (s.pl+1):=by
  obtain⟨h1,h2⟩:=List.getElem?_eq_some_iff.mp h
  rw[List.drop_eq_getElem_cons h1,h2]
 unfold rowW
 rw[hd,List.takeWhile_cons,if_pos hp]
 simp
theorem wf_open (W:WfR t s) (h8:s.ar.length<=8) (hn:0<s.ns.length):WfR t (openLast s):=by
 refine⟨fun l hl=>?_,W.n30,?_,W.k12,W.pl,W.tl,W.pr⟩
 ·rcases List.mem_append.mp hl with h|h
  ·exact W.ar l h
  ·rw[List.mem_singleton.mp h]
   show s.ns.length-1<s.ns.length
   omega
 ·show(s.ar++[s.ns.length-1]).length<=9
  rw[List.length_append,List.length_singleton]
  omega
theorem wf_begin (W:WfR t s) (h:beginE t s=some s'):WfR t s'/\s.pl<s'.pl:=by
 unfold beginE at h
 split at h
 ·
  unfold beginBr at h
  cases h1:takeB t 40 s with
  |none=>rw[h1]at h;cases h
  |some s1=>
   rw[h1]at h
   simp only[Option.bind_some]at h
   obtain⟨rfl,hp1⟩:=takeB_some h1
   simp only at h
   have W1:=wf_place W hp1
   have hrow:=row_pl (t:=t) (s:={s with pl:=s.pl+1}) isSmall hp1
   have key:∀(k:Nat) (sx:RS),k<=12->WfR t sx->s.pl<sx.pl->((addNode k s.pl sx).bind fun s2=>(if k=2\/k=4 then bindName t s2 else some s2).map openLast)=some s'->WfR t s'/\s.pl<s'.pl:=by
    intro k sx hk Wx hlt hh
    cases h2:addNode k s.pl sx with
    |none=>rw[h2]at hh;cases hh
    |some s2=>
     rw[h2]at hh
     simp only[Option.bind_some]at hh
     obtain⟨W2,e1,e2,e3,e4,e5⟩:=wf_add Wx hk h2
     split at hh
     ·unfold bindName at hh
      cases h3:takeB t 32 s2 with
      |none=>rw[h3]at hh;cases hh
      |some s3=>
       rw[h3]at hh
       simp only[Option.bind_some]at hh
       obtain⟨rfl,hp3⟩:=takeB_some h3
       split at hh
       ·cases hh
        have hr3:=row_pl (t:=t) (s:={s2 with pl:=s2.pl+1}) isSmall hp3
        refine⟨wf_open (wf_last (wf_place W2 hp3) hr3 (by intro n;rfl) (by intro n;rfl)) (by rw[e2];exact e3) ?_,?_⟩
        ·show 0<(setLast s2.ns _).length
         simp[setLast,e4]
        ·show s.pl<s2.pl+1+_
         omega
       ·cases hh
     ·cases hh
      refine⟨wf_open W2 (by rw[e2];exact e3) (by omega),?_⟩
      show s.pl<s2.pl
      omega
   cases hk:kindW (rowW isSmall t (s.pl+1))with
   |none=>
    rw[hk]at h
    simp only[Option.getD_none,Option.isSome_none,Bool.false_eq_true,if_false]at h
    exact key 3 _ (by decide) W1 (Nat.lt_succ_self _) h
   |some k=>
    rw[hk]at h
    simp only[Option.getD_some,Option.isSome_some,if_true]at h
    obtain⟨_,k1,k2,_⟩:=kindW_word hk
    refine key k _ k2 (wf_place W hrow) ?_ h
    show s.pl<s.pl+1+_
    omega
 ·split at h
  ·rename_i hd
   unfold readNum at h
   cases h1:addNode 0 s.pl s with
   |none=>rw[h1]at h;cases h
   |some s1=>
    rw[h1]at h
    simp only[Option.bind_some]at h
    obtain⟨W1,e1,e2,e3,e4,e5⟩:=wf_add W (by decide) h1
    split at h
    ·cases h
     have hr:=row_pl (t:=t) (s:=s1) isDigit W1.pl
     refine⟨wf_last W1 hr (by intro n;rfl) (by intro n;rfl),?_⟩
     show s.pl<s1.pl+_
     rw[e1]
     have:0<(rowW isDigit t s.pl).length:=by
      unfold bAt at hd
      cases hb:t[s.pl]? with
      |none=>rw[hb]at hd;simp only at hd;omega
      |some b=>
       rw[hb]at hd
       exact row_pos hb (dig_int.mp hd)
     omega
    ·cases h
  ·unfold readName at h
   cases h1:addNode 1 s.pl s with
   |none=>rw[h1]at h;cases h
   |some s1=>
    rw[h1]at h
    simp only[Option.bind_some]at h
    obtain⟨W1,e1,e2,e3,e4,e5⟩:=wf_add W (by decide) h1
    split at h
    ·rename_i hn
     have hr:=row_pl (t:=t) (s:=s1) isSmall W1.pl
     have W2:WfR t (nameIn t s1):=by
      unfold nameIn
      exact wf_last W1 hr (by intro n;rfl) (by intro n;rfl)
     have hlt:s.pl<(nameIn t s1).pl:=by
      show s.pl<s1.pl+_
      have:0<(rowW isSmall t s1.pl).length:=List.length_pos_iff.mpr (name_ne hn)
      omega
     split at h
     ·cases h
      exact⟨W2,hlt⟩
     ·cases hb:binderR (nameIn t s1) (rowW isSmall t s1.pl)with
      |none=>rw[hb]at h;cases h
      |some l=>
       rw[hb]at h
       cases h
       exact⟨wf_last W2 W2.pl (by intro n;rfl) (by intro n;rfl),hlt⟩
    ·cases h
theorem wf_go (W:WfR t s) (hne:s.ar≠[]) (h:goR t s=some s'):WfR t s'/\s.pl<s'.pl:=by
 unfold goR at h
 cases hl:s.ar.getLast? with
 |none=>exact absurd (List.getLast?_eq_none_iff.mp hl) hne
 |some l=>
  rw[hl]at h
  simp only at h
  cases hn:s.ns[l]? with
  |none=>rw[hn]at h;cases h
  |some n=>
   rw[hn]at h
   simp only at h
   split at h
   ·cases h1:takeB t 41 s with
    |none=>rw[h1]at h;cases h
    |some s1=>
     rw[h1]at h
     cases h
     obtain⟨rfl,hp⟩:=takeB_some h1
     have W2:=wf_mod (i:=l) (g:=fun n=>{n with beh:=s.pl+1}) (wf_place W hp) (fun _=>rfl) (fun _=>rfl) hp
     refine⟨⟨fun j hj=>W2.ar j (List.dropLast_subset _ hj),W2.n30,?_,W2.k12,W2.pl,W2.tl,W2.pr⟩,Nat.lt_succ_self _⟩
     show(s.ar.dropLast).length<=9
     rw[List.length_dropLast]
     have:=W.a9
     omega
   ·split at h
    ·cases h1:takeB t 32 s with
     |none=>rw[h1]at h;cases h
     |some s1=>
      rw[h1]at h
      simp only[Option.bind_some]at h
      obtain⟨rfl,hp⟩:=takeB_some h1
      obtain⟨w1,w2⟩:=wf_begin (wf_place W hp) h
      exact⟨w1,Nat.lt_of_succ_lt w2⟩
    ·exact wf_begin W h
theorem ann_head (sc:Scp) (d q:Nat) (e:Expr):∃r,ann sc d q e=⟨e,sc,d,q⟩::r:=by cases e<;>exact⟨_,rfl⟩
theorem mk_kids {k l:Nat} {x:Name} {ps:List Expr} {e:Expr} (h:mkE k l x ps=some e):kids e=ps/\kindOf e=k/\labelOf e=l:=by
 rcases mk_cases h with⟨a,rfl,z⟩|⟨a,b,rfl,z⟩|⟨a,b,c,rfl,z⟩
 ·rcases z with⟨rfl,rfl⟩|⟨rfl,rfl⟩|⟨rfl,rfl⟩|⟨rfl,rfl⟩|⟨rfl,rfl⟩<;>exact⟨rfl,rfl,rfl⟩
 ·rcases z with⟨rfl,rfl⟩|⟨rfl,rfl⟩|⟨rfl,rfl⟩|⟨rfl,rfl⟩|⟨rfl,rfl⟩<;>exact⟨rfl,rfl,rfl⟩
 ·obtain⟨rfl,rfl⟩:=z
  exact⟨rfl,rfl,rfl⟩
structure RowOk (t:Text) (L:List Ann) (l:Nat) (a:Ann):Prop where
 lab:labelOf a.e=l
 k12:kindOf a.e<=12
 len:(kids a.e).length=nparts (kindOf a.e)
 kid:∀(j:Nat) (e:Expr),(kids a.e)[j]?=some e->∃a',L[labelOf e]?=some a'/\(a'.sc=a.sc\/∃x,a'.sc=(x,l)::a.sc/\(kindOf a.e=2\/(kindOf a.e=4/\j=1)))
 bnd:∀b,bndOf a.sc a.e=some b->b∈a.sc.map (·.2)
 txt:∃r,t.drop a.pos=textOf a.e++r
theorem annL_split (t:Text) (L:List Ann) (k l:Nat) (x:Name) (sc:Scp) (d:Nat):∀(ps:List Expr) (q i m n':Nat),Rows L m (annL k l x sc d q i ps)->LabL ps m n'->(∃r,t.drop q=partsText k i ps++r) ->
  (∀(j:Nat) (p:Expr),ps[j]?=some p->∃q' m',Lab p m' (m'+sz p)/\Rows L m' (ann (scAt k l x sc (i+j)) (d+1) q' p)) /\
  (∀(u:Nat) (a:Ann),(annL k l x sc d q i ps)[u]?=some a->∃j p q' m' u',ps[j]?=some p/\Lab p m' (m'+sz p)/\Rows L m' (ann (scAt k l x sc (i+j)) (d+1) q' p)/\(∃r,t.drop q'=textOf p++r)/\(ann (scAt k l x sc (i+j)) (d+1) q' p)[u']?=some a/\m+u=m'+u')
 |[],q,i,m,n',_,_,_=>⟨fun j p h=>by simp at h,fun u a h=>by simp[annL]at h⟩
 |p::ps,q,i,m,n',hR,hL,hT=>by
  obtain⟨m1,h1,h2⟩:=hL
  have e1:=lab_next h1
  subst e1
  have hRl:=hR.left
  have hRr:=hR.right
  rw[ann_len]at hRr
  obtain⟨r,hT⟩:=hT
  have eo:(if k=3/\i=0 then[]else([32]:Text)).length=offB k i:=by unfold offB;split<;>rfl
  have t1:t.drop (q+offB k i)=textOf p++(partsText k (i+1) ps++r):=by
   rw[<-List.drop_drop,hT]
   simp only[partsText]
   rw[List.append_assoc,List.append_assoc,<-eo,List.drop_left]
  have t2:t.drop (q+offB k i+(textOf p).length)=partsText k (i+1) ps++r:=by
   rw[<-List.drop_drop,t1,List.drop_left]
  obtain⟨a1,a2⟩:=annL_split t L k l x sc d ps (q+offB k i+(textOf p).length) (i+1) (m+sz p) n' hRr h2 ⟨r,t2⟩
  refine⟨fun j e h=>?_,fun u a h=>?_⟩
  ·cases j with
   |zero=>
    cases h
    exact⟨_,m,h1,hRl⟩
   |succ j=>
    have:=a1 j e h
    rw[show i+1+j=i+(j+1) by omega]at this
    exact this
  ·have h:(ann (scAt k l x sc i) (d+1) (q+offB k i) p++annL k l x sc d (q+offB k i+(textOf p).length) (i+1) ps)[u]?=some a:=h
   by_cases hu:u<(ann (scAt k l x sc i) (d+1) (q+offB k i) p).length
   ·rw[List.getElem?_append_left hu]at h
    exact⟨0,p,_,m,u,rfl,h1,hRl,⟨_,t1⟩,h,rfl⟩
   ·rw[List.getElem?_append_right (by omega)]at h
    obtain⟨j,p',q',m',u',g1,g2,g3,g4,g5,g6⟩:=a2 _ a h
    rw[show i+1+j=i+(j+1) by omega]at g3 g5
    refine⟨j+1,p',q',m',u',g1,g2,g3,g4,g5,?_⟩
    rw[ann_len]at g6 hu
    omega
theorem sz_part {p:Expr} {ps:List Expr} {j:Nat} (h:ps[j]?=some p):sz p<=szL ps:=by
 unfold szL
 have hm:=List.mem_of_getElem? h
 clear h
 induction ps with
 |nil=>cases hm
 |cons a ps ih=>
  rw[List.map_cons,List.sum_cons]
  rcases List.mem_cons.mp hm with rfl|h
  ·omega
  ·have:=ih h
   omega
theorem rows_ok (t:Text) (L:List Ann):∀(N:Nat) (e:Expr),sz e<=N->∀(sc:Scp) (d q n:Nat),Lab e n (n+sz e)->Rows L n (ann sc d q e)->(∃r,t.drop q=textOf e++r)->∀(i:Nat) (a:Ann),(ann sc d q e)[i]?=some a->RowOk t L (n+i) a:=by
 intro N
 induction N with
 |zero=>intro e h;have:=sz_pos e;omega
 |succ N ih=>
  intro e hN sc d q n hL hR hT i a ha
  rcases unmk e with⟨l,v,rfl⟩|⟨l,x,rfl⟩|⟨k,l,x,ps,hm,k1,k2,_,hx⟩
  ·have ha:([⟨.num l v,sc,d,q⟩]:List Ann)[i]?=some a:=ha
   cases i with
   |zero=>
    cases ha
    exact⟨lab_head hL,by simp[kindOf],rfl,fun j e h=>by simp[kids]at h,fun b h=>by simp[bndOf]at h,hT⟩
   |succ i=>simp at ha
  ·have ha:([⟨.var l x,sc,d,q⟩]:List Ann)[i]?=some a:=ha
   cases i with
   |zero=>
    cases ha
    refine⟨lab_head hL,by simp[kindOf],rfl,fun j e h=>by simp[kids]at h,fun b h=>?_,hT⟩
    have h:(sc.find? fun z=>z.1==x).map (·.2)=some b:=h
    cases hf:sc.find? fun z=>z.1==x with
    |none=>rw[hf]at h;cases h
    |some z=>
     rw[hf]at h
     cases h
     exact List.mem_map.mpr ⟨z,List.mem_of_find?_eq_some hf,rfl⟩
   |succ i=>simp at ha
  ·obtain⟨kk,kk2,kk3⟩:=mk_kids hm
   obtain⟨e1,hLL⟩:=(mk_lab hm _ _).mp hL
   subst e1
   rw[mk_ann hm]at hR ha
   have hR2:=hR.tail
   obtain⟨r,hT⟩:=hT
   have hT2:∃r,t.drop (q+1+(headT k x).length)=partsText k 0 ps++r:=by
    refine⟨41::r,?_⟩
    rw[mk_text hm]at hT
    have h2:t.drop (q+1)=headT k x++(partsText k 0 ps++[41])++r:=by
     rw[<-List.drop_drop,hT]
     rfl
    rw[<-List.drop_drop,h2,List.append_assoc,List.drop_left,List.append_assoc]
    rfl
   obtain⟨s1,s2⟩:=annL_split t L k l x sc d ps _ 0 (l+1) _ hR2 hLL hT2
   cases i with
   |zero=>
    cases ha
    refine⟨kk3,by show kindOf e<=12;rw[kk2];exact k2,by show(kids e).length=nparts (kindOf e);rw[kk,kk2];exact mk_len hm,fun j p h=>?_,fun b h=>?_,⟨r,hT⟩⟩
    ·have h:(kids e)[j]?=some p:=h
     rw[kk]at h
     obtain⟨q',m',g1,g2⟩:=s1 j p h
     obtain⟨rr,hh⟩:=ann_head (scAt k l x sc (0+j)) (d+1) q' p
     rw[hh]at g2
     refine⟨_,by rw[lab_head g1];exact g2.head,?_⟩
     show scAt k l x sc (0+j)=sc\/∃y,scAt k l x sc (0+j)=(y,l+0)::sc/\(kindOf e=2\/(kindOf e=4/\j=1))
     rw[Nat.zero_add]
     unfold scAt
     split
     ·rename_i hc
      exact .inr ⟨x,rfl,by rw[kk2];exact hc⟩
     ·exact .inl rfl
    ·exfalso
     have h:bndOf sc e=some b:=h
     rcases mk_cases hm with⟨a,rfl,z⟩|⟨a,b,rfl,z⟩|⟨a,b,c,rfl,z⟩
     ·rcases z with⟨rfl,rfl⟩|⟨rfl,rfl⟩|⟨rfl,rfl⟩|⟨rfl,rfl⟩|⟨rfl,rfl⟩<;>cases h
     ·rcases z with⟨rfl,rfl⟩|⟨rfl,rfl⟩|⟨rfl,rfl⟩|⟨rfl,rfl⟩|⟨rfl,rfl⟩<;>cases h
     ·obtain⟨rfl,rfl⟩:=z
      cases h
   |succ i=>
    obtain⟨j,p,q',m',u',g1,g2,g3,g4,g5,g6⟩:=s2 i a ha
    have hs:=mk_sz hm
    have hp:=sz_part g1
    have:=ih p (by omega) _ _ _ m' g2 g3 g4 u' a g5
    rw[show l+(i+1)=m'+u' by omega]
    exact this
theorem rows_prg {p:Expr} (P:Prg p) (i:Nat) (a:Ann) (h:(ann [] 0 0 p)[i]?=some a):RowOk (textOf p) (ann [] 0 0 p) i a:=by
 have hL:Lab p 0 (0+sz p):=by
  have:=P.lab
  have e:=lab_next this
  rw[<-e]
  exact this
 have:=rows_ok (textOf p) (ann [] 0 0 p) (sz p) p (Nat.le_refl _) [] 0 0 0 hL (fun i a h=>by rw[Nat.zero_add];exact h) ⟨[],by simp⟩ i a h
 rw[Nat.zero_add]at this
 exact this
def nsOf (p:Expr):List RN:=(ann [] 0 0 p).map rnOf
theorem ns_len (p:Expr):(nsOf p).length=sz p:=by unfold nsOf;rw[List.length_map,ann_len]
def scN (p:Expr) (l:Nat):List Nat:=(((ann [] 0 0 p)[l]?).map fun a=>a.sc.map (·.2)).getD []
theorem tab_ok {p:Expr} (P:Prg p):TabOk (tabOf p) (sz p) (scN p):=by
 have at_:∀l,l<sz p->∃a,(ann [] 0 0 p)[l]?=some a/\tabOf p l=ndOf a/\scN p l=a.sc.map (·.2):=fun l hl=>by
  obtain⟨a,ha⟩:=some_at (l:=ann [] 0 0 p) (i:=l) (by rw[ann_len];exact hl)
  exact⟨a,ha,by unfold tabOf;rw[ha];rfl,by unfold scN;rw[ha];rfl⟩
 refine⟨fun l hl=>?_,fun l hl=>?_,fun l hl j k hk=>?_,fun l hl h1 b hb=>?_⟩
 ·obtain⟨a,ha,e1,e2⟩:=at_ l hl
  rw[e1]
  exact(rows_prg P l a ha).k12
 ·obtain⟨a,ha,e1,e2⟩:=at_ l hl
  rw[e1]
  show((kids a.e).map labelOf).length=nparts (kindOf a.e)
  rw[List.length_map]
  exact(rows_prg P l a ha).len
 ·obtain⟨a,ha,e1,e2⟩:=at_ l hl
  rw[e1]at hk
  have hk:((kids a.e).map labelOf)[j]?=some k:=hk
  rw[List.getElem?_map]at hk
  cases he:(kids a.e)[j]? with
  |none=>rw[he]at hk;cases hk
  |some e=>
   rw[he]at hk
   have hk:labelOf e=k:=Option.some.inj hk
   obtain⟨a',h1,h2⟩:=(rows_prg P l a ha).kid j e he
   rw[hk]at h1
   have hlt:k<sz p:=by rw[<-ann_len p [] 0 0];exact(List.getElem?_eq_some_iff.mp h1).1
   refine⟨hlt,fun z hz=>?_⟩
   have e3:scN p k=a'.sc.map (·.2):=by unfold scN;rw[h1];rfl
   rw[e3]at hz
   rw[e2,e1]
   rcases h2 with h2|⟨x,h2,h3⟩
   ·rw[h2]at hz
    exact .inl hz
   ·rw[h2]at hz
    rcases List.mem_cons.mp hz with rfl|hz
    ·exact .inr ⟨rfl,h3⟩
    ·exact .inl hz
 ·obtain⟨a,ha,e1,e2⟩:=at_ l hl
  rw[e1]at hb
  rw[e2]
  exact(rows_prg P l a ha).bnd b hb
theorem sc_zero (p:Expr):scN p 0=[]:=by
 unfold scN
 obtain⟨r,h⟩:=ann_head [] 0 0 p
 rw[h]
 rfl
theorem dep_le:∀(e:Expr) (sc:Scp) (d q:Nat),∀a∈ann sc d q e,a.dep<=d+deepOf e:=by
 intro e
 induction e<;>intro sc d q a ha<;>simp only[ann,List.mem_cons,List.mem_append,List.not_mem_nil,or_false]at ha<;>simp only[deepOf]
 case num=>subst ha;exact Nat.le_refl _
 case var=>subst ha;exact Nat.le_refl _
 case fn ih=>
  rcases ha with rfl|h
  ·exact Nat.le_add_right _ _
  ·have:=ih _ _ _ a h
   omega
 case app ih1 ih2=>
  rcases ha with rfl|h|h
  ·exact Nat.le_add_right _ _
  ·have:=ih1 _ _ _ a h
   omega
  ·have:=ih2 _ _ _ a h
   omega
 case letE ih1 ih2=>
  rcases ha with rfl|h|h
  ·exact Nat.le_add_right _ _
  ·have:=ih1 _ _ _ a h
   omega
  ·have:=ih2 _ _ _ a h
   omega
 case ifz ih1 ih2 ih3=>
  rcases ha with rfl|h|h|h
  ·exact Nat.le_add_right _ _
  ·have:=ih1 _ _ _ a h
   omega
  ·have:=ih2 _ _ _ a h
   omega
  ·have:=ih3 _ _ _ a h
   omega
 case pair ih1 ih2=>
  rcases ha with rfl|h|h
  ·exact Nat.le_add_right _ _
  ·have:=ih1 _ _ _ a h
   omega
  ·have:=ih2 _ _ _ a h
   omega
 case fst ih=>
  rcases ha with rfl|h
  ·exact Nat.le_add_right _ _
  ·have:=ih _ _ _ a h
   omega
 case snd ih=>
  rcases ha with rfl|h
  ·exact Nat.le_add_right _ _
  ·have:=ih _ _ _ a h
   omega
 case new ih=>
  rcases ha with rfl|h
  ·exact Nat.le_add_right _ _
  ·have:=ih _ _ _ a h
   omega
 case get ih=>
  rcases ha with rfl|h
  ·exact Nat.le_add_right _ _
  ·have:=ih _ _ _ a h
   omega
 case set ih1 ih2=>
  rcases ha with rfl|h|h
  ·exact Nat.le_add_right _ _
  ·have:=ih1 _ _ _ a h
   omega
  ·have:=ih2 _ _ _ a h
   omega
 case add ih1 ih2=>
  rcases ha with rfl|h|h
  ·exact Nat.le_add_right _ _
  ·have:=ih1 _ _ _ a h
   omega
  ·have:=ih2 _ _ _ a h
   omega
theorem dep_in:∀(e:Expr) (sc:Scp) (d q:Nat),∃a∈ann sc d q e,a.dep=d+deepOf e:=by
 intro e
 induction e<;>intro sc d q<;>simp only[ann,deepOf]
 case num=>exact⟨_,List.mem_singleton.mpr rfl,rfl⟩
 case var=>exact⟨_,List.mem_singleton.mpr rfl,rfl⟩
 case fn l x b ih=>obtain⟨a,h1,h2⟩:=ih ((x,l)::sc) (d+1) (q+6+x.length);exact⟨a,List.mem_cons_of_mem _ h1,by omega⟩
 case app l f g ih1 ih2=>
  by_cases h:deepOf f<=deepOf g
  ·obtain⟨a,h1,h2⟩:=ih2 sc (d+1) (q+2+(textOf f).length);exact⟨a,List.mem_cons_of_mem _ (List.mem_append_right _ h1),by omega⟩
  ·obtain⟨a,h1,h2⟩:=ih1 sc (d+1) (q+1);exact⟨a,List.mem_cons_of_mem _ (List.mem_append_left _ h1),by omega⟩
 case letE l x f g ih1 ih2=>
  by_cases h:deepOf f<=deepOf g
  ·obtain⟨a,h1,h2⟩:=ih2 ((x,l)::sc) (d+1) (q+7+x.length+(textOf f).length);exact⟨a,List.mem_cons_of_mem _ (List.mem_append_right _ h1),by omega⟩
  ·obtain⟨a,h1,h2⟩:=ih1 sc (d+1) (q+6+x.length);exact⟨a,List.mem_cons_of_mem _ (List.mem_append_left _ h1),by omega⟩
 case ifz l c f g ih1 ih2 ih3=>
  by_cases h:deepOf f<=deepOf c/\deepOf g<=deepOf c
  ·obtain⟨a,h1,h2⟩:=ih1 sc (d+1) (q+4);exact⟨a,List.mem_cons_of_mem _ (List.mem_append_left _ h1),by omega⟩
  ·by_cases h':deepOf f<=deepOf g
   ·obtain⟨a,h1,h2⟩:=ih3 sc (d+1) (q+6+(textOf c).length+(textOf f).length);exact⟨a,List.mem_cons_of_mem _ (List.mem_append_right _ (List.mem_append_right _ h1)),by omega⟩
   ·obtain⟨a,h1,h2⟩:=ih2 sc (d+1) (q+5+(textOf c).length);exact⟨a,List.mem_cons_of_mem _ (List.mem_append_right _ (List.mem_append_left _ h1)),by omega⟩
 case pair l f g ih1 ih2=>
  by_cases h:deepOf f<=deepOf g
  ·obtain⟨a,h1,h2⟩:=ih2 sc (d+1) (q+7+(textOf f).length);exact⟨a,List.mem_cons_of_mem _ (List.mem_append_right _ h1),by omega⟩
  ·obtain⟨a,h1,h2⟩:=ih1 sc (d+1) (q+6);exact⟨a,List.mem_cons_of_mem _ (List.mem_append_left _ h1),by omega⟩
 case fst l b ih=>obtain⟨a,h1,h2⟩:=ih sc (d+1) (q+5);exact⟨a,List.mem_cons_of_mem _ h1,by omega⟩
 case snd l b ih=>obtain⟨a,h1,h2⟩:=ih sc (d+1) (q+5);exact⟨a,List.mem_cons_of_mem _ h1,by omega⟩
 case new l b ih=>obtain⟨a,h1,h2⟩:=ih sc (d+1) (q+5);exact⟨a,List.mem_cons_of_mem _ h1,by omega⟩
 case get l b ih=>obtain⟨a,h1,h2⟩:=ih sc (d+1) (q+5);exact⟨a,List.mem_cons_of_mem _ h1,by omega⟩
 case set l f g ih1 ih2=>
  by_cases h:deepOf f<=deepOf g
  ·obtain⟨a,h1,h2⟩:=ih2 sc (d+1) (q+6+(textOf f).length);exact⟨a,List.mem_cons_of_mem _ (List.mem_append_right _ h1),by omega⟩
  ·obtain⟨a,h1,h2⟩:=ih1 sc (d+1) (q+5);exact⟨a,List.mem_cons_of_mem _ (List.mem_append_left _ h1),by omega⟩
 case add l f g ih1 ih2=>
  by_cases h:deepOf f<=deepOf g
  ·obtain⟨a,h1,h2⟩:=ih2 sc (d+1) (q+6+(textOf f).length);exact⟨a,List.mem_cons_of_mem _ (List.mem_append_right _ h1),by omega⟩
  ·obtain⟨a,h1,h2⟩:=ih1 sc (d+1) (q+5);exact⟨a,List.mem_cons_of_mem _ (List.mem_append_left _ h1),by omega⟩
def bOf (a:Ann):Option (Nat×Option Nat):=match a.e with
 |.var l x=>some (l,bndOf a.sc a.e)
 |_=>none
theorem binders_ann:∀(e:Expr) (sc:Scp) (d q:Nat),bindersIn sc e=(ann sc d q e).filterMap bOf:=by
 intro e
 induction e<;>intro sc d q<;>simp only[ann,bindersIn,List.filterMap_cons,List.filterMap_append,bOf,List.filterMap_nil]
 case var=>rfl
 case fn ih=>exact ih _ _ _
 case app ih1 ih2=>rw[<-ih1,<-ih2]
 case letE ih1 ih2=>rw[<-ih1,<-ih2]
 case ifz ih1 ih2 ih3=>rw[<-ih1,<-ih2,<-ih3]
 case pair ih1 ih2=>rw[<-ih1,<-ih2]
 case fst ih=>exact ih _ _ _
 case snd ih=>exact ih _ _ _
 case new ih=>exact ih _ _ _
 case get ih=>exact ih _ _ _
 case set ih1 ih2=>rw[<-ih1,<-ih2]
 case add ih1 ih2=>rw[<-ih1,<-ih2]
theorem find_fm (l:Nat):∀(M:List Ann) (m:Nat),(∀(i:Nat) (a:Ann),M[i]?=some a->labelOf a.e=m+i)->∀(i:Nat) (a:Ann),M[i]?=some a->m+i=l->(M.filterMap bOf).find? (fun z=>z.1==l)=bOf a:=by
 intro M
 induction M with
 |nil=>intro m _ i a h;simp at h
 |cons b M ih=>
  intro m hm i a ha hl
  have hb:=hm 0 b rfl
  have hM:∀(i:Nat) (a:Ann),M[i]?=some a->labelOf a.e=(m+1)+i:=fun i a h=>by
   have:=hm (i+1) a h
   omega
  have first:∀z,bOf b=some z->z.1=m:=fun z hz=>by
   unfold bOf at hz
   split at hz
   ·rename_i lb x he
    cases hz
    rw[he]at hb
    exact hb
   ·cases hz
  have none_of:∀(j:Nat),l<j->(∀(i:Nat) (a:Ann),M[i]?=some a->labelOf a.e=j+i)->(M.filterMap bOf).find? (fun z=>z.1==l)=none:=fun j hj hM=>by
   rw[List.find?_eq_none]
   intro z hz
   obtain⟨c,hc,hcz⟩:=List.mem_filterMap.mp hz
   obtain⟨i,hi⟩:=List.getElem?_of_mem hc
   have hlab:=hM i c hi
   unfold bOf at hcz
   split at hcz
   ·rename_i lb x he
    cases hcz
    rw[he]at hlab
    have hlab:lb=j+i:=hlab
    simp
    omega
   ·cases hcz
  rw[List.filterMap_cons]
  cases i with
  |zero=>
   have ha:b=a:=Option.some.inj ha
   subst ha
   have hlm:l=m:=by omega
   cases hb2:bOf b with
   |none=>exact none_of (m+1) (by omega) hM
   |some z=>
    simp only
    rw[List.find?_cons,first z hb2,hlm]
    simp
  |succ i=>
   have ha:M[i]?=some a:=ha
   have:=ih (m+1) hM i a ha (by omega)
   cases hb2:bOf b with
   |none=>exact this
   |some z=>
    simp only
    rw[List.find?_cons]
    have hz:=first z hb2
    have:(z.1==l)=false:=by
     rw[beq_eq_false_iff_ne]
     omega
    rw[this]
    simp only
    assumption
theorem binder_at {p:Expr} (P:Prg p) {l:Nat} {a:Ann} (h:(ann [] 0 0 p)[l]?=some a):binderOf p l=bndOf a.sc a.e:=by
 unfold binderOf bindersOf
 rw[binders_ann p [] 0 0,find_fm l (ann [] 0 0 p) 0 (fun i a h=>by rw[(rows_prg P i a h).lab];omega) l a h (by omega)]
 unfold bOf bndOf
 cases a.e<;>rfl
theorem labs_of {p:Expr} (P:Prg p) (k:Nat) (f:Expr->Bool) (hf:∀e,f e=decide (kindOf e=k)):((nodesOf p).filter f).map labelOf=(List.range (sz p)).filter fun i=>decide ((((nsOf p)[i]?).map (·.kind))=some k):=by
 have h:∀(M:List Ann) (m:Nat),(∀(i:Nat) (a:Ann),M[i]?=some a->labelOf a.e=m+i/\((nsOf p)[m+i]?).map (·.kind)=some (kindOf a.e))->((M.map (·.e)).filter f).map labelOf=(List.range' m M.length).filter fun i=>decide ((((nsOf p)[i]?).map (·.kind))=some k):=by
  intro M
  induction M with
  |nil=>intro m _;rfl
  |cons b M ih=>
   intro m hm
   have ihm:=ih (m+1) fun i a h=>by
    have:=hm (i+1) a h
    rw[show m+1+i=m+(i+1) by omega]
    exact this
   obtain⟨h1,h2⟩:=hm 0 b rfl
   rw[Nat.add_zero]at h1 h2
   rw[List.map_cons,List.filter_cons,List.length_cons,List.range'_succ,List.filter_cons,h2,hf]
   by_cases e:kindOf b.e=k
   ·simp only[e,decide_true,if_true,List.map_cons]
    rw[h1,ihm]
   ·simp only[e,decide_false,Bool.false_eq_true,if_false,Option.some.injEq]
    exact ihm
 rw[<-ann_nodes p [] 0 0,h (ann [] 0 0 p) 0 fun i a ha=>?_,ann_len,List.range_eq_range']
 refine⟨by rw[(rows_prg P i a ha).lab];omega,?_⟩
 unfold nsOf
 rw[Nat.zero_add,List.getElem?_map,ha]
 rfl
theorem funs_of {p:Expr} (P:Prg p):funsOf p=(List.range (sz p)).filter fun i=>decide ((((nsOf p)[i]?).map (·.kind))=some 2):=labs_of P 2 isFun fun e=>by cases e<;>rfl
theorem sites_of {p:Expr} (P:Prg p):sitesOf p=(List.range (sz p)).filter fun i=>decide ((((nsOf p)[i]?).map (·.kind))=some 3):=labs_of P 3 isApp fun e=>by cases e<;>rfl
inductive AskIs:List Int->Ask->Prop
 |program (n:Int) (t:Text) (h:t.length<=2000):AskIs (0::n::t.map fun b=>(b.toNat:Int)) (.program t)
 |show_:AskIs [1] .show_
 |input (x:Int):AskIs [2,x] (.input x)
 |run:AskIs [3] .run
 |arrows:AskIs [4] .arrows
 |calls (x:Int):AskIs [5,x] (.calls x)
 |values (x:Int):AskIs [6,x] (.values x)
 |flows (x:Int):AskIs [7,x] (.flows x)
 |node (x:Int):AskIs [8,x] (.node x)
 |funs:AskIs [9] .funs
 |sites:AskIs [10] .sites
 |heap:AskIs [11] .heap
 |size:AskIs [12] .size
def lenC (l:List Int):Int:=match l with
 |p::r=>if p=0 then 2+r.headD 0 else if p=2\/p=5\/p=6\/p=7\/p=8 then 2 else 1
 |[]=>0
theorem bytes_of {r:List Int} (h:r.all (PyInside.within 0 255)=true):NeutralIO.bytes r=true/\(r.map fun b=>UInt8.ofNat b.toNat).map (fun b=>(b.toNat:Int))=r:=by
 have hb:∀z∈r,0<=z/\z<=255:=fun z hz=>by
  have:=List.all_eq_true.mp h z hz
  unfold PyInside.within at this
  rw[Bool.and_eq_true,decide_eq_true_iff,decide_eq_true_iff]at this
  exact this
 refine⟨?_,?_⟩
 ·unfold NeutralIO.bytes
  rw[List.all_eq_true]
  intro z hz
  obtain⟨h1,h2⟩:=hb z hz
  simp
  omega
 ·rw[List.map_map]
  have:∀z∈r,((fun(b:UInt8)=>(b.toNat:Int))∘fun(b:Int)=>UInt8.ofNat b.toNat) z=z:=fun z hz=>by
   obtain⟨h1,h2⟩:=hb z hz
   show((UInt8.ofNat z.toNat).toNat:Int)=z
   rw[UInt8.toNat_ofNat']
   omega
  rw[List.map_congr_left this,List.map_id']
theorem call_split {p:Int} {r:List Int} {c:List (List Int)} {t:List Int} (h:PyFlat.call PyVacfaa.shape (p::r)=some (c,t)) (hb:PyInside.call PyVacfaa.bound c=true) :
  ∃(n:Nat) (k:Ask),0<n/\n<=(p::r).length/\t=(p::r).drop n/\AskIs ((p::r).take n) k/\VacfaaNeutral.callOf (PyVacfaa.whole c)=some k/\lenC (p::r)=n/\(p=0->∃y,r[0]?=some y):=by
 unfold PyFlat.call at h
 dsimp only at h
 have one:∀(q:Int) (k:Ask),p=q->q≠0->¬(q=2\/q=5\/q=6\/q=7\/q=8)->PyVacfaa.shape q=some (0,0)->AskIs [q] k->VacfaaNeutral.callOf (PyVacfaa.whole [[q]])=some k ->
   ∃(n:Nat) (k:Ask),0<n/\n<=(p::r).length/\t=(p::r).drop n/\AskIs ((p::r).take n) k/\VacfaaNeutral.callOf (PyVacfaa.whole c)=some k/\lenC (p::r)=n/\(p=0->∃y,r[0]?=some y):=by
  intro q k e h0 h2 hs ha hc
  subst e
  rw[hs]at h
  simp only[Nat.not_lt_zero,if_false,List.drop_zero,PyFlat.rows,List.take_zero]at h
  cases h
  exact⟨1,k,by decide,by simp,rfl,ha,hc,by simp[lenC,h0,h2],fun z=>absurd z h0⟩
 have two:∀(q:Int) (g:Int->Ask),p=q->q≠0->(q=2\/q=5\/q=6\/q=7\/q=8)->PyVacfaa.shape q=some (1,0)->(∀x,AskIs [q,x] (g x))->(∀x,VacfaaNeutral.callOf (PyVacfaa.whole [[q,x]])=some (g x)) ->
   ∃(n:Nat) (k:Ask),0<n/\n<=(p::r).length/\t=(p::r).drop n/\AskIs ((p::r).take n) k/\VacfaaNeutral.callOf (PyVacfaa.whole c)=some k/\lenC (p::r)=n/\(p=0->∃y,r[0]?=some y):=by
  intro q g e h0 h2 hs ha hc
  subst e
  rw[hs]at h
  simp only at h
  cases r with
  |nil=>simp at h
  |cons x r=>
   rw[if_neg (by simp)]at h
   simp only[List.drop_succ_cons,List.drop_zero,PyFlat.rows,List.take_succ_cons,List.take_zero]at h
   cases h
   exact⟨2,g x,by decide,by simp,rfl,ha x,hc x,by simp[lenC,h0,h2],fun z=>absurd z h0⟩
 by_cases e0:p=0
 ·subst e0
  have hs:PyVacfaa.shape 0=some (0,1):=rfl
  rw[hs]at h
  simp only[Nat.not_lt_zero,if_false,List.drop_zero,List.take_zero]at h
  cases r with
  |nil=>simp[PyFlat.rows,PyFlat.row]at h
  |cons x r=>
   unfold PyFlat.rows PyFlat.row at h
   dsimp only at h
   by_cases hx:0<=x/\x.toNat<=r.length
   ·rw[if_pos hx]at h
    simp only[PyFlat.rows]at h
    cases h
    have hb2:(r.take x.toNat).length<=2000/\(r.take x.toNat).all (PyInside.within 0 255)=true:=by
     have hb:(PyInside.each [] []&&(decide (0<=(r.take x.toNat).length)&&decide ((r.take x.toNat).length<=2000)&&(r.take x.toNat).all (PyInside.within 0 255)&&PyInside.lists [] []))=true:=hb
     simp only[Bool.and_eq_true,decide_eq_true_eq]at hb
     exact⟨hb.2.1.1.2,hb.2.1.2⟩
    obtain⟨b1,b2⟩:=bytes_of hb2.2
    refine⟨2+x.toNat,.program ((r.take x.toNat).map fun b=>UInt8.ofNat b.toNat),by omega,by simp;omega,?_,?_,?_,?_,fun _=>⟨x,rfl⟩⟩
    ·rw[show 2+x.toNat=x.toNat+1+1 by omega]
     rfl
    ·have:=AskIs.program x ((r.take x.toNat).map fun b=>UInt8.ofNat b.toNat) (by rw[List.length_map];exact hb2.1)
     rw[b2]at this
     rw[show 2+x.toNat=x.toNat+1+1 by omega]
     exact this
    ·show(VacfaaNeutral.text? (r.take x.toNat)).map Ask.program=_
     unfold VacfaaNeutral.text?
     rw[if_pos b1]
     rfl
    ·have e:lenC (0::x::r)=2+x:=rfl
     rw[e]
     omega
   ·rw[if_neg hx]at h
    cases h
 by_cases e1:p=1
 ·exact one 1 .show_ e1 (by decide) (by decide) rfl .show_ rfl
 by_cases e2:p=2
 ·exact two 2 .input e2 (by decide) (by decide) rfl .input fun _=>rfl
 by_cases e3:p=3
 ·exact one 3 .run e3 (by decide) (by decide) rfl .run rfl
 by_cases e4:p=4
 ·exact one 4 .arrows e4 (by decide) (by decide) rfl .arrows rfl
 by_cases e5:p=5
 ·exact two 5 .calls e5 (by decide) (by decide) rfl .calls fun _=>rfl
 by_cases e6:p=6
 ·exact two 6 .values e6 (by decide) (by decide) rfl .values fun _=>rfl
 by_cases e7:p=7
 ·exact two 7 .flows e7 (by decide) (by decide) rfl .flows fun _=>rfl
 by_cases e8:p=8
 ·exact two 8 .node e8 (by decide) (by decide) rfl .node fun _=>rfl
 by_cases e9:p=9
 ·exact one 9 .funs e9 (by decide) (by decide) rfl .funs rfl
 by_cases e10:p=10
 ·exact one 10 .sites e10 (by decide) (by decide) rfl .sites rfl
 by_cases e11:p=11
 ·exact one 11 .heap e11 (by decide) (by decide) rfl .heap rfl
 by_cases e12:p=12
 ·exact one 12 .size e12 (by decide) (by decide) rfl .size rfl
 exfalso
 have:PyVacfaa.shape p=none:=by
  unfold PyVacfaa.shape
  simp[e0,e1,e2,e3,e4,e5,e6,e7,e8,e9,e10,e11,e12]
 rw[this]at h
 cases h
theorem calls_split {f:Nat} {p:Int} {r:List Int} {cs:List (List (List Int))} (h:PyFlat.calls PyVacfaa.shape f (p::r)=some cs):∃f' c t rest,cs=c::rest/\PyFlat.call PyVacfaa.shape (p::r)=some (c,t)/\PyFlat.calls PyVacfaa.shape f' t=some rest:=by
 cases f with
 |zero=>simp[PyFlat.calls]at h
 |succ f=>
  unfold PyFlat.calls at h
  cases hc:PyFlat.call PyVacfaa.shape (p::r)with
  |none=>rw[hc]at h;cases h
  |some z=>
   obtain⟨c,t⟩:=z
   rw[hc]at h
   simp only at h
   cases hr:PyFlat.calls PyVacfaa.shape f t with
   |none=>rw[hr]at h;cases h
   |some rest=>
    rw[hr]at h
    cases h
    exact⟨f,c,t,rest,rfl,rfl,hr⟩
end Mth
end
section
namespace Fv
open PySem PySem.Spec PyProof.Rows L2
def InsAt (C:Addr) (H:Hp) (a:Addr) (fs:List (Str×V)):Prop:=∃dx,H a=some (.ins C dx fs)
theorem InsAt.same {C:Addr} {H H':Hp} {a:Addr} {fs:List (Str×V)} (h:InsAt C H a fs) (s:Same H H'):InsAt C H' a fs:=let⟨dx,e⟩:=h;⟨dx,s _ _ e⟩
def But (p:Addr) (H H':Hp):Prop:=∀b o,H b=some o->b≠p->H' b=some o
theorem But.refl {p:Addr} {H:Hp}:But p H H:=fun _ _ e _=>e
theorem But.trans {p:Addr} {H H1 H2:Hp} (h:But p H H1) (k:But p H1 H2):But p H H2:=fun b o e n=>k b o (h b o e n) n
theorem But.put {p:Addr} {H:Hp} {o:HO}:But p H (upd H p o):=fun b u e n=>by rw[upd_ne n];exact e
theorem But.new {p q:Addr} {H:Hp} {o:HO} (h:H q=none):But p H (upd H q o):=fun b u e _=>by rw[upd_ne (ne_of_none e h)];exact e
theorem same_refl {H:Hp}:Same H H:=fun _ _ e=>e
theorem same_new {q:Addr} {H:Hp} {o:HO} (h:H q=none):Same H (upd H q o):=fun b u e=>by rw[upd_ne (ne_of_none e h)];exact e
theorem But.made {H H1:Hp} {x dx C:Addr} (nx:H x=none) (nd:H dx=none) (k:But x (upd (upd H dx (.own x)) x (.ins C dx [])) H1):Same H H1:=Same.made nx nd k
def fNd (k d b e n:Int) (x:Str) (bi:Int) (lp:Addr):List (Str×V):=[("kind",.int k),("depth",.int d),("begin",.int b),("behind",.int e),("number",.int n),("name",.str x),("binder",.int bi),("parts",.ref lp)]
def fFn (l b:V):List (Str×V):=[("label",l),("bound",b)]
def fPr (l x y:V):List (Str×V):=[("label",l),("first",x),("second",y)]
def fRf (l x:V):List (Str×V):=[("label",l),("inside",x)]
def fVs (l s b:V) (lr:Addr):List (Str×V):=[("label",l),("string",s),("bound",b),("results",.ref lr)]
def fRn (ln:V) (g st:Int) (lv dc df lm le:Addr):List (Str×V):=[("nodes",ln),("given",.int g),("steps",.int st),("visits",.ref lv),("calls",.ref dc),("flows",.ref df),("made",.ref lm),("ending",.ref le)]
def fRd (lt:Addr) (pl:Int) (ln la:Addr):List (Str×V):=[("text",.ref lt),("place",.int pl),("nodes",.ref ln),("around",.ref la)]
def fDk (lt ln:Addr) (g:Int):List (Str×V):=[("text",.ref lt),("nodes",.ref ln),("given",.int g)]
@[irreducible] def tF (K:PySem.W.Frag) (ta:TE) (f:Str):TE:=tFld K ta f
theorem pf {X:Cx} {e:Expr} {ta:TE} {f:Str} {pos:Pos} (he:PE X e ta) (hb:attributeBase e f X.env (eval e X.env)=eval e X.env:=by rfl):PE X (.Attribute e f pos) (tF X.K ta f):=by
 unfold tF
 exact pe_fld he hb
section
variable {K:PySem.W.Frag} {σ:L2.St} {H:Hp} {i:Nat} {p C:Addr} {fs:List (Str×V)} {f:Str} {v:V}
theorem rdF {Q:VK} (hσ:σ[i]?=some (some (.ref p))) (h:InsAt C H p fs) (c:Cls K C) (n:NoAttr K C f) (l:fs.lookup f=some v) (q:Q v H):tF K (tVar i) f σ H Q:=by
 unfold tF
 obtain⟨dx,e⟩:=h
 exact⟨_,hσ,p,C,dx,fs,v,rfl,e,c,n,l,q⟩
theorem rdU {te:TE} {Q:VK} (h:tFld K te f σ H Q):tF K te f σ H Q:=by
 unfold tF
 exact h
theorem rdEq {n m:Int} {Q:Bool->Hp->Prop} (hσ:σ[i]?=some (some (.ref p))) (h:InsAt C H p fs) (c:Cls K C) (na:NoAttr K C f) (l:fs.lookup f=some (.int n)) (q:Q (decide (n=m)) H) :
  tTest (tOp rEq (tF K (tVar i) f) (tC (.int m))) σ H Q:=by
 unfold tTest tOp
 refine rdF hσ h c na l ?_
 refine⟨rfl,_,rfl,?_⟩
 have e:decide (V.int n=V.int m)=decide (n=m):=by simp
 rw[e]
 exact q
theorem rdNe {n m:Int} {Q:Bool->Hp->Prop} (hσ:σ[i]?=some (some (.ref p))) (h:InsAt C H p fs) (c:Cls K C) (na:NoAttr K C f) (l:fs.lookup f=some (.int n)) (q:Q (!decide (n=m)) H) :
  tTest (tOp rNe (tF K (tVar i) f) (tC (.int m))) σ H Q:=by
 unfold tTest tOp
 refine rdF hσ h c na l ?_
 refine⟨rfl,_,rfl,?_⟩
 have e:decide (V.int n=V.int m)=decide (n=m):=by simp
 rw[e]
 exact q
theorem ifEq {n m:Int} {t u:TS} {D:Ends} (hσ:σ[i]?=some (some (.ref p))) (h:InsAt C H p fs) (c:Cls K C) (na:NoAttr K C f) (l:fs.lookup f=some (.int n)) (q1:n=m->t D σ H) (q2:n≠m->u D σ H) :
  tIfS (tTest (tOp rEq (tF K (tVar i) f) (tC (.int m)))) t u D σ H:=by
 refine rdEq hσ h c na l ?_
 by_cases e:n=m
 ·simp only[e,decide_true,if_true];exact q1 e
 ·simp only[e,decide_false,Bool.false_eq_true,if_false];exact q2 e
end
section
variable {P:Program} {w:World} {K:PySem.W.Frag} {mg:Str->Option Value} {base:Heap} {A:Ad}
def spIni (C:Addr) (fs:List V->Option (List (Str×V))):Sp:=fun vs H Q _=>∃p dx as r,vs=.ref p::as/\fs as=some r/\H p=some (.ins C dx [])/\∀H',InsAt C H' p r->But p H H'->Q .non H'
def iFn:List V->Option (List (Str×V)):=fun vs=>match vs with
 |[l,b]=>some (fFn l b)
 |_=>none
def iPr:List V->Option (List (Str×V)):=fun vs=>match vs with
 |[l,x,y]=>some (fPr l x y)
 |_=>none
def iRf:List V->Option (List (Str×V)):=fun vs=>match vs with
 |[l,x]=>some (fRf l x)
 |_=>none
theorem iFn_of {as:List V} {r:List (Str×V)} (h:iFn as=some r):∃l b,as=[l,b]/\r=fFn l b:=by
 unfold iFn at h
 split at h
 ·cases h;exact⟨_,_,rfl,rfl⟩
 ·cases h
theorem iPr_of {as:List V} {r:List (Str×V)} (h:iPr as=some r):∃l x y,as=[l,x,y]/\r=fPr l x y:=by
 unfold iPr at h
 split at h
 ·cases h;exact⟨_,_,_,rfl,rfl⟩
 ·cases h
theorem iRf_of {as:List V} {r:List (Str×V)} (h:iRf as=some r):∃l x,as=[l,x]/\r=fRf l x:=by
 unfold iRf at h
 split at h
 ·cases h;exact⟨_,_,rfl,rfl⟩
 ·cases h
theorem scFn:FnScope ["self","label","bound"] ["self","label","bound"] (defScope (inClass (top 28) 0)):=⟨rfl,rfl,rfl,by decide +kernel,rfl,by decide +kernel,by decide +kernel⟩
theorem ok_Fn {f:Addr} {fd:FuncData} (T:Txt K w mg A) (F:Fun K "__init__" "Function.__init__" (inClass (top 28) 0) f fd):FnOk P w K mg base CX0 1 f fd ["self","label","bound"] (spIni A.cFn iFn):=by
 refine F.ok scFn (fun vs H Q E h=>?_) (fun cdv AA outer s H vs Q E hr h=>?_)
 ·obtain⟨p,dx,as,r,rfl,e,_⟩:=h
  obtain⟨l,b,rfl,rfl⟩:=iFn_of e
  rfl
 ·obtain⟨p,dx,as,r,rfl,e,hp,k⟩:=h
  obtain⟨l,b,rfl,rfl⟩:=iFn_of e
  refine⟨_,pss_cons (ps_fld (pv 0) (pv 1) rfl) (pss_one (ps_fld (pv 0) (pv 2) rfl)),?_⟩
  refine⟨_,rfl,_,rfl,p,_,dx,[],rfl,hp,T.kFn,T.nFn,by decide,?_⟩
  refine⟨_,rfl,_,rfl,p,_,dx,_,rfl,upd_same,T.kFn,T.nFn,(by show 1<1000;decide),?_⟩
  rw[upd_upd]
  exact k _ ⟨dx,upd_same⟩ But.put
theorem scPr:FnScope ["self","label","first","second"] ["self","label","first","second"] (defScope (inClass (top 29) 0)):=⟨rfl,rfl,rfl,by decide +kernel,rfl,by decide +kernel,by decide +kernel⟩
theorem ok_Pr {f:Addr} {fd:FuncData} (T:Txt K w mg A) (F:Fun K "__init__" "Pair.__init__" (inClass (top 29) 0) f fd):FnOk P w K mg base CX0 1 f fd ["self","label","first","second"] (spIni A.cPr iPr):=by
 refine F.ok scPr (fun vs H Q E h=>?_) (fun cdv AA outer s H vs Q E hr h=>?_)
 ·obtain⟨p,dx,as,r,rfl,e,_⟩:=h
  obtain⟨l,x,y,rfl,rfl⟩:=iPr_of e
  rfl
 ·obtain⟨p,dx,as,r,rfl,e,hp,k⟩:=h
  obtain⟨l,x,y,rfl,rfl⟩:=iPr_of e
  refine⟨_,pss_cons (ps_fld (pv 0) (pv 1) rfl) (pss_cons (ps_fld (pv 0) (pv 2) rfl) (pss_one (ps_fld (pv 0) (pv 3) rfl))),?_⟩
  refine⟨_,rfl,_,rfl,p,_,dx,[],rfl,hp,T.kPr,T.nPr,by decide,?_⟩
  refine⟨_,rfl,_,rfl,p,_,dx,_,rfl,upd_same,T.kPr,T.nPr,(by show 1<1000;decide),?_⟩
  refine⟨_,rfl,_,rfl,p,_,dx,_,rfl,upd_same,T.kPr,T.nPr,(by show 2<1000;decide),?_⟩
  rw[upd_upd,upd_upd]
  exact k _ ⟨dx,upd_same⟩ But.put
theorem scRf:FnScope ["self","label","inside"] ["self","label","inside"] (defScope (inClass (top 30) 0)):=⟨rfl,rfl,rfl,by decide +kernel,rfl,by decide +kernel,by decide +kernel⟩
theorem ok_Rf {f:Addr} {fd:FuncData} (T:Txt K w mg A) (F:Fun K "__init__" "Reference.__init__" (inClass (top 30) 0) f fd):FnOk P w K mg base CX0 1 f fd ["self","label","inside"] (spIni A.cRf iRf):=by
 refine F.ok scRf (fun vs H Q E h=>?_) (fun cdv AA outer s H vs Q E hr h=>?_)
 ·obtain⟨p,dx,as,r,rfl,e,_⟩:=h
  obtain⟨l,x,rfl,rfl⟩:=iRf_of e
  rfl
 ·obtain⟨p,dx,as,r,rfl,e,hp,k⟩:=h
  obtain⟨l,x,rfl,rfl⟩:=iRf_of e
  refine⟨_,pss_cons (ps_fld (pv 0) (pv 1) rfl) (pss_one (ps_fld (pv 0) (pv 2) rfl)),?_⟩
  refine⟨_,rfl,_,rfl,p,_,dx,[],rfl,hp,T.kRf,T.nRf,by decide,?_⟩
  refine⟨_,rfl,_,rfl,p,_,dx,_,rfl,upd_same,T.kRf,T.nRf,(by show 1<1000;decide),?_⟩
  rw[upd_upd]
  exact k _ ⟨dx,upd_same⟩ But.put
end
inductive ValAt (A:Ad) (H:Hp):V->Nat->Int->Prop
 |num (i:Int):ValAt A H (.int i) 0 0
 |clo {a:Addr} {l:Int} {b:V} (h:InsAt A.cFn H a (fFn (.int l) b)):ValAt A H (.ref a) 1 l
 |pair {a:Addr} {l:Int} {x y:V} (h:InsAt A.cPr H a (fPr (.int l) x y)):ValAt A H (.ref a) 2 l
 |ref {a:Addr} {l:Int} {x:V} (h:InsAt A.cRf H a (fRf (.int l) x)):ValAt A H (.ref a) 3 l
theorem ValAt.same {A:Ad} {H H':Hp} {x:V} {k:Nat} {l:Int} (h:ValAt A H x k l) (s:Same H H'):ValAt A H' x k l:=by
 cases h with
 |num i=>exact .num i
 |clo h=>exact .clo (h.same s)
 |pair h=>exact .pair (h.same s)
 |ref h=>exact .ref (h.same s)
theorem ValAt.lt {A:Ad} {H:Hp} {x:V} {k:Nat} {l:Int} (h:ValAt A H x k l):k<4:=by cases h<;>decide
section
variable {K:PySem.W.Frag} {w:World} {mg:Str->Option Value} {A:Ad}
theorem tyOf_ins (T:Txt K w mg A) {C:Addr} {H:Hp} {a:Addr} {fs:List (Str×V)} (hC:C∈[A.cFn,A.cPr,A.cRf]) (h:InsAt C H a fs):TyOf K H (.ref a) (.ref C):=by
 obtain⟨dx,e⟩:=h
 have o:=T.own C hC
 refine .ins e (T.cl C ?_) o.ha T.ocg T.oct o.hm
 simp only[List.mem_cons,List.not_mem_nil,or_false]at hC
 rcases hC with rfl|rfl|rfl<;>simp[Ad.cls]
theorem ValAt.ty (T:Txt K w mg A) {H:Hp} {x:V} {k:Nat} {l:Int} (h:ValAt A H x k l):TyOf K H x (tyA A k):=by
 cases h with
 |num i=>exact .int i
 |clo h=>exact tyOf_ins T (by simp) h
 |pair h=>exact tyOf_ins T (by simp) h
 |ref h=>exact tyOf_ins T (by simp) h
end
section
variable {X:Cx} {A:Ad}
def vA (A:Ad):Nat->V
 |0=>.ty "int"
 |1=>.ref A.cFn
 |2=>.ref A.cPr
 |_=>.ref A.cRf
def rIsi (A:Ad) (j:Nat):List V->Hp->VK->Prop:=fun xs H Q=>∃x k l,xs=[x,vA A j]/\ValAt A H x k l/\Q (.bl (decide (k=j))) H
theorem call_isi (T:Txt X.K X.w X.mg A) {j:Nat} (hj:j<4):CallR X (.builtin "isinstance") (rIsi A j):=by
 intro pins s σ H xs us Q I r ⟨x,k,l,ex,hv,q⟩
 refine call_isinst pins s σ H xs us Q I r ⟨x,vA A j,tyA A j,tyA A k,_,ex,?_,hv.ty T,T.kit k j hv.lt hj,q⟩
 match j with
 |0=>exact .inr ⟨_,rfl,rfl⟩
 |1=>exact .inl ⟨_,rfl,rfl⟩
 |2=>exact .inl ⟨_,rfl,rfl⟩
 |_+3=>exact .inl ⟨_,rfl,rfl⟩
theorem boot_isinst:bootBuiltins "isinstance"=some (.builtin "isinstance"):=by decide +kernel
theorem boot_intT:bootBuiltins "int"=some (.type "int"):=by decide +kernel
variable {e:Expr} {te:TE} {p q pos:Pos}
theorem pe_isFn (T:Txt X.K X.w X.mg A) (he:PE X e te) (hg:Gl X "isinstance":=by rfl) (hg2:Gl X "Function":=by rfl) (hs:starEach [e,.Name "Function" q] X.env=(false,eval e X.env)::starEach [.Name "Function" q] X.env:=by rfl) (hb:(backTo pos (starEach [.Name "Function" q] X.env)).any (·.1)=false:=by rfl) :
  PE X (.Call (.Name "isinstance" p) [e,.Name "Function" q] [] pos) (tCB (rIsi A 1) (tCons te (tCons (tC (vA A 1)) tNil))):=
 pe_callB (call_isi T (by decide)) hg (T.bl "isinstance") boot_isinst (pa_cons he (pa_cons (pe_glob hg2 T.mcl.1 rfl) pa_nil) hs) (by decide) (by decide) hs hb
theorem pe_isPr (T:Txt X.K X.w X.mg A) (he:PE X e te) (hg:Gl X "isinstance":=by rfl) (hg2:Gl X "Pair":=by rfl) (hs:starEach [e,.Name "Pair" q] X.env=(false,eval e X.env)::starEach [.Name "Pair" q] X.env:=by rfl) (hb:(backTo pos (starEach [.Name "Pair" q] X.env)).any (·.1)=false:=by rfl) :
  PE X (.Call (.Name "isinstance" p) [e,.Name "Pair" q] [] pos) (tCB (rIsi A 2) (tCons te (tCons (tC (vA A 2)) tNil))):=
 pe_callB (call_isi T (by decide)) hg (T.bl "isinstance") boot_isinst (pa_cons he (pa_cons (pe_glob hg2 T.mcl.2.1 rfl) pa_nil) hs) (by decide) (by decide) hs hb
theorem pe_isRf (T:Txt X.K X.w X.mg A) (he:PE X e te) (hg:Gl X "isinstance":=by rfl) (hg2:Gl X "Reference":=by rfl) (hs:starEach [e,.Name "Reference" q] X.env=(false,eval e X.env)::starEach [.Name "Reference" q] X.env:=by rfl) (hb:(backTo pos (starEach [.Name "Reference" q] X.env)).any (·.1)=false:=by rfl) :
  PE X (.Call (.Name "isinstance" p) [e,.Name "Reference" q] [] pos) (tCB (rIsi A 3) (tCons te (tCons (tC (vA A 3)) tNil))):=
 pe_callB (call_isi T (by decide)) hg (T.bl "isinstance") boot_isinst (pa_cons he (pa_cons (pe_glob hg2 T.mcl.2.2 rfl) pa_nil) hs) (by decide) (by decide) hs hb
theorem pe_isInt (T:Txt X.K X.w X.mg A) (he:PE X e te) (hg:Gl X "isinstance":=by rfl) (hg2:Gl X "int":=by rfl) (hs:starEach [e,.Name "int" q] X.env=(false,eval e X.env)::starEach [.Name "int" q] X.env:=by rfl) (hb:(backTo pos (starEach [.Name "int" q] X.env)).any (·.1)=false:=by rfl) :
  PE X (.Call (.Name "isinstance" p) [e,.Name "int" q] [] pos) (tCB (rIsi A 0) (tCons te (tCons (tC (vA A 0)) tNil))):=
 pe_callB (call_isi T (by decide)) hg (T.bl "isinstance") boot_isinst (pa_cons he (pa_cons (pe_bltn hg2 (T.bl "int") boot_intT rfl) pa_nil) hs) (by decide) (by decide) hs hb
end
section
variable {P:Program} {w:World} {K:PySem.W.Frag} {mg:Str->Option Value} {base:Heap} {A:Ad}
def spWhat (A:Ad):Sp:=fun vs H Q _=>∃x k l,vs=[x]/\ValAt A H x k l/\∀t,H t=none->Q (.ref t) (upd H t (.tup [.int k,.int l]))
theorem scWhat:FnScope ["value"] ["value"] (defScope (top 34)):=⟨rfl,rfl,rfl,by decide +kernel,rfl,by decide +kernel,by decide +kernel⟩
theorem ifIs {σ:L2.St} {H:Hp} {i j:Nat} {x:V} {k:Nat} {l:Int} {t u:TS} {D:Ends} (hσ:σ[i]?=some (some x)) (hv:ValAt A H x k l) (q1:k=j->t D σ H) (q2:k≠j->u D σ H) :
  tIfS (tB (tCB (rIsi A j) (tCons (tVar i) (tCons (tC (vA A j)) tNil)))) t u D σ H:=by
 refine⟨x,hσ,x,k,l,rfl,hv,_,rfl,?_⟩
 by_cases e:k=j
 ·simp only[e,decide_true,if_true];exact q1 e
 ·simp only[e,decide_false,Bool.false_eq_true,if_false];exact q2 e
theorem ok_what {f:Addr} {fd:FuncData} (T:Txt K w mg A) (F:Fun K "what_is" "what_is" (top 34) f fd):FnOk P w K mg base CX0 1 f fd ["value"] (spWhat A):=by
 refine F.ok scWhat (fun vs H Q E h=>?_) (fun cdv AA outer s H vs Q E hr h=>?_)
 ·obtain⟨x,k,l,rfl,_⟩:=h
  rfl
 ·obtain⟨x,k,l,rfl,hv,q⟩:=h
  refine⟨_,pss_cons (ps_if (pt_val (pe_isFn T (pv 0))) (pss_one (ps_ret (pe_tup (pa_cons pe_int (pa_cons (pf (pv 0)) pa_nil))))) pss_nil)
   (pss_cons (ps_if (pt_val (pe_isPr T (pv 0))) (pss_one (ps_ret (pe_tup (pa_cons pe_int (pa_cons (pf (pv 0)) pa_nil))))) pss_nil)
   (pss_cons (ps_if (pt_val (pe_isRf T (pv 0))) (pss_one (ps_ret (pe_tup (pa_cons pe_int (pa_cons (pf (pv 0)) pa_nil))))) pss_nil)
   (pss_one (ps_ret (pe_tup (pa_cons pe_int (pa_cons pe_int pa_nil))))))),?_⟩
  refine ifIs rfl hv (fun e=>?_) fun e1=>?_
  ·cases hv with
   |clo h=>exact rdF rfl h T.kFn T.nFn rfl ⟨(by show 2<=sizeLine;decide),fun t ht=>q t ht⟩
   |num=>cases e
   |pair=>cases e
   |ref=>cases e
  refine ifIs rfl hv (fun e=>?_) fun e2=>?_
  ·cases hv with
   |pair h=>exact rdF rfl h T.kPr T.nPr rfl ⟨(by show 2<=sizeLine;decide),fun t ht=>q t ht⟩
   |num=>cases e
   |clo=>cases e
   |ref=>cases e
  refine ifIs rfl hv (fun e=>?_) fun e3=>?_
  ·cases hv with
   |ref h=>exact rdF rfl h T.kRf T.nRf rfl ⟨(by show 2<=sizeLine;decide),fun t ht=>q t ht⟩
   |num=>cases e
   |pair=>cases e
   |clo=>cases e
  cases hv with
  |num i=>exact⟨by decide,fun t ht=>q t ht⟩
  |clo=>exact absurd rfl e1
  |pair=>exact absurd rfl e2
  |ref=>exact absurd rfl e3
theorem bt_dict:bootBuiltins "dict"=some (.type "dict"):=by decide +kernel
theorem bt_list:bootBuiltins "list"=some (.type "list"):=by decide +kernel
theorem bt_len:bootBuiltins "len"=some (.builtin "len"):=by decide +kernel
def spBind:Sp:=fun vs H Q _=>∃d b x kvs,vs=[.ref d,.int b,x]/\H d=some (.dK kvs)/\kvs.length<sizeLine/\∀p,H p=none->Q (.ref p) (upd H p (.dK (putK kvs (.inl b) x)))
theorem scBind:FnScope ["bound","binder","value","longer"] ["bound","binder","value"] (defScope (top 35)):=⟨rfl,rfl,rfl,by decide +kernel,rfl,by decide +kernel,by decide +kernel⟩
theorem ok_bind {f:Addr} {fd:FuncData} (T:Txt K w mg A) (F:Fun K "bind" "bind" (top 35) f fd):FnOk P w K mg base CX0 1 f fd ["bound","binder","value"] spBind:=by
 refine F.ok scBind (fun vs H Q E h=>?_) (fun cdv AA outer s H vs Q E hr h=>?_)
 ·obtain⟨d,b,x,kvs,rfl,_⟩:=h
  rfl
 ·obtain⟨d,b,x,kvs,rfl,hd,hl,q⟩:=h
  refine⟨_,pss_cons (ps_set (i:=3) scBind.nd rfl (Or.inl rfl) (pe_callTy call_dictC (by rfl) (T.bl "dict") bt_dict (pa_cons (pv 0) pa_nil)))
   (pss_cons (ps_dput (hu_of hr) (pv 3) (pv 1) (pv 2) rfl) (pss_one (ps_ret (pv 3)))),?_⟩
  refine⟨_,rfl,d,kvs,rfl,hd,fun p hp=>?_⟩
  refine⟨_,rfl,_,rfl,_,rfl,p,_,rfl,DPut.k (k:=Sum.inl b) upd_same hl,?_⟩
  refine⟨_,rfl,?_⟩
  rw[upd_upd]
  exact q p hp
def spLong:Sp:=fun vs H Q _=>∃(s:Int) (t:Addr) (c:List Int),vs=[.int s,.ref t]/\H t=some (.tup (c.map V.int))/\c.length<=3/\∀H' p,H' p=some (.tup (((s::c).take 3).map V.int))->Same H H'->Q (.ref p) H'
theorem scLong:FnScope ["site","string","longer"] ["site","string"] (defScope (top 36)):=⟨rfl,rfl,rfl,by decide +kernel,rfl,by decide +kernel,by decide +kernel⟩
theorem cut3 (c:List Int):cutV (c.map V.int) none (some 3)=(c.take 3).map V.int:=by
 unfold cutV
 have e:(HT.sIx (c.map V.int).length (c.map V.int).length (some (3:Int)))=min 3 (c.map V.int).length:=HT.sIx_nat _ _ 3
 rw[HT.sIx_none,e]
 simp only[Nat.sub_zero,List.drop_zero,List.map_take,List.length_map]
 rw[List.take_eq_take_iff]
 simp
theorem ok_long {f:Addr} {fd:FuncData} (T:Txt K w mg A) (F:Fun K "longer_string" "longer_string" (top 36) f fd):FnOk P w K mg base CX0 1 f fd ["site","string"] spLong:=by
 refine F.ok scLong (fun vs H Q E h=>?_) (fun cdv AA outer s H vs Q E hr h=>?_)
 ·obtain⟨z,t,c,rfl,_⟩:=h
  rfl
 ·obtain⟨z,t,c,rfl,ht,hl,q⟩:=h
  refine⟨_,pss_cons (ps_set (i:=2) scLong.nd rfl (Or.inl rfl) (pe_op op_catT (pe_tup (pa_cons (pv 0) pa_nil)) (pv 1)))
   (pss_one (ps_ret (pe_slice sl_tupA (pv 2) po_none (po_some (gi T 3))))),?_⟩
  refine⟨_,rfl,(by show 1<=sizeLine;decide),fun t1 h1=>?_⟩
  have e1:(upd H t1 (.tup [.int z])) t=some (.tup (c.map V.int)):=by rw[upd_ne (ne_of_none ht h1)];exact ht
  have s1:Same H (upd H t1 (.tup [.int z])):=same_new h1
  have fin:∀(H2:Hp) (a:Addr),Same H H2->SqT K H2 a ((z::c).map V.int)->(H2 a=some (.tup ((z::c).map V.int))) ->
    tRet (tSl (rSlTA K) (tVar 2) tNoPart (tPart (tC (.int 3)))) {nx:=fun _ H'=>Q .non H',rt:=Q} [some (.int z),some (.ref t),some (.ref a)] H2:=by
   intro H2 a s2 hs he
   refine⟨_,rfl,3,rfl,a,_,rfl,hs,fun e=>?_,fun p hp=>?_⟩
   ·rw[cut3]at e
    refine q H2 a ?_ s2
    rw[e]
    exact he
   ·rw[cut3]
    exact q _ p upd_same (s2.trans (same_new hp))
  refine⟨_,rfl,t1,t,_,_,rfl,rfl,SqT.of upd_same,SqT.of e1,by simp,(by rw[List.length_map];exact Nat.le_trans (Nat.add_le_add_left hl 1) (by decide)),fun e=>?_,fun e p hp=>?_⟩
  ·have ec:c=[]:=by simpa using e
   subst ec
   exact fin _ t1 s1 (SqT.of upd_same) upd_same
  ·exact fin _ p (s1.trans (same_new hp)) (SqT.of upd_same) upd_same
theorem ifEqIs {σ:L2.St} {H:Hp} {i i2 j:Nat} {p C:Addr} {fs:List (Str×V)} {f:Str} {n m:Int} {x:V} {k:Nat} {l:Int} {t u:TS} {D:Ends} (hσ:σ[i]?=some (some (.ref p))) (h:InsAt C H p fs) (c:Cls K C) (na:NoAttr K C f) (hl:fs.lookup f=some (.int n))
  (hσ2:σ[i2]?=some (some x)) (hv:ValAt A H x k l) (q1:n=m->k=j->t D σ H) (q2:¬(n=m/\k=j)->u D σ H) :
  tIfS (tAnd (tTest (tOp rEq (tF K (tVar i) f) (tC (.int m)))) (tB (tCB (rIsi A j) (tCons (tVar i2) (tCons (tC (vA A j)) tNil))))) t u D σ H:=by
 refine rdEq hσ h c na hl ?_
 by_cases e:n=m
 ·simp only[e,decide_true,if_true]
  refine⟨x,hσ2,x,k,l,rfl,hv,_,rfl,?_⟩
  by_cases e2:k=j
  ·simp only[e2,decide_true,if_true];exact q1 e e2
  ·simp only[e2,decide_false,Bool.false_eq_true,if_false];exact q2 fun z=>e2 z.2
 ·simp only[e,decide_false,Bool.false_eq_true,if_false]
  exact q2 fun z=>e z.1
inductive spVI (A:Ad) (vs:List V) (H:Hp) (Q:VK) (E:XK):Prop
 |mk (n v:Addr) (g:V) (k d b e num:Int) (x:Str) (bi:Int) (lp:Addr) (l s:V) (bd lr:Addr) (_:vs=[.ref n,.ref v,g]) (_:InsAt A.cNd H n (fNd k d b e num x bi lp)) (_:InsAt A.cVs H v (fVs l s (.ref bd) lr)) (_:k=0->Q (.int num) H) (_:k=2->∀H' a,H a=none->InsAt A.cFn H' a (fFn l (.ref bd))->Same H H'->Q (.ref a) H') (_:k≠0->k≠2->bi=-1->Q g H) (_:k≠0->k≠2->bi≠-1->∃kvs y,H bd=some (.dK kvs)/\valV kvs (.inl bi)=some y/\Q y H)
theorem scVI:FnScope ["node","visit","given"] ["node","visit","given"] (defScope (top 37)):=⟨rfl,rfl,rfl,by decide +kernel,rfl,by decide +kernel,by decide +kernel⟩
theorem ok_vi {f:Addr} {fd:FuncData} (T:Txt K w mg A) (F:Fun K "value_of_itself" "value_of_itself" (top 37) f fd) (gFn:KOk P w K mg base CX0 1 A.cFn "Function" ["self","label","bound"] (spIni A.cFn iFn)):FnOk P w K mg base CX0 3 f fd ["node","visit","given"] (spVI A):=by
 refine F.ok scVI (fun vs H Q E h=>?_) (fun cdv AA outer s H vs Q E hr h=>?_)
 ·obtain⟨n,v,g,k,d,b,e,num,x,bi,lp,l,s,bd,lr,rfl,_⟩:=h
  rfl
 ·obtain⟨n,v,g,k,d,b,e,num,x,bi,lp,l,s,bd,lr,rfl,hn,hv,q1,q2,q3,q4⟩:=h
  refine⟨_,pss_cons (ps_if (pt_cmpR op_eq (pf (pv 0)) (gi T 0) (nomark _)) (pss_one (ps_ret (pf (pv 0)))) pss_nil)
   (pss_cons (ps_if (pt_cmpR op_eq (pf (pv 0)) (gi T 2) (nomark _)) (pss_one (ps_ret (pe_kk gFn hr (by decide) rfl pass0 (pa_cons (pf (pv 1)) (pa_cons (pf (pv 1)) pa_nil))))) pss_nil)
   (pss_cons (ps_if (pt_cmpR op_eq (pf (pv 0)) (gi T (-1)) (nomark _)) (pss_one (ps_ret (pv 2))) pss_nil)
   (pss_one (ps_ret (pe_dget (hu_of hr) (pf (pv 1)) (pf (pv 0)) (fun _ _=>rfl)))))),?_⟩
  refine ifEq rfl hn T.kNd T.nNd rfl (fun e0=>?_) fun e0=>?_
  ·exact rdF rfl hn T.kNd T.nNd rfl (q1 e0)
  refine ifEq rfl hn T.kNd T.nNd rfl (fun e1=>?_) fun e1=>?_
  ·refine rdF rfl hv T.kVs T.nVs rfl ?_
   refine rdF rfl hv T.kVs T.nVs rfl ?_
   intro a dx na nd ne
   refine⟨a,dx,_,_,rfl,rfl,upd_same,fun H' hi hb=>⟨rfl,q2 e1 H' a na hi (But.made na nd hb)⟩⟩
  refine ifEq rfl hn T.kNd T.nNd rfl (fun e2=>?_) fun e2=>?_
  ·exact⟨_,rfl,q3 e0 e1 e2⟩
  obtain⟨kvs,y,h1,h2,q⟩:=q4 e0 e1 e2
  refine rdF rfl hv T.kVs T.nVs rfl ?_
  refine rdF rfl hn T.kNd T.nNd rfl ?_
  refine⟨bd,y,rfl,?_,q⟩
  rw[<-h2]
  exact DGet.k (k:=Sum.inl bi) h1
inductive spV1 (A:Ad) (vs:List V) (H:Hp) (Q:VK) (E:XK):Prop
 |mk (n v:Addr) (k d b e num:Int) (nm:Str) (bi:Int) (lp:Addr) (l s bd:V) (lr:Addr) (x:V) (xs:List V) (kx:Nat) (lx:Int) (_:vs=[.ref n,.ref v]) (_:InsAt A.cNd H n (fNd k d b e num nm bi lp)) (_:InsAt A.cVs H v (fVs l s bd lr)) (_:H lr=some (.lst (x::xs))) (_:ValAt A H x kx lx) (_:k=9->∀H' a,H a=none->InsAt A.cRf H' a (fRf l x)->Same H H'->Q (.ref a) H') (_:k=7->kx=2->∀a z y1 y2,x=.ref a->InsAt A.cPr H a (fPr z y1 y2)->Q y1 H) (_:k=8->kx=2->∀a z y1 y2,x=.ref a->InsAt A.cPr H a (fPr z y1 y2)->Q y2 H) (_:k=10->kx=3->∀a z y,x=.ref a->InsAt A.cRf H a (fRf z y)->Q y H) (_:k≠9->¬(k=7/\kx=2)->¬(k=8/\kx=2)->¬(k=10/\kx=3)->Q .non H)
theorem scV1:FnScope ["node","visit","part"] ["node","visit"] (defScope (top 38)):=⟨rfl,rfl,rfl,by decide +kernel,rfl,by decide +kernel,by decide +kernel⟩
theorem ok_v1 {f:Addr} {fd:FuncData} (T:Txt K w mg A) (F:Fun K "value_of_one" "value_of_one" (top 38) f fd) (gRf:KOk P w K mg base CX0 1 A.cRf "Reference" ["self","label","inside"] (spIni A.cRf iRf)):FnOk P w K mg base CX0 3 f fd ["node","visit"] (spV1 A):=by
 refine F.ok scV1 (fun vs H Q E h=>?_) (fun cdv AA outer s H vs Q E hr h=>?_)
 ·obtain⟨n,v,k,d,b,e,num,nm,bi,lp,l,s,bd,lr,x,xs,kx,lx,rfl,_⟩:=h
  rfl
 ·obtain⟨n,v,k,d,b,e,num,nm,bi,lp,l,s,bd,lr,x,xs,kx,lx,rfl,hn,hv,hr1,hx,q1,q2,q3,q4,q5⟩:=h
  refine⟨_,pss_cons (ps_set (i:=2) scV1.nd rfl (Or.inl rfl) (pe_ix ix_list (pf (pv 1)) pe_int (fun _ _=>rfl)))
   (pss_cons (ps_if (pt_cmpR op_eq (pf (pv 0)) (gi T 9) (nomark _)) (pss_one (ps_ret (pe_kk gRf hr (by decide) rfl pass0 (pa_cons (pf (pv 1)) (pa_cons (pv 2) pa_nil))))) pss_nil)
   (pss_cons (ps_if (pw_and (pt_cmpR op_eq (pf (pv 0)) (gi T 7) (nomark _)) (pw_and1 (pt_val (pe_isPr T (pv 2))))).pt (pss_one (ps_ret (pf (pv 2)))) pss_nil)
   (pss_cons (ps_if (pw_and (pt_cmpR op_eq (pf (pv 0)) (gi T 8) (nomark _)) (pw_and1 (pt_val (pe_isPr T (pv 2))))).pt (pss_one (ps_ret (pf (pv 2)))) pss_nil)
   (pss_cons (ps_if (pw_and (pt_cmpR op_eq (pf (pv 0)) (gi T 10) (nomark _)) (pw_and1 (pt_val (pe_isRf T (pv 2))))).pt (pss_one (ps_ret (pf (pv 2)))) pss_nil)
   (pss_one (ps_ret pe_non)))))),?_⟩
  refine rdF rfl hv T.kVs T.nVs rfl ?_
  refine⟨lr,_,0,x,rfl,rfl,SqL.of hr1,atI_nat (j:=0) rfl,?_⟩
  refine ifEq rfl hn T.kNd T.nNd rfl (fun e9=>?_) fun e9=>?_
  ·refine rdF rfl hv T.kVs T.nVs rfl ?_
   refine⟨_,rfl,?_⟩
   intro a dx na nd ne
   refine⟨a,dx,_,_,rfl,rfl,upd_same,fun H' hi hb=>⟨rfl,q1 e9 H' a na hi (But.made na nd hb)⟩⟩
  refine ifEqIs rfl hn T.kNd T.nNd rfl rfl hx (fun e1 e2=>?_) fun e7=>?_
  ·cases hx with
   |pair h=>exact rdF rfl h T.kPr T.nPr rfl (q2 e1 rfl _ _ _ _ rfl h)
   |num=>cases e2
   |clo=>cases e2
   |ref=>cases e2
  refine ifEqIs rfl hn T.kNd T.nNd rfl rfl hx (fun e1 e2=>?_) fun e8=>?_
  ·cases hx with
   |pair h=>exact rdF rfl h T.kPr T.nPr rfl (q3 e1 rfl _ _ _ _ rfl h)
   |num=>cases e2
   |clo=>cases e2
   |ref=>cases e2
  refine ifEqIs rfl hn T.kNd T.nNd rfl rfl hx (fun e1 e2=>?_) fun e10=>?_
  ·cases hx with
   |ref h=>exact rdF rfl h T.kRf T.nRf rfl (q4 e1 rfl _ _ _ rfl h)
   |num=>cases e2
   |clo=>cases e2
   |pair=>cases e2
  exact q5 e9 e7 e8 e10
inductive spV2 (A:Ad) (vs:List V) (H:Hp) (Q:VK) (E:XK):Prop
 |mk (n v:Addr) (k d b e num:Int) (nm:Str) (bi:Int) (lp:Addr) (l s bd:V) (lr:Addr) (x y:V) (xs:List V) (kx:Nat) (lx:Int) (ky:Nat) (ly:Int) (_:vs=[.ref n,.ref v]) (_:InsAt A.cNd H n (fNd k d b e num nm bi lp)) (_:InsAt A.cVs H v (fVs l s bd lr)) (_:H lr=some (.lst (x::y::xs))) (_:ValAt A H x kx lx) (_:ValAt A H y ky ly) (_:k=6->∀H' a,H a=none->InsAt A.cPr H' a (fPr l x y)->Same H H'->Q (.ref a) H') (_:k=11->kx=3->∀a dx z y0,x=.ref a->H a=some (.ins A.cRf dx (fRf z y0))->Q y (upd H a (.ins A.cRf dx (fRf z y)))) (_:k=12->kx=0->ky=0->∀i j,x=.int i->y=.int j->Q (.int ((i+j) % 100)) H) (_:k≠6->¬(k=11/\kx=3)->¬(k=12/\kx=0/\ky=0)->Q .non H)
theorem scV2:FnScope ["node","visit","left","right"] ["node","visit"] (defScope (top 39)):=⟨rfl,rfl,rfl,by decide +kernel,rfl,by decide +kernel,by decide +kernel⟩
theorem ok_v2 {f:Addr} {fd:FuncData} (T:Txt K w mg A) (F:Fun K "value_of_two" "value_of_two" (top 39) f fd) (gPr:KOk P w K mg base CX0 1 A.cPr "Pair" ["self","label","first","second"] (spIni A.cPr iPr)):FnOk P w K mg base CX0 3 f fd ["node","visit"] (spV2 A):=by
 refine F.ok scV2 (fun vs H Q E h=>?_) (fun cdv AA outer s H vs Q E hr h=>?_)
 ·obtain⟨n,v,k,d,b,e,num,nm,bi,lp,l,s,bd,lr,x,y,xs,kx,lx,ky,ly,rfl,_⟩:=h
  rfl
 ·obtain⟨n,v,k,d,b,e,num,nm,bi,lp,l,s,bd,lr,x,y,xs,kx,lx,ky,ly,rfl,hn,hv,hr1,hx,hy,q1,q2,q3,q4⟩:=h
  refine⟨_,pss_cons (ps_set (i:=2) scV2.nd rfl (Or.inl rfl) (pe_ix ix_list (pf (pv 1)) pe_int (fun _ _=>rfl)))
   (pss_cons (ps_set (i:=3) scV2.nd rfl (Or.inl rfl) (pe_ix ix_list (pf (pv 1)) pe_int (fun _ _=>rfl)))
   (pss_cons (ps_if (pt_cmpR op_eq (pf (pv 0)) (gi T 6) (nomark _)) (pss_one (ps_ret (pe_kk gPr hr (by decide) rfl pass0 (pa_cons (pf (pv 1)) (pa_cons (pv 2) (pa_cons (pv 3) pa_nil)))))) pss_nil)
   (pss_cons (ps_if (pw_and (pt_cmpR op_eq (pf (pv 0)) (gi T 11) (nomark _)) (pw_and1 (pt_val (pe_isRf T (pv 2))))).pt (pss_cons (ps_fld (pv 2) (pv 3) rfl) (pss_one (ps_ret (pv 3)))) pss_nil)
   (pss_cons (ps_if (pw_and (pt_cmpR op_eq (pf (pv 0)) (gi T 12) (nomark _)) (pw_and (pt_val (pe_isInt T (pv 2))) (pw_and1 (pt_val (pe_isInt T (pv 3)))))).pt (pss_one (ps_ret (pe_op op_mod (pe_op op_add (pv 2) (pv 3)) (gi T 100)))) pss_nil)
   (pss_one (ps_ret pe_non)))))),?_⟩
  refine rdF rfl hv T.kVs T.nVs rfl ?_
  refine⟨lr,_,0,x,rfl,rfl,SqL.of hr1,atI_nat (j:=0) rfl,?_⟩
  refine rdF rfl hv T.kVs T.nVs rfl ?_
  refine⟨lr,_,1,y,rfl,rfl,SqL.of hr1,atI_nat (j:=1) rfl,?_⟩
  refine ifEq rfl hn T.kNd T.nNd rfl (fun e6=>?_) fun e6=>?_
  ·refine rdF rfl hv T.kVs T.nVs rfl ?_
   refine⟨_,rfl,_,rfl,?_⟩
   intro a dx na nd ne
   refine⟨a,dx,_,_,rfl,rfl,upd_same,fun H' hi hb=>⟨rfl,q1 e6 H' a na hi (But.made na nd hb)⟩⟩
  refine ifEqIs rfl hn T.kNd T.nNd rfl rfl hx (fun e1 e2=>?_) fun e11=>?_
  ·cases hx with
   |ref h=>
    obtain⟨dx,h⟩:=h
    refine⟨_,rfl,_,rfl,_,_,dx,_,rfl,h,T.kRf,T.nRf,(by show 2<1000;decide),?_⟩
    exact⟨_,rfl,q2 e1 rfl _ _ _ _ rfl h⟩
   |num=>cases e2
   |clo=>cases e2
   |pair=>cases e2
  refine rdEq rfl hn T.kNd T.nNd rfl ?_
  by_cases e12:k=12
  ·simp only[e12,decide_true,if_true]
   refine⟨x,rfl,x,kx,lx,rfl,hx,_,rfl,?_⟩
   by_cases e0:kx=0
   ·simp only[e0,decide_true,if_true]
    refine⟨y,rfl,y,ky,ly,rfl,hy,_,rfl,?_⟩
    by_cases e00:ky=0
    ·simp only[e00,decide_true,if_true]
     cases hx with
     |num i=>
      cases hy with
      |num j=>exact⟨_,rfl,_,rfl,_,_,rfl,rfl,_,_,rfl,rfl,(by show(0:Int)<100;decide),q3 e12 rfl rfl i j rfl rfl⟩
      |clo=>cases e00
      |pair=>cases e00
      |ref=>cases e00
     |clo=>cases e0
     |pair=>cases e0
     |ref=>cases e0
    ·simp only[e00,decide_false,Bool.false_eq_true,if_false]
     exact q4 e6 e11 fun z=>e00 z.2.2
   ·simp only[e0,decide_false,Bool.false_eq_true,if_false]
    exact q4 e6 e11 fun z=>e0 z.2.1
  ·simp only[e12,decide_false,Bool.false_eq_true,if_false]
   exact q4 e6 e11 fun z=>e12 z.1
inductive spVsI (A:Ad) (vs:List V) (H:Hp) (Q:VK) (E:XK):Prop
 |mk (p dx:Addr) (l s b:V) (_:vs=[.ref p,l,s,b]) (_:H p=some (.ins A.cVs dx [])) (_:∀H' lr,InsAt A.cVs H' p (fVs l s b lr)->H lr=none->H' lr=some (.lst [])->But p H H'->Q .non H')
theorem scVs:FnScope ["self","label","string","bound"] ["self","label","string","bound"] (defScope (inClass (top 31) 0)):=⟨rfl,rfl,rfl,by decide +kernel,rfl,by decide +kernel,by decide +kernel⟩
theorem ok_Vs {f:Addr} {fd:FuncData} (T:Txt K w mg A) (F:Fun K "__init__" "Visit.__init__" (inClass (top 31) 0) f fd):FnOk P w K mg base CX0 1 f fd ["self","label","string","bound"] (spVsI A):=by
 refine F.ok scVs (fun vs H Q E h=>?_) (fun cdv AA outer s H vs Q E hr h=>?_)
 ·obtain⟨p,dx,l,s,b,rfl,_⟩:=h
  rfl
 ·obtain⟨p,dx,l,z,b,rfl,hp,k⟩:=h
  refine⟨_,pss_cons (ps_fld (pv 0) (pv 1) rfl) (pss_cons (ps_fld (pv 0) (pv 2) rfl) (pss_cons (ps_fld (pv 0) (pv 3) rfl) (pss_one (ps_fld (pv 0) (pe_lst pa_nil) rfl)))),?_⟩
  refine⟨_,rfl,_,rfl,p,_,dx,[],rfl,hp,T.kVs,T.nVs,by decide,?_⟩
  refine⟨_,rfl,_,rfl,p,_,dx,_,rfl,upd_same,T.kVs,T.nVs,(by show 1<1000;decide),?_⟩
  refine⟨_,rfl,_,rfl,p,_,dx,_,rfl,upd_same,T.kVs,T.nVs,(by show 2<1000;decide),?_⟩
  rw[upd_upd,upd_upd]
  refine⟨Nat.zero_le _,fun lr hl=>?_⟩
  have ne:lr≠p:=fun e=>by rw[e,upd_same]at hl;cases hl
  have hl0:H lr=none:=by rw[upd_ne ne]at hl;exact hl
  refine⟨_,rfl,p,_,dx,_,rfl,(by rw[upd_ne (Ne.symm ne)];exact upd_same),T.kVs,T.nVs,(by show 3<1000;decide),?_⟩
  exact k _ lr ⟨dx,upd_same⟩ hl0 (by rw[upd_ne ne];exact upd_same) ((But.put.trans (But.new hl)).trans But.put)
abbrev shC:List Bool:=[false,false,true]
abbrev shF:List Bool:=[false,true,true]
theorem nest_but {sh:List Bool} {H H':Hp} {p d:Addr} {ks:List (List NItem)} (x:NestAt P w sh H d ks) (b:But p H H') (nd:d≠p) (nt:∀ys,H p≠some (.tup ys)):NestAt P w sh H' d ks:=by
 obtain⟨xs,ep,e,r⟩:=id x
 refine nest_stays x ?_ fun c ys h=>b c _ h fun q=>nt ys (by rw[<-q];exact h)
 rw[e,b d _ e nd]
def spRnI (P:Program) (w:World) (A:Ad):Sp:=fun vs H Q _=>∃(p dx:Addr) (ln:V) (g:Int),vs=[.ref p,ln,.int g]/\H p=some (.ins A.cRn dx [])/\∀H' lv dc df lm le,H' p=some (.ins A.cRn dx (fRn ln g 0 lv dc df lm le)) ->
 (∀a∈[lv,dc,df,lm,le],H a=none)->[lv,dc,df,lm,le].Nodup->H' lv=some (.lst [])->NestAt P w shC H' dc []->NestAt P w shF H' df []->H' lm=some (.lst [])->H' le=some (.lst [])->But p H H'->Q .non H'
theorem scRn:FnScope ["self","nodes","given"] ["self","nodes","given"] (defScope (inClass (top 32) 0)):=⟨rfl,rfl,rfl,by decide +kernel,rfl,by decide +kernel,by decide +kernel⟩
theorem ok_Rn {f:Addr} {fd:FuncData} (T:Txt K w mg A) (F:Fun K "__init__" "Run.__init__" (inClass (top 32) 0) f fd):FnOk P w K mg base CX0 1 f fd ["self","nodes","given"] (spRnI P w A):=by
 refine F.ok scRn (fun vs H Q E h=>?_) (fun cdv AA outer s H vs Q E hr h=>?_)
 ·obtain⟨p,dx,ln,g,rfl,_⟩:=h
  rfl
 ·obtain⟨p,dx,ln,g,rfl,hp,k⟩:=h
  refine⟨_,pss_cons (ps_fld (pv 0) (pv 1) rfl) (pss_cons (ps_fld (pv 0) (pv 2) rfl) (pss_cons (ps_fld (pv 0) pe_int rfl) (pss_cons (ps_fld (pv 0) (pe_lst pa_nil) rfl) (pss_cons (ps_fld (pv 0) (pe_dnewN (sh:=shC)) rfl)
   (pss_cons (ps_fld (pv 0) (pe_dnewN (sh:=shF)) rfl) (pss_cons (ps_fld (pv 0) (pe_lst pa_nil) rfl) (pss_one (ps_fld (pv 0) (pe_lst pa_nil) rfl)))))))),?_⟩
  refine⟨_,rfl,_,rfl,p,_,dx,[],rfl,hp,T.kRn,T.nRn,by decide,?_⟩
  refine⟨_,rfl,_,rfl,p,_,dx,_,rfl,upd_same,T.kRn,T.nRn,(by show 1<1000;decide),?_⟩
  refine⟨_,rfl,p,_,dx,_,rfl,upd_same,T.kRn,T.nRn,(by show 2<1000;decide),?_⟩
  rw[upd_upd,upd_upd]
  refine⟨Nat.zero_le _,fun lv hlv=>?_⟩
  have stp:∀{Hc:Hp} {q:Addr} {o:HO} {fs fs':List (Str×V)},Hc p=some (.ins A.cRn dx fs)->Hc q=none->(upd Hc q o) p=some (.ins A.cRn dx fs)/\q≠p/\upd (upd Hc q o) p (.ins A.cRn dx fs') q=some o/\But p Hc (upd (upd Hc q o) p (.ins A.cRn dx fs')):=by
   intro Hc q o fs fs' h1 h2
   have n:q≠p:=fun e=>by rw[e,h1]at h2;cases h2
   exact⟨by rw[upd_ne (Ne.symm n)];exact h1,n,by rw[upd_ne n];exact upd_same,(But.new h2).trans But.put⟩
  have b0:But p H (upd H p (.ins A.cRn dx (putF "steps" (.int 0) (putF "given" (.int g) (putF "nodes" ln []))))):=But.put
  obtain⟨h1,n1,g1,b1⟩:=stp (o:=.lst []) (fs':=putF "visits" (.ref lv) (putF "steps" (.int 0) (putF "given" (.int g) (putF "nodes" ln [])))) upd_same hlv
  refine⟨_,rfl,p,_,dx,_,rfl,h1,T.kRn,T.nRn,(by show 3<1000;decide),?_⟩
  have u1:(upd (upd (upd H p (.ins A.cRn dx (putF "steps" (.int 0) (putF "given" (.int g) (putF "nodes" ln []))))) lv (.lst [])) p (.ins A.cRn dx (putF "visits" (.ref lv) (putF "steps" (.int 0) (putF "given" (.int g) (putF "nodes" ln [])))))) p=some (.ins A.cRn dx (putF "visits" (.ref lv) (putF "steps" (.int 0) (putF "given" (.int g) (putF "nodes" ln []))))):=upd_same
  have f1:=hlv
  rw[upd_ne n1]at f1
  revert g1 b1 u1
  generalize upd (upd (upd H p (.ins A.cRn dx (putF "steps" (.int 0) (putF "given" (.int g) (putF "nodes" ln []))))) lv (.lst [])) p (.ins A.cRn dx (putF "visits" (.ref lv) (putF "steps" (.int 0) (putF "given" (.int g) (putF "nodes" ln [])))))=H1
  intro g1 b1 u1
  have B1:But p H H1:=b0.trans b1
  have free:∀{H2:Hp} {a:Addr},But p H H2->a≠p->H2 a=none->H a=none:=fun{H2 a} b n e=>by
   cases q:H a with
   |none=>rfl
   |some o=>rw[b a o q n]at e;cases e
  intro dc oc hdc Nc
  obtain⟨h2,n2,g2,b2⟩:=stp (o:=oc) (fs':=putF "calls" (.ref dc) (putF "visits" (.ref lv) (putF "steps" (.int 0) (putF "given" (.int g) (putF "nodes" ln []))))) u1 hdc
  refine⟨_,rfl,p,_,dx,_,rfl,h2,T.kRn,T.nRn,(by show 4<1000;decide),?_⟩
  have u2:(upd (upd H1 dc oc) p (.ins A.cRn dx (putF "calls" (.ref dc) (putF "visits" (.ref lv) (putF "steps" (.int 0) (putF "given" (.int g) (putF "nodes" ln []))))))) p=some (.ins A.cRn dx (putF "calls" (.ref dc) (putF "visits" (.ref lv) (putF "steps" (.int 0) (putF "given" (.int g) (putF "nodes" ln [])))))):=upd_same
  have N2:NestAt P w shC (upd (upd H1 dc oc) p (.ins A.cRn dx (putF "calls" (.ref dc) (putF "visits" (.ref lv) (putF "steps" (.int 0) (putF "given" (.int g) (putF "nodes" ln []))))))) dc []:=nest_but Nc But.put n2 (fun ys e=>by rw[h2]at e;cases e)
  revert g2 b2 u2 N2
  generalize upd (upd H1 dc oc) p (.ins A.cRn dx (putF "calls" (.ref dc) (putF "visits" (.ref lv) (putF "steps" (.int 0) (putF "given" (.int g) (putF "nodes" ln []))))))=H2
  intro g2 b2 u2 N2
  have B2:But p H H2:=B1.trans b2
  intro df of hdf Nf
  obtain⟨h3,n3,g3,b3⟩:=stp (o:=of) (fs':=putF "flows" (.ref df) (putF "calls" (.ref dc) (putF "visits" (.ref lv) (putF "steps" (.int 0) (putF "given" (.int g) (putF "nodes" ln [])))))) u2 hdf
  refine⟨_,rfl,p,_,dx,_,rfl,h3,T.kRn,T.nRn,(by show 5<1000;decide),?_⟩
  have u3:(upd (upd H2 df of) p (.ins A.cRn dx (putF "flows" (.ref df) (putF "calls" (.ref dc) (putF "visits" (.ref lv) (putF "steps" (.int 0) (putF "given" (.int g) (putF "nodes" ln [])))))))) p=some (.ins A.cRn dx (putF "flows" (.ref df) (putF "calls" (.ref dc) (putF "visits" (.ref lv) (putF "steps" (.int 0) (putF "given" (.int g) (putF "nodes" ln []))))))):=upd_same
  have N3:NestAt P w shF (upd (upd H2 df of) p (.ins A.cRn dx (putF "flows" (.ref df) (putF "calls" (.ref dc) (putF "visits" (.ref lv) (putF "steps" (.int 0) (putF "given" (.int g) (putF "nodes" ln [])))))))) df []:=nest_but Nf But.put n3 (fun ys e=>by rw[h3]at e;cases e)
  revert g3 b3 u3 N3
  generalize upd (upd H2 df of) p (.ins A.cRn dx (putF "flows" (.ref df) (putF "calls" (.ref dc) (putF "visits" (.ref lv) (putF "steps" (.int 0) (putF "given" (.int g) (putF "nodes" ln [])))))))=H3
  intro g3 b3 u3 N3
  have B3:But p H H3:=B2.trans b3
  refine⟨Nat.zero_le _,fun lm hlm=>?_⟩
  obtain⟨h4,n4,g4,b4⟩:=stp (o:=.lst []) (fs':=putF "made" (.ref lm) (putF "flows" (.ref df) (putF "calls" (.ref dc) (putF "visits" (.ref lv) (putF "steps" (.int 0) (putF "given" (.int g) (putF "nodes" ln []))))))) u3 hlm
  refine⟨_,rfl,p,_,dx,_,rfl,h4,T.kRn,T.nRn,(by show 6<1000;decide),?_⟩
  have u4:(upd (upd H3 lm (.lst [])) p (.ins A.cRn dx (putF "made" (.ref lm) (putF "flows" (.ref df) (putF "calls" (.ref dc) (putF "visits" (.ref lv) (putF "steps" (.int 0) (putF "given" (.int g) (putF "nodes" ln []))))))))) p=some (.ins A.cRn dx (putF "made" (.ref lm) (putF "flows" (.ref df) (putF "calls" (.ref dc) (putF "visits" (.ref lv) (putF "steps" (.int 0) (putF "given" (.int g) (putF "nodes" ln [])))))))):=upd_same
  revert g4 b4 u4
  generalize upd (upd H3 lm (.lst [])) p (.ins A.cRn dx (putF "made" (.ref lm) (putF "flows" (.ref df) (putF "calls" (.ref dc) (putF "visits" (.ref lv) (putF "steps" (.int 0) (putF "given" (.int g) (putF "nodes" ln []))))))))=H4
  intro g4 b4 u4
  have B4:But p H H4:=B3.trans b4
  refine⟨Nat.zero_le _,fun le hle=>?_⟩
  obtain⟨h5,n5,g5,b5⟩:=stp (o:=.lst []) (fs':=fRn ln g 0 lv dc df lm le) u4 hle
  refine⟨_,rfl,p,_,dx,_,rfl,h5,T.kRn,T.nRn,(by show 7<1000;decide),?_⟩
  have tp:∀{H':Hp} {fs:List (Str×V)},H' p=some (.ins A.cRn dx fs)->∀ys,H' p≠some (.tup ys):=fun h ys e=>by rw[h]at e;cases e
  refine k _ lv dc df lm le upd_same ?_ ?_ (b5 _ _ (b4 _ _ (b3 _ _ (b2 _ _ g1 n1) n1) n1) n1) (nest_but (nest_but (nest_but N2 b3 n2 (tp u2)) b4 n2 (tp u3)) b5 n2 (tp u4)) (nest_but (nest_but N3 b4 n3 (tp u3)) b5 n3 (tp u4)) (b5 _ _ g4 n4) g5 (B4.trans b5)
  ·intro a ha
   simp only[List.mem_cons,List.not_mem_nil,or_false]at ha
   rcases ha with rfl|rfl|rfl|rfl|rfl
   ·exact f1
   ·exact free B1 n2 hdc
   ·exact free B2 n3 hdf
   ·exact free B3 n4 hlm
   ·exact free B4 n5 hle
  ·have e12:lv≠dc:=ne_of_none g1 hdc
   have e13:lv≠df:=ne_of_none (b2 _ _ g1 n1) hdf
   have e14:lv≠lm:=ne_of_none (b3 _ _ (b2 _ _ g1 n1) n1) hlm
   have e15:lv≠le:=ne_of_none (b4 _ _ (b3 _ _ (b2 _ _ g1 n1) n1) n1) hle
   have e23:dc≠df:=ne_of_none g2 hdf
   have e24:dc≠lm:=ne_of_none (b3 _ _ g2 n2) hlm
   have e25:dc≠le:=ne_of_none (b4 _ _ (b3 _ _ g2 n2) n2) hle
   have e34:df≠lm:=ne_of_none g3 hlm
   have e35:df≠le:=ne_of_none (b4 _ _ g3 n3) hle
   have e45:lm≠le:=ne_of_none g4 hle
   simp[e12,e13,e14,e15,e23,e24,e25,e34,e35,e45]
end
end Fv
end
section
namespace Fv
open PySem PySem.Spec PyProof.Rows L2
open Mth (MS Vst Bnd)
abbrev Vl:=Vacfaa.Value
abbrev Ob:=Vacfaa.Obj
def VRel (as:List (Addr×Nat)):Vl->V->Prop
 |.num n,x=>x=.int n
 |.clo i,x=>∃a,as[i]?=some (a,1)/\x=.ref a
 |.pair i,x=>∃a,as[i]?=some (a,2)/\x=.ref a
 |.ref i,x=>∃a,as[i]?=some (a,3)/\x=.ref a
theorem get_more {α:Type} {l r:List α} {i:Nat} {x:α} (h:l[i]?=some x):(l++r)[i]?=some x:=by rw[List.getElem?_append_left (List.getElem?_eq_some_iff.mp h).1];exact h
theorem VRel.more {as r:List (Addr×Nat)} {v:Vl} {x:V} (h:VRel as v x):VRel (as++r) v x:=by
 cases v with
 |num n=>exact h
 |clo i=>obtain⟨a,e,q⟩:=h;exact⟨a,get_more e,q⟩
 |pair i=>obtain⟨a,e,q⟩:=h;exact⟨a,get_more e,q⟩
 |ref i=>obtain⟨a,e,q⟩:=h;exact⟨a,get_more e,q⟩
abbrev BR (as:List (Addr×Nat)):(Nat×Vl)->(Key×V)->Prop:=fun z kv=>kv.1=Sum.inl (z.1:Int)/\VRel as z.2 kv.2
abbrev BRel (as:List (Addr×Nat)) (b:Bnd) (kvs:List (Key×V)):Prop:=Paired (BR as) b kvs
theorem BRel.more {as r:List (Addr×Nat)} {b:Bnd} {kvs:List (Key×V)} (h:BRel as b kvs):BRel (as++r) b kvs:=Paired.mono (fun _ _ q=>⟨q.1,q.2.more⟩) h
def BndAt (H:Hp) (as:List (Addr×Nat)) (d:Addr) (b:Bnd):Prop:=∃kvs,H d=some (.dK kvs)/\BRel as b kvs
def Frz (A:Ad) (o:HO):Prop:=match o with
 |.tup _=>True
 |.dK _=>True
 |.ins C _ _=>C=A.cVs\/C=A.cFn\/C=A.cPr
 |_=>False
def FKeep (A:Ad) (H H':Hp):Prop:=∀b o,H b=some o->Frz A o->H' b=some o
theorem FKeep.of {A:Ad} {H H':Hp} {p:Addr} {u:HO} (b:But p H H') (hp:H p=some u) (hu:¬ Frz A u):FKeep A H H':=fun c o e f=>b c o e fun q=>by
 subst q
 rw[hp]at e
 cases e
 exact hu f
theorem FKeep.same {A:Ad} {H H':Hp} (s:Same H H'):FKeep A H H':=fun b o e _=>s b o e
structure VL where
 a:Addr
 ts:Addr
 d:Addr
 lr:Addr
def natI (l:List Nat):List Int:=l.map fun(n:Nat)=>(n:Int)
def natV (l:List Nat):List V:=(natI l).map V.int
abbrev ctxV (c:List Nat):List V:=natV c
def VsF (A:Ad) (H:Hp) (as:List (Addr×Nat)) (u:VL) (t:Vst):Prop:=InsAt A.cVs H u.a (fVs (.int t.lab) (.ref u.ts) (.ref u.d) u.lr)/\H u.ts=some (.tup (ctxV t.ctx))/\BndAt H as u.d t.bnd
def ResAt (H:Hp) (as:List (Addr×Nat)) (u:VL) (t:Vst):Prop:=∃xs,H u.lr=some (.lst xs)/\Paired (VRel as) t.res xs
theorem BndAt.keep {A:Ad} {H H':Hp} {as:List (Addr×Nat)} {d:Addr} {b:Bnd} (h:BndAt H as d b) (k:FKeep A H H'):BndAt H' as d b:=let⟨kvs,e,r⟩:=h;⟨kvs,k _ _ e trivial,r⟩
theorem VsF.keep {A:Ad} {H H':Hp} {as:List (Addr×Nat)} {u:VL} {t:Vst} (h:VsF A H as u t) (k:FKeep A H H'):VsF A H' as u t:=
 let⟨⟨dx,e⟩,e2,e3⟩:=h
 ⟨⟨dx,k _ _ e (.inl rfl)⟩,k _ _ e2 trivial,e3.keep k⟩
theorem BndAt.more {H:Hp} {as r:List (Addr×Nat)} {d:Addr} {b:Bnd} (h:BndAt H as d b):BndAt H (as++r) d b:=let⟨kvs,e,q⟩:=h;⟨kvs,e,q.more⟩
theorem VsF.more {A:Ad} {H:Hp} {as r:List (Addr×Nat)} {u:VL} {t:Vst} (h:VsF A H as u t):VsF A H (as++r) u t:=⟨h.1,h.2.1,h.2.2.more⟩
theorem ResAt.more {H:Hp} {as r:List (Addr×Nat)} {u:VL} {t:Vst} (h:ResAt H as u t):ResAt H (as++r) u t:=let⟨xs,e,q⟩:=h;⟨xs,e,Paired.mono (fun _ _ z=>z.more) q⟩
def ObAt (A:Ad) (H:Hp) (as:List (Addr×Nat)) (a:Addr×Nat) (o:Ob) (b:Bnd):Prop:=match o with
 |.clo l _=>a.2=1/\∃d,InsAt A.cFn H a.1 (fFn (.int l) (.ref d))/\BndAt H as d b
 |.pair l v w=>a.2=2/\∃x y,InsAt A.cPr H a.1 (fPr (.int l) x y)/\VRel as v x/\VRel as w y
 |.ref l v=>a.2=3/\∃x,InsAt A.cRf H a.1 (fRf (.int l) x)/\VRel as v x
theorem ObAt.keep {A:Ad} {H H':Hp} {as:List (Addr×Nat)} {a:Addr×Nat} {o:Ob} {b:Bnd} (h:ObAt A H as a o b) (k:FKeep A H H') (kr:∀fs,InsAt A.cRf H a.1 fs->InsAt A.cRf H' a.1 fs):ObAt A H' as a o b:=by
 cases o with
 |clo l env=>obtain⟨e,d,⟨dx,h1⟩,h2⟩:=h;exact⟨e,d,⟨dx,k _ _ h1 (.inr (.inl rfl))⟩,h2.keep k⟩
 |pair l v w=>obtain⟨e,x,y,⟨dx,h1⟩,h2⟩:=h;exact⟨e,x,y,⟨dx,k _ _ h1 (.inr (.inr rfl))⟩,h2⟩
 |ref l v=>obtain⟨e,x,h1,h2⟩:=h;exact⟨e,x,kr _ h1,h2⟩
theorem ObAt.more {A:Ad} {H:Hp} {as r:List (Addr×Nat)} {a:Addr×Nat} {o:Ob} {b:Bnd} (h:ObAt A H as a o b):ObAt A H (as++r) a o b:=by
 cases o with
 |clo l env=>obtain⟨e,d,h1,h2⟩:=h;exact⟨e,d,h1,h2.more⟩
 |pair l v w=>obtain⟨e,x,y,h1,h2,h3⟩:=h;exact⟨e,x,y,h1,h2.more,h3.more⟩
 |ref l v=>obtain⟨e,x,h1,h2⟩:=h;exact⟨e,x,h1,h2.more⟩
def callK (c:Vacfaa.Call):List NItem:=[.inl c.site,.inl c.fn,.inr (natI c.ctx)]
def flowK (f:Vacfaa.Flow):List NItem:=[.inl f.label,.inr (natI f.ctx),.inr (natI (Vacfaa.toldAbs f.abs))]
structure RLay where
 dx:Addr
 lv:Addr
 dc:Addr
 df:Addr
 lm:Addr
 le:Addr
 as:List (Addr×Nat)
 vs:List VL
structure RunAt (P:Program) (w:World) (A:Ad) (H0 H:Hp) (r ln:Addr) (inp:Nat) (L:RLay) (S:MS):Prop where
 same:Same H0 H
 run:H r=some (.ins A.cRn L.dx (fRn (.ref ln) inp S.m.steps L.lv L.dc L.df L.lm L.le))
 visl:H L.lv=some (.lst ((L.vs.map fun u=>V.ref u.a).reverse))
 vis:Paired (VsF A H L.as) L.vs S.vis
 res:Paired (ResAt H L.as) L.vs S.vis
 calls:NestAt P w shC H L.dc (S.m.calls.map callK)
 flows:NestAt P w shF H L.df (S.m.flows.map flowK)
 made:H L.lm=some (.lst (natV (S.m.heap.map Vacfaa.objLabel)))
 ending:H L.le=some (.lst (natV (S.fin.getD [])))
 obs:∀(i:Nat) (o:Ob),S.m.heap[i]?=some o->∃a b,L.as[i]?=some a/\S.clos[i]?=some b/\ObAt A H L.as a o b
 asl:L.as.length=S.m.heap.length
 asn:(L.as.map (·.1)).Nodup
 nd:(L.le::L.lv::L.lm::L.vs.map VL.lr).Nodup
 ncf:L.dc≠L.df
 fr:H0 r=none
 fl:∀a∈L.lv::L.lm::L.vs.map VL.lr,H0 a=none
 fd:H0 L.dc=none/\H0 L.df=none
 fa:∀a∈L.as,H0 a.1=none
 fle:H0 L.le=none
section
variable {P:Program} {w:World} {A:Ad} {H0 H H':Hp} {r ln:Addr} {inp:Nat} {L:RLay} {S:MS}
theorem nest_same {sh:List Bool} {d:Addr} {ks:List (List NItem)} (x:NestAt P w sh H d ks) (s:Same H H'):NestAt P w sh H' d ks:=by
 obtain⟨xs,ep,e,q⟩:=id x
 exact nest_stays x (by rw[e,s _ _ e]) fun b ys h=>s _ _ h
theorem ResAt.same {as:List (Addr×Nat)} {u:VL} {t:Vst} (h:ResAt H as u t) (s:Same H H'):ResAt H' as u t:=let⟨xs,e,q⟩:=h;⟨xs,s _ _ e,q⟩
theorem RunAt.keep (R:RunAt P w A H0 H r ln inp L S) (s:Same H H'):RunAt P w A H0 H' r ln inp L S where
 same:=R.same.trans s
 run:=s _ _ R.run
 visl:=s _ _ R.visl
 vis:=Paired.mono (fun _ _ h=>h.keep (.same s)) R.vis
 res:=Paired.mono (fun _ _ h=>h.same s) R.res
 calls:=nest_same R.calls s
 flows:=nest_same R.flows s
 made:=s _ _ R.made
 ending:=s _ _ R.ending
 obs:=fun i o h=>let⟨a,b,h1,h2,h3⟩:=R.obs i o h;⟨a,b,h1,h2,h3.keep (.same s) fun _ q=>q.same s⟩
 asl:=R.asl
 asn:=R.asn
 nd:=R.nd
 ncf:=R.ncf
 fr:=R.fr
 fl:=R.fl
 fd:=R.fd
 fa:=R.fa
 fle:=R.fle
theorem RunAt.ndc (R:RunAt P w A H0 H r ln inp L S) (xs:List V) (a:Addr) (e:H a=some (.lst xs)):L.dc≠a:=by
 obtain⟨_,_,q,_⟩:=R.calls
 exact ne_of q e (by intro z;cases z)
theorem RunAt.ndf (R:RunAt P w A H0 H r ln inp L S) (xs:List V) (a:Addr) (e:H a=some (.lst xs)):L.df≠a:=by
 obtain⟨_,_,q,_⟩:=R.flows
 exact ne_of q e (by intro z;cases z)
theorem res_ne {as:List (Addr×Nat)} {p:Addr} {us:List VL} {ts:List Vst} (h:Paired (ResAt H as) us ts) (b:But p H H') (hp:p ∉ us.map VL.lr):Paired (ResAt H' as) us ts:=by
 induction h with
 |nil=>exact .nil
 |@cons u t us ts q qs ih=>
  obtain⟨xs,e,z⟩:=q
  refine .cons ⟨xs,b _ _ e fun k=>hp (by rw[<-k];simp),z⟩ (ih fun k=>hp (by simp[k]))
theorem res_kind {as:List (Addr×Nat)} {p:Addr} {u:HO} {us:List VL} {ts:List Vst} (h:Paired (ResAt H as) us ts) (b:But p H H') (hp:H p=some u) (hu:∀xs,u≠.lst xs):Paired (ResAt H' as) us ts:=
 Paired.mono (fun _ _ ⟨xs,e,z⟩=>⟨xs,b _ _ e (ne_of e hp fun k=>hu xs k.symm),z⟩) h
theorem same_but {p:Addr} (s:Same H0 H) (b:But p H H') (hp:H0 p=none):Same H0 H':=fun c o e=>b c o (s c o e) fun q=>by rw[q,hp]at e;cases e
variable (nC:A.cls.Nodup)
include nC
theorem cls_ne:A.cRn≠A.cVs/\A.cRn≠A.cFn/\A.cRn≠A.cPr/\A.cRn≠A.cRf/\A.cRf≠A.cVs/\A.cRf≠A.cFn/\A.cRf≠A.cPr/\A.cRf≠A.cRn:=by
 simp only[Ad.cls,List.nodup_cons,List.mem_cons,List.not_mem_nil,or_false,not_or]at nC
 obtain⟨_,⟨a1,a2,a3,a4,_⟩,⟨b1,b2,b3,_⟩,⟨c1,c2,_⟩,⟨d1,_⟩,_⟩:=nC
 exact⟨Ne.symm d1,Ne.symm a4,Ne.symm b3,Ne.symm c2,c1,Ne.symm a2,Ne.symm b1,c2⟩
theorem RunAt.setRun (R:RunAt P w A H0 H r ln inp L S) {st:Nat} {le:Addr} {fin:Option (List Nat)} (b:But r H H') (hr:H' r=some (.ins A.cRn L.dx (fRn (.ref ln) inp st L.lv L.dc L.df L.lm le)))
  (hle:H' le=some (.lst (natV (fin.getD [])))) (hn:le ∉ L.lv::L.lm::L.vs.map VL.lr) (h0:H0 le=none) :
  RunAt P w A H0 H' r ln inp {L with le:=le} {S with m:={S.m with steps:=st},fin:=fin}:=by
 obtain⟨c1,c2,c3,c4,_⟩:=cls_ne nC
 have fk:FKeep A H H':=.of b R.run (fun f=>f.elim c1 fun f=>f.elim c2 c3)
 refine⟨same_but R.same b R.fr,hr,b _ _ R.visl (ne_of R.visl R.run (by intro z;cases z)),Paired.mono (fun _ _ h=>h.keep fk) R.vis,res_kind R.res b R.run (by intro xs z;cases z),?_,?_,b _ _ R.made (ne_of R.made R.run (by intro z;cases z)),hle,
  fun i o h=>let⟨a,z,h1,h2,h3⟩:=R.obs i o h;⟨a,z,h1,h2,h3.keep fk fun fs ⟨dx,q⟩=>⟨dx,b _ _ q (ne_of q R.run (by intro k;injection k with k1;exact c4 k1.symm))⟩⟩,R.asl,R.asn,?_,R.ncf,R.fr,R.fl,R.fd,R.fa,h0⟩
 ·obtain⟨_,_,q,_⟩:=R.calls
  exact nest_but R.calls b (ne_of q R.run (by intro z;cases z)) fun ys e=>by rw[R.run]at e;cases e
 ·obtain⟨_,_,q,_⟩:=R.flows
  exact nest_but R.flows b (ne_of q R.run (by intro z;cases z)) fun ys e=>by rw[R.run]at e;cases e
 ·exact List.nodup_cons.mpr ⟨hn,(List.nodup_cons.mp R.nd).2⟩
omit nC
theorem ne_lst {p:Addr} {xs:List V} {b:Addr} {C dx:Addr} {fs:List (Str×V)} (hp:H p=some (.lst xs)) (h:H b=some (.ins C dx fs)):b≠p:=ne_of h hp (by intro z;cases z)
theorem RunAt.lst0 (R:RunAt P w A H0 H r ln inp L S) {p:Addr} {xs:List V} (hp:H p=some (.lst xs)) (b:But p H H') (h0:H0 p=none):Same H0 H'/\H' r=some (.ins A.cRn L.dx (fRn (.ref ln) inp S.m.steps L.lv L.dc L.df L.lm L.le)) /\
  Paired (VsF A H' L.as) L.vs S.vis/\NestAt P w shC H' L.dc (S.m.calls.map callK)/\NestAt P w shF H' L.df (S.m.flows.map flowK)/\(∀(i:Nat) (o:Ob),S.m.heap[i]?=some o->∃a b,L.as[i]?=some a/\S.clos[i]?=some b/\ObAt A H' L.as a o b):=by
 have fk:FKeep A H H':=.of b hp (by intro f;exact f)
 refine⟨same_but R.same b h0,b _ _ R.run (ne_lst hp R.run),Paired.mono (fun _ _ h=>h.keep fk) R.vis,nest_but R.calls b (R.ndc _ _ hp) (fun ys e=>by rw[hp]at e;cases e),nest_but R.flows b (R.ndf _ _ hp) (fun ys e=>by rw[hp]at e;cases e),
  fun i o h=>let⟨a,z,h1,h2,h3⟩:=R.obs i o h;⟨a,z,h1,h2,h3.keep fk fun fs ⟨dx,q⟩=>⟨dx,b _ _ q (ne_lst hp q)⟩⟩⟩
theorem RunAt.push (R:RunAt P w A H0 H r ln inp L S) {u:VL} {t:Vst} (hu:VsF A H L.as u t) (hr:ResAt H L.as u t) (hf:H0 u.lr=none) (hn:u.lr ∉ L.le::L.lv::L.lm::L.vs.map VL.lr) (b:But L.lv H H')
  (hl:H' L.lv=some (.lst ((L.vs.map fun u=>V.ref u.a).reverse++[V.ref u.a]))):RunAt P w A H0 H' r ln inp {L with vs:=u::L.vs} {S with vis:=t::S.vis}:=by
 have nd:=R.nd
 simp only[List.nodup_cons,List.mem_cons,not_or]at nd hn
 obtain⟨⟨n1,n2,n3⟩,⟨n4,n5⟩,n6,n7⟩:=nd
 obtain⟨m1,m2,m3,m4⟩:=hn
 obtain⟨g1,g2,g3,g4,g5,g6⟩:=R.lst0 R.visl b (R.fl _ (by simp))
 have fk:FKeep A H H':=.of b R.visl (by intro f;exact f)
 obtain⟨xs,e,z⟩:=hr
 refine⟨g1,g2,?_,.cons (hu.keep fk) g3,.cons ⟨xs,b _ _ e m2,z⟩ (res_ne R.res b n5),g4,g5,b _ _ R.made (Ne.symm n4),b _ _ R.ending n1,g6,R.asl,R.asn,?_,R.ncf,R.fr,?_,R.fd,R.fa,R.fle⟩
 ·rw[hl]
  show some (HO.lst ((L.vs.map fun u=>V.ref u.a).reverse++[V.ref u.a]))=some (HO.lst (((u::L.vs).map fun u=>V.ref u.a).reverse))
  rw[List.map_cons,List.reverse_cons]
 ·simp only[List.map_cons,List.nodup_cons,List.mem_cons,not_or]
  exact⟨⟨n1,n2,Ne.symm m1,n3⟩,⟨n4,Ne.symm m2,n5⟩,⟨Ne.symm m3,n6⟩,m4,n7⟩
 ·intro a ha
  simp only[List.map_cons,List.mem_cons]at ha
  rcases ha with rfl|rfl|rfl|ha
  ·exact R.fl _ (by simp)
  ·exact R.fl _ (by simp)
  ·exact hf
  ·exact R.fl _ (by simp only[List.mem_cons];exact .inr (.inr ha))
theorem RunAt.pop (R:RunAt P w A H0 H r ln inp L S) {u:VL} {us:List VL} {t:Vst} {ts:List Vst} (hL:L.vs=u::us) (hS:S.vis=t::ts) (b:But L.lv H H') (hl:H' L.lv=some (.lst ((us.map fun u=>V.ref u.a).reverse))) :
  RunAt P w A H0 H' r ln inp {L with vs:=us} {S with vis:=ts}:=by
 have nd:=R.nd
 rw[hL]at nd
 simp only[List.map_cons,List.nodup_cons,List.mem_cons,not_or]at nd
 obtain⟨⟨n1,n2,n8,n3⟩,⟨n4,n9,n5⟩,⟨n10,n6⟩,n11,n7⟩:=nd
 obtain⟨g1,g2,g3,g4,g5,g6⟩:=R.lst0 R.visl b (R.fl _ (by simp))
 rw[hL,hS]at g3
 have rs:=R.res
 rw[hL,hS]at rs
 cases g3 with
 |cons _ g3=>
  cases rs with
  |cons _ rs=>
   refine⟨g1,g2,hl,g3,res_ne rs b n5,g4,g5,b _ _ R.made (Ne.symm n4),b _ _ R.ending n1,g6,R.asl,R.asn,?_,R.ncf,R.fr,?_,R.fd,R.fa,R.fle⟩
   ·simp only[List.nodup_cons,List.mem_cons,not_or]
    exact⟨⟨n1,n2,n3⟩,⟨n4,n5⟩,n6,n7⟩
   ·intro a ha
    refine R.fl a ?_
    rw[hL]
    simp only[List.map_cons,List.mem_cons]at ha ⊢
    rcases ha with h|h|h
    ·exact .inl h
    ·exact .inr (.inl h)
    ·exact .inr (.inr (.inr h))
theorem RunAt.app (R:RunAt P w A H0 H r ln inp L S) {u:VL} {us:List VL} {t:Vst} {ts:List Vst} {xs:List V} {v:Vl} {x:V} (hL:L.vs=u::us) (hS:S.vis=t::ts) (hx:H u.lr=some (.lst xs)) (hv:VRel L.as v x) (b:But u.lr H H') (hl:H' u.lr=some (.lst (xs++[x]))) :
  RunAt P w A H0 H' r ln inp L {S with vis:={t with res:=t.res++[v]}::ts}:=by
 have nd:=R.nd
 rw[hL]at nd
 simp only[List.map_cons,List.nodup_cons,List.mem_cons,not_or]at nd
 obtain⟨⟨n1,n2,n8,n3⟩,⟨n4,n9,n5⟩,⟨n10,n6⟩,n11,n7⟩:=nd
 obtain⟨g1,g2,g3,g4,g5,g6⟩:=R.lst0 hx b (R.fl _ (by rw[hL];simp))
 rw[hL,hS]at g3
 have rs:=R.res
 rw[hL,hS]at rs
 cases g3 with
 |cons g0 g3=>
  cases rs with
  |cons r0 rs=>
   obtain⟨ys,e,z⟩:=r0
   rw[hx]at e
   cases e
   refine⟨g1,g2,b _ _ R.visl n9,?_,?_,g4,g5,b _ _ R.made n10,b _ _ R.ending n8,g6,R.asl,R.asn,R.nd,R.ncf,R.fr,R.fl,R.fd,R.fa,R.fle⟩
   ·rw[hL]
    exact .cons g0 g3
   ·rw[hL]
    exact .cons ⟨_,hl,z.snoc hv⟩ (res_ne rs b n11)
theorem But.ins {p:Addr} {C a:Addr} {fs:List (Str×V)} {u:HO} (b:But p H H') (hp:H p=some u) (hu:∀dx,HO.ins C dx fs≠u) (h:InsAt C H a fs):InsAt C H' a fs:=let⟨dx,e⟩:=h;⟨dx,b _ _ e (ne_of e hp (hu dx))⟩
theorem RunAt.putF (R:RunAt P w A H0 H r ln inp L S) {fl:List Vacfaa.Flow} (b:But L.df H H') (hl:NestAt P w shF H' L.df (fl.map flowK)):RunAt P w A H0 H' r ln inp L {S with m:={S.m with flows:=fl}}:=by
 obtain⟨xs,ep,e,_⟩:=R.flows
 have fk:FKeep A H H':=.of b e (by intro f;exact f)
 have nl:∀{p:Addr} {ys:List V},H p=some (.lst ys)->p≠L.df:=fun h=>ne_of h e (by intro z;cases z)
 refine⟨same_but R.same b R.fd.2,b _ _ R.run (ne_of R.run e (by intro z;cases z)),b _ _ R.visl (nl R.visl),Paired.mono (fun _ _ h=>h.keep fk) R.vis,res_kind R.res b e (by intro xs z;cases z),nest_but R.calls b R.ncf (fun ys q=>by rw[e]at q;cases q),hl,b _ _ R.made (nl R.made),b _ _ R.ending (nl R.ending),
  fun i o h=>let⟨a,z,h1,h2,h3⟩:=R.obs i o h;⟨a,z,h1,h2,h3.keep fk fun fs q=>b.ins e (by intro _ z;cases z) q⟩,R.asl,R.asn,R.nd,R.ncf,R.fr,R.fl,R.fd,R.fa,R.fle⟩
theorem RunAt.putC (R:RunAt P w A H0 H r ln inp L S) {cl:List Vacfaa.Call} (b:But L.dc H H') (hl:NestAt P w shC H' L.dc (cl.map callK)):RunAt P w A H0 H' r ln inp L {S with m:={S.m with calls:=cl}}:=by
 obtain⟨xs,ep,e,_⟩:=R.calls
 have fk:FKeep A H H':=.of b e (by intro f;exact f)
 have nl:∀{p:Addr} {ys:List V},H p=some (.lst ys)->p≠L.dc:=fun h=>ne_of h e (by intro z;cases z)
 refine⟨same_but R.same b R.fd.1,b _ _ R.run (ne_of R.run e (by intro z;cases z)),b _ _ R.visl (nl R.visl),Paired.mono (fun _ _ h=>h.keep fk) R.vis,res_kind R.res b e (by intro xs z;cases z),hl,nest_but R.flows b (Ne.symm R.ncf) (fun ys q=>by rw[e]at q;cases q),b _ _ R.made (nl R.made),b _ _ R.ending (nl R.ending),
  fun i o h=>let⟨a,z,h1,h2,h3⟩:=R.obs i o h;⟨a,z,h1,h2,h3.keep fk fun fs q=>b.ins e (by intro _ z;cases z) q⟩,R.asl,R.asn,R.nd,R.ncf,R.fr,R.fl,R.fd,R.fa,R.fle⟩
theorem RunAt.lay (R:RunAt P w A H0 H r ln inp L S) {o:Ob} {bd:Bnd} {a:Addr×Nat} (ho:ObAt A H L.as a o bd) (ha:H0 a.1=none) (hn:a.1 ∉ L.as.map (·.1)) (b:But L.lm H H') (hl:H' L.lm=some (.lst (natV (S.m.heap.map Vacfaa.objLabel)++[.int (Vacfaa.objLabel o)]))) (hc:S.clos.length=S.m.heap.length) :
  RunAt P w A H0 H' r ln inp {L with as:=L.as++[a]} (Mth.lay o bd S):=by
 have nd:=R.nd
 simp only[List.nodup_cons,List.mem_cons,not_or]at nd
 obtain⟨⟨n1,n2,n3⟩,⟨n4,n5⟩,n6,n7⟩:=nd
 obtain⟨g1,g2,g3,g4,g5,g6⟩:=R.lst0 R.made b (R.fl _ (by simp))
 have fk:FKeep A H H':=.of b R.made (by intro f;exact f)
 refine⟨g1,g2,b _ _ R.visl n4,Paired.mono (fun _ _ h=>h.more) g3,Paired.mono (fun _ _ h=>h.more) (res_ne R.res b n6),g4,g5,?_,b _ _ R.ending n2,?_,?_,?_,R.nd,R.ncf,R.fr,R.fl,R.fd,?_,R.fle⟩
 ·rw[hl]
  simp[natV,natI,Mth.lay]
 ·intro i o' h
  have h:(S.m.heap++[o])[i]?=some o':=h
  by_cases hi:i<S.m.heap.length
  ·rw[List.getElem?_append_left hi]at h
   obtain⟨a',b',h1,h2,h3⟩:=g6 i o' h
   exact⟨a',b',get_more h1,get_more h2,h3.more⟩
  ·have e0:i=S.m.heap.length:=by
    by_cases e:i=S.m.heap.length
    ·exact e
    ·rw[List.getElem?_eq_none (by simp;omega)]at h
     cases h
   subst e0
   rw[List.getElem?_append_right (Nat.le_refl _),Nat.sub_self]at h
   cases h
   refine⟨a,bd,?_,?_,(ho.keep fk fun fs ⟨dx,q⟩=>⟨dx,b _ _ q (ne_lst R.made q)⟩).more⟩
   ·show(L.as++[a])[S.m.heap.length]?=some a
    rw[<-R.asl,List.getElem?_append_right (Nat.le_refl _),Nat.sub_self]
    rfl
   ·show(S.clos++[bd])[S.m.heap.length]?=some bd
    rw[<-hc,List.getElem?_append_right (Nat.le_refl _),Nat.sub_self]
    rfl
 ·show(L.as++[a]).length=(S.m.heap++[o]).length
  rw[List.length_append,List.length_append,R.asl]
  rfl
 ·show((L.as++[a]).map (·.1)).Nodup
  rw[List.map_append]
  refine List.nodup_append.mpr ⟨R.asn,by simp,fun x hx y hy e=>?_⟩
  simp at hy
  subst hy
  subst e
  exact hn hx
 ·intro z hz
  rcases List.mem_append.mp hz with k|k
  ·exact R.fa z k
  ·rw[List.mem_singleton.mp k];exact ha
include nC
theorem RunAt.setRef (R:RunAt P w A H0 H r ln inp L S) {i k:Nat} {a dx:Addr} {v0 v:Vl} {x:V} (hi:L.as[i]?=some (a,3)) (ho:S.m.heap[i]?=some (.ref k v0)) (hv:VRel L.as v x) (hx:∃fs,H a=some (.ins A.cRf dx fs)) (b:But a H H') (hl:H' a=some (.ins A.cRf dx (fRf (.int k) x))) :
  RunAt P w A H0 H' r ln inp L {S with m:={S.m with heap:=S.m.heap.set i (.ref k v)}}:=by
 obtain⟨fs,e⟩:=hx
 obtain⟨_,_,_,_,c1,c2,c3,c4⟩:=cls_ne nC
 have fk:FKeep A H H':=.of b e (fun f=>f.elim c1 fun f=>f.elim c2 c3)
 have nl:∀{p:Addr} {ys:List V},H p=some (.lst ys)->p≠a:=fun h=>ne_of h e (by intro z;cases z)
 have h0:H0 a=none:=R.fa _ (List.mem_of_getElem? hi)
 have lb:(S.m.heap.set i (.ref k v)).map Vacfaa.objLabel=S.m.heap.map Vacfaa.objLabel:=by
  rw[List.map_set]
  refine List.ext_getElem? fun j=>?_
  rw[List.getElem?_set]
  by_cases q:i=j
  ·subst q
   rw[if_pos rfl]
   split
   ·rw[List.getElem?_map,ho];rfl
   ·rename_i z
    rw[List.getElem?_eq_none (by omega)]
  ·rw[if_neg q]
 obtain⟨_,_,qc,_⟩:=R.calls
 obtain⟨_,_,qf,_⟩:=R.flows
 refine⟨same_but R.same b h0,b _ _ R.run (ne_of R.run e (by intro z;injection z with k1;exact c4 k1.symm)),b _ _ R.visl (nl R.visl),Paired.mono (fun _ _ h=>h.keep fk) R.vis,res_kind R.res b e (by intro xs z;cases z),nest_but R.calls b (ne_of qc e (by intro z;cases z)) (fun ys q=>by rw[e]at q;cases q),
  nest_but R.flows b (ne_of qf e (by intro z;cases z)) (fun ys q=>by rw[e]at q;cases q),?_,b _ _ R.ending (nl R.ending),?_,?_,R.asn,R.nd,R.ncf,R.fr,R.fl,R.fd,R.fa,R.fle⟩
 ·show H' L.lm=some (.lst (natV ((S.m.heap.set i (.ref k v)).map Vacfaa.objLabel)))
  rw[lb]
  exact b _ _ R.made (nl R.made)
 ·intro j o h
  have h:(S.m.heap.set i (.ref k v))[j]?=some o:=h
  rw[List.getElem?_set]at h
  by_cases q:i=j
  ·subst q
   rw[if_pos rfl]at h
   split at h
   ·cases h
    obtain⟨a',b',h1,h2,_⟩:=R.obs i _ ho
    rw[hi]at h1
    cases h1
    exact⟨_,b',hi,h2,rfl,x,⟨dx,hl⟩,hv⟩
   ·cases h
  ·rw[if_neg q]at h
   obtain⟨a',b',h1,h2,h3⟩:=R.obs j o h
   refine⟨a',b',h1,h2,h3.keep fk fun fs' ⟨dx',k'⟩=>⟨dx',b _ _ k' fun z=>q ?_⟩⟩
   have g1:(L.as.map (·.1))[i]?=some a:=by rw[List.getElem?_map,hi];rfl
   have g2:(L.as.map (·.1))[j]?=some a:=by rw[List.getElem?_map,h1,<-z];rfl
   exact nd_ix R.asn g1 g2
 ·show L.as.length=(S.m.heap.set i (.ref k v)).length
  rw[List.length_set]
  exact R.asl
end
section
variable {P:Program} {w:World} {K:PySem.W.Frag} {mg:Str->Option Value} {base:Heap} {A:Ad}
inductive spCome (P:Program) (w:World) (A:Ad) (vs:List V) (H:Hp) (Q:VK) (E:XK):Prop
 |mk (H0:Hp) (r ln:Addr) (inp:Nat) (L:RLay) (S:MS) (l:Nat) (ts d:Addr) (c:List Nat) (b:Bnd) (_:vs=[.ref r,.int l,.ref ts,.ref d]) (_:RunAt P w A H0 H r ln inp L S) (_:S.fin=none) (_:S.vis.length<1000) (_:H ts=some (.tup (ctxV c))) (_:BndAt H L.as d b) (_:∀H' L',RunAt P w A H0 H' r ln inp L' (Mth.comeTo l c b S)->Q .non H')
theorem scCome:FnScope ["self","label","string","bound"] ["self","label","string","bound"] (defScope (inClass (top 32) 2)):=⟨rfl,rfl,rfl,by decide +kernel,rfl,by decide +kernel,by decide +kernel⟩
theorem res_there {H:Hp} {as:List (Addr×Nat)} {us:List VL} {ts:List Vst} (h:Paired (ResAt H as) us ts):∀u∈us,∃xs,H u.lr=some (.lst xs):=by
 induction h with
 |nil=>intro u hu;cases hu
 |cons q _ ih=>
  intro u hu
  rcases List.mem_cons.mp hu with rfl|k
  ·obtain⟨xs,e,_⟩:=q
   exact⟨xs,e⟩
  ·exact ih u k
theorem RunAt.fresh_end {H0 H:Hp} {r ln:Addr} {inp:Nat} {L:RLay} {S:MS} (R:RunAt P w A H0 H r ln inp L S) {le:Addr} (h:H le=none):le ∉ L.le::L.lv::L.lm::L.vs.map VL.lr:=by
 intro hm
 simp only[List.mem_cons,List.mem_map]at hm
 rcases hm with rfl|rfl|rfl|⟨u,hu,rfl⟩
 ·rw[R.ending]at h;cases h
 ·rw[R.visl]at h;cases h
 ·rw[R.made]at h;cases h
 ·obtain⟨xs,e⟩:=res_there R.res u hu
  rw[e]at h;cases h
theorem free_made {H:Hp} {x dx C a:Addr} (h:(upd (upd H dx (.own x)) x (.ins C dx [])) a=none):H a=none:=by
 have n1:a≠x:=fun e=>by rw[e,upd_same]at h;cases h
 rw[upd_ne n1]at h
 have n2:a≠dx:=fun e=>by rw[e,upd_same]at h;cases h
 rw[upd_ne n2]at h
 exact h
theorem ok_come {f:Addr} {fd:FuncData} (T:Txt K w mg A) (F:Fun K "come_to" "Run.come_to" (inClass (top 32) 2) f fd) (gVs:KOk P w K mg base CX0 1 A.cVs "Visit" ["self","label","string","bound"] (spVsI A)) :
  FnOk P w K mg base CX0 3 f fd ["self","label","string","bound"] (spCome P w A):=by
 refine F.ok scCome (fun vs H Q E h=>?_) (fun cdv AA outer s H vs Q E hr h=>?_)
 ·obtain⟨H0,r,ln,inp,L,S,l,ts,d,c,b,rfl,_⟩:=h
  rfl
 ·obtain⟨H0,r,ln,inp,L,S,l,ts,d,c,b,rfl,R,hf,hv,hts,hd,q⟩:=h
  refine⟨_,pss_one (ps_if (pt_cmpR op_eq (pf (pv 0)) (gi T 300) (nomark _)) (pss_one (ps_fld (pv 0) (pe_lst (pa_cons (gi T 2) (pa_cons (pf (pv 0)) pa_nil))) rfl))
   (pss_cons (ps_fldaug (pv 0) pe_int in_add) (pss_one (ps_expr (pe_bm PySem.F.plainAttrs_list PySem.F.slot_list_append PySem.F.type_list_append mt_append (pf (pv 0)) (pa_cons (pe_kk gVs hr (by decide) rfl pass0 (pa_cons (pv 1) (pa_cons (pv 2) (pa_cons (pv 3) pa_nil)))) pa_nil)))))),?_⟩
  refine ifEq rfl ⟨_,R.run⟩ T.kRn T.nRn rfl (fun e=>?_) fun e=>?_
  ·have e:S.m.steps=300:=by omega
   refine rdF rfl ⟨_,R.run⟩ T.kRn T.nRn rfl ?_
   refine⟨(by show 2<=sizeLine;decide),fun le hle=>?_⟩
   have R1:=R.keep (same_new (o:=.lst [.int 2,.int S.m.steps]) hle)
   refine⟨_,rfl,r,_,_,_,rfl,R1.run,T.kRn,T.nRn,(by show 8<1000;decide),?_⟩
   have hm:Mth.comeTo l c b S={S with m:={S.m with steps:=S.m.steps},fin:=some [2,S.m.steps]}:=by
    unfold Mth.comeTo
    rw[if_pos e]
   have nl:le≠r:=fun z=>by rw[z,R.run]at hle;cases hle
   refine q _ {L with le:=le} ?_
   rw[hm]
   exact R1.setRun T.nd But.put upd_same (by rw[upd_ne nl];exact upd_same) (fun z=>R.fresh_end hle (List.mem_cons_of_mem _ z)) (R.same.free hle)
  ·have e:¬ S.m.steps=300:=fun z=>e (by rw[z];rfl)
   refine⟨_,rfl,r,_,_,_,_,rfl,R.run,T.kRn,T.nRn,rfl,_,_,rfl,rfl,_,_,R.run,(by show 8<1000;decide),?_⟩
   have nle:L.le≠r:=ne_of R.ending R.run (by intro z;cases z)
   have R1:=R.setRun (H':=upd H r (.ins A.cRn L.dx (fRn (.ref ln) inp ((S.m.steps+1:Nat):Int) L.lv L.dc L.df L.lm L.le))) (st:=S.m.steps+1) (le:=L.le) (fin:=none) T.nd But.put upd_same
    (by rw[upd_ne nle];have:=R.ending;rw[hf]at this;exact this) (List.nodup_cons.mp R.nd).1 R.fle
   have e1:upd H r (.ins A.cRn L.dx (putF "steps" (.int ((S.m.steps:Int)+1)) (fRn (.ref ln) inp S.m.steps L.lv L.dc L.df L.lm L.le)))=upd H r (.ins A.cRn L.dx (fRn (.ref ln) inp ((S.m.steps+1:Nat):Int) L.lv L.dc L.df L.lm L.le)):=rfl
   rw[e1]
   have hts1:(upd H r (.ins A.cRn L.dx (fRn (.ref ln) inp ((S.m.steps+1:Nat):Int) L.lv L.dc L.df L.lm L.le))) ts=some (.tup (ctxV c)):=by rw[upd_ne (ne_of hts R.run (by intro z;cases z))];exact hts
   have hd1:BndAt (upd H r (.ins A.cRn L.dx (fRn (.ref ln) inp ((S.m.steps+1:Nat):Int) L.lv L.dc L.df L.lm L.le))) L.as d b:=by
    obtain⟨kvs,k1,k2⟩:=hd
    exact⟨kvs,by rw[upd_ne (ne_of k1 R.run (by intro z;cases z))];exact k1,k2⟩
   generalize upd H r (.ins A.cRn L.dx (fRn (.ref ln) inp ((S.m.steps+1:Nat):Int) L.lv L.dc L.df L.lm L.le))=H1 at R1 hts1 hd1
   refine rdF rfl ⟨_,R1.run⟩ T.kRn T.nRn rfl ?_
   refine⟨.inl ⟨rfl,_,SqL.of R1.visl⟩,_,rfl,_,rfl,_,rfl,?_⟩
   intro x dx nx nd ne
   refine⟨x,dx,_,_,_,rfl,upd_same,fun H2 lr hi hl0 hl hb=>⟨rfl,?_⟩⟩
   have s2:Same H1 H2:=But.made nx nd hb
   have R2:=R1.keep s2
   have f1:H1 lr=none:=free_made hl0
   refine⟨L.lv,_,_,rfl,rfl,R2.visl,?_,?_⟩
   ·rw[List.length_reverse,List.length_map,Paired.length R1.vis]
    exact Nat.lt_trans hv (by decide)
   have hm:Mth.comeTo l c b S={S with m:={S.m with steps:=S.m.steps+1},fin:=none,vis:=⟨l,c,b,[]⟩::S.vis}:=by
    unfold Mth.comeTo
    rw[if_neg e,hf]
   refine q _ {L with vs:=⟨x,ts,d,lr⟩::L.vs} ?_
   rw[hm]
   exact R2.push (u:=⟨x,ts,d,lr⟩) (t:=⟨l,c,b,[]⟩) ⟨hi,s2 _ _ hts1,let⟨kvs,k1,k2⟩:=hd1;⟨kvs,s2 _ _ k1,k2⟩⟩ ⟨[],hl,.nil⟩ (R1.same.free f1) (R1.fresh_end f1) But.put upd_same
inductive spWrong (P:Program) (w:World) (A:Ad) (vs:List V) (H:Hp) (Q:VK) (E:XK):Prop
 |mk (H0:Hp) (r ln:Addr) (inp:Nat) (L:RLay) (S:MS) (v:Addr) (l:Nat) (s b:V) (lr:Addr) (_:vs=[.ref r,.ref v]) (_:RunAt P w A H0 H r ln inp L S) (_:InsAt A.cVs H v (fVs (.int l) s b lr)) (_:∀H' L',RunAt P w A H0 H' r ln inp L' {S with fin:=some [1,l,S.m.steps]}->Q .non H')
theorem scWrong:FnScope ["self","visit"] ["self","visit"] (defScope (inClass (top 32) 8)):=⟨rfl,rfl,rfl,by decide +kernel,rfl,by decide +kernel,by decide +kernel⟩
theorem ok_wrong {f:Addr} {fd:FuncData} (T:Txt K w mg A) (F:Fun K "go_wrong" "Run.go_wrong" (inClass (top 32) 8) f fd):FnOk P w K mg base CX0 1 f fd ["self","visit"] (spWrong P w A):=by
 refine F.ok scWrong (fun vs H Q E h=>?_) (fun cdv AA outer s H vs Q E hr h=>?_)
 ·obtain⟨H0,r,ln,inp,L,S,v,l,s,b,lr,rfl,_⟩:=h
  rfl
 ·obtain⟨H0,r,ln,inp,L,S,v,l,z,b,lr,rfl,R,hv,q⟩:=h
  refine⟨_,pss_one (ps_fld (pv 0) (pe_lst (pa_cons (gi T 1) (pa_cons (pf (pv 1)) (pa_cons (pf (pv 0)) pa_nil)))) rfl),?_⟩
  refine rdF rfl hv T.kVs T.nVs rfl ?_
  refine rdF rfl ⟨_,R.run⟩ T.kRn T.nRn rfl ?_
  refine⟨(by show 3<=sizeLine;decide),fun le hle=>?_⟩
  have R1:=R.keep (same_new (o:=.lst [.int 1,.int l,.int S.m.steps]) hle)
  refine⟨_,rfl,r,_,_,_,rfl,R1.run,T.kRn,T.nRn,(by show 8<1000;decide),?_⟩
  have nl:le≠r:=fun z=>by rw[z,R.run]at hle;cases hle
  exact q _ {L with le:=le} (R1.setRun (st:=S.m.steps) (fin:=some [1,l,S.m.steps]) T.nd But.put upd_same (by rw[upd_ne nl];exact upd_same) (fun z=>R.fresh_end hle (List.mem_cons_of_mem _ z)) (R.same.free hle))
theorem RunAt.obj {H0 H:Hp} {r ln:Addr} {inp:Nat} {L:RLay} {S:MS} (R:RunAt P w A H0 H r ln inp L S) {i:Nat} {a:Addr×Nat} (h:L.as[i]?=some a):∃o b,S.m.heap[i]?=some o/\S.clos[i]?=some b/\ObAt A H L.as a o b:=by
 have hi:i<S.m.heap.length:=by rw[<-R.asl];exact(List.getElem?_eq_some_iff.mp h).1
 obtain⟨o,ho⟩:=Mth.some_at hi
 obtain⟨a',b,h1,h2,h3⟩:=R.obs i o ho
 rw[h]at h1
 cases h1
 exact⟨o,b,ho,h2,h3⟩
theorem RunAt.val {H0 H:Hp} {r ln:Addr} {inp:Nat} {L:RLay} {S:MS} (R:RunAt P w A H0 H r ln inp L S) {v:Vl} {x:V} (h:VRel L.as v x):∃k l:Nat,ValAt A H x k l/\Vacfaa.toldAbs (Vacfaa.absOf S.m.heap v)=[k,l]/\(k=0->∃n,v=.num n):=by
 cases v with
 |num n=>
  have h:x=.int n:=h
  subst h
  exact⟨0,0,.num _,rfl,fun _=>⟨n,rfl⟩⟩
 |clo i=>
  obtain⟨a,h1,rfl⟩:=h
  obtain⟨o,b,ho,_,hb⟩:=R.obj h1
  cases o with
  |clo l env=>
   obtain⟨_,d,hi,_⟩:=hb
   exact⟨1,l,.clo hi,by simp[Vacfaa.absOf,Vacfaa.labelIn,ho,Vacfaa.toldAbs,Vacfaa.objLabel],fun z=>by cases z⟩
  |pair l v w=>cases hb.1
  |ref l v=>cases hb.1
 |pair i=>
  obtain⟨a,h1,rfl⟩:=h
  obtain⟨o,b,ho,_,hb⟩:=R.obj h1
  cases o with
  |clo l env=>cases hb.1
  |pair l v w=>
   obtain⟨_,x,y,hi,_⟩:=hb
   exact⟨2,l,.pair hi,by simp[Vacfaa.absOf,Vacfaa.labelIn,ho,Vacfaa.toldAbs,Vacfaa.objLabel],fun z=>by cases z⟩
  |ref l v=>cases hb.1
 |ref i=>
  obtain⟨a,h1,rfl⟩:=h
  obtain⟨o,b,ho,_,hb⟩:=R.obj h1
  cases o with
  |clo l env=>cases hb.1
  |pair l v w=>cases hb.1
  |ref l v=>
   obtain⟨_,x,hi,_⟩:=hb
   exact⟨3,l,.ref hi,by simp[Vacfaa.absOf,Vacfaa.labelIn,ho,Vacfaa.toldAbs,Vacfaa.objLabel],fun z=>by cases z⟩
theorem natI_inj {a b:List Nat} (h:natI a=natI b):a=b:=by
 unfold natI at h
 exact(List.map_inj_right (fun x y e=>Int.ofNat.inj e)).mp h
theorem tk1 {a b k l:Nat} (h:[a,b]=[k,l]):a=k:=(List.cons.inj h).1
theorem told_inj {a b:Vacfaa.Abs} (h:Vacfaa.toldAbs a=Vacfaa.toldAbs b):a=b:=by
 cases a<;>cases b<;>simp[Vacfaa.toldAbs]at h<;>simp[h]
theorem flowK_inj {a b:Vacfaa.Flow} (h:flowK a=flowK b):a=b:=by
 obtain⟨l,c,x⟩:=a
 obtain⟨l',c',x'⟩:=b
 simp only[flowK,List.cons.injEq,Sum.inl.injEq,Sum.inr.injEq,and_true]at h
 obtain⟨h1,h2,h3⟩:=h
 rw[Int.ofNat.inj h1,natI_inj h2,told_inj (natI_inj h3)]
theorem callK_inj {a b:Vacfaa.Call} (h:callK a=callK b):a=b:=by
 obtain⟨l,c,x⟩:=a
 obtain⟨l',c',x'⟩:=b
 simp only[callK,List.cons.injEq,Sum.inl.injEq,Sum.inr.injEq,and_true]at h
 obtain⟨h1,h2,h3⟩:=h
 rw[Int.ofNat.inj h1,Int.ofNat.inj h2,natI_inj h3]
theorem addN_map {α:Type} [DecidableEq α] {k:α->List NItem} (inj:∀a b,k a=k b->a=b) (l:List α) (x:α):addN (l.map k) (k x)=(Vacfaa.addTo l x).map k:=by
 unfold addN Vacfaa.addTo
 have e:((l.map k).any fun y=>decide (y=k x))=l.contains x:=by
  rw[Bool.eq_iff_iff,List.any_eq_true,List.contains_iff_mem]
  constructor
  ·rintro⟨y,hy,e⟩
   obtain⟨z,hz,rfl⟩:=List.mem_map.mp hy
   rw[<-inj _ _ (of_decide_eq_true e)]
   exact hz
  ·intro h
   exact⟨k x,List.mem_map.mpr ⟨x,h,rfl⟩,decide_eq_true rfl⟩
 rw[e]
 split
 ·rfl
 ·rw[List.map_append];rfl
inductive spGive (P:Program) (w:World) (A:Ad) (vs:List V) (H:Hp) (Q:VK) (E:XK):Prop
 |mk (H0:Hp) (r ln:Addr) (inp:Nat) (L:RLay) (S:MS) (t:Vst) (rest:List Vst) (v:Vl) (x:V) (_:vs=[.ref r,x]) (_:RunAt P w A H0 H r ln inp L S) (_:S.fin=none) (_:S.vis=t::rest) (_:VRel L.as v x) (_:S.m.flows.length<1000) (_:∀u∈rest,u.res.length<1000) (_:∀H' L',RunAt P w A H0 H' r ln inp L' (Mth.give t rest v S)->Q .non H')
theorem scGive:FnScope ["self","value","visit","number"] ["self","value"] (defScope (inClass (top 32) 7)):=⟨rfl,rfl,rfl,by decide +kernel,rfl,by decide +kernel,by decide +kernel⟩
theorem ok_give {f:Addr} {fd:FuncData} (T:Txt K w mg A) (F:Fun K "give" "Run.give" (inClass (top 32) 7) f fd) (gWh:DOk P w K mg base CX0 1 "what_is" ["value"] (spWhat A)):FnOk P w K mg base CX0 3 f fd ["self","value"] (spGive P w A):=by
 refine F.ok scGive (fun vs H Q E h=>?_) (fun cdv AA outer s H vs Q E hr h=>?_)
 ·obtain⟨H0,r,ln,inp,L,S,t,rest,v,x,rfl,_⟩:=h
  rfl
 ·obtain⟨H0,r,ln,inp,L,S,t,rest,v,x,rfl,R,hf,hS,hv,hfl,hrs,q⟩:=h
  have hu:(AA.deeper (envOfC "Run.give" (defScope (inClass (top 32) 7)) s.heap.objs.size f cdv)).units+65<cLine:=by have:=hr.un;omega
  refine⟨_,pss_cons (ps_set (i:=2) scGive.nd rfl (Or.inl rfl) (pe_bm0 PySem.F.plainAttrs_list PySem.F.slot_list_pop PySem.F.type_list_pop mt_pop (pf (pv 0))))
   (pss_cons (ps_nput (sh:=shF) hu (pf (pv 0)) (pe_tup (pa_cons (pf (pv 2)) (pa_cons (pf (pv 2)) (pa_cons (pe_dd gWh hr (by decide) rfl pass0 (pa_cons (pv 1) pa_nil)) pa_nil)))) pe_bl rfl)
   (pss_one (ps_if (pt_truth (pf (pv 0)) (fun _=>rfl))
    (pss_one (ps_expr (pe_bm PySem.F.plainAttrs_list PySem.F.slot_list_append PySem.F.type_list_append mt_append (pf (pe_ix ix_list (pf (pv 0)) (pe_un un_neg pe_int) (fun _ _=>rfl))) (pa_cons (pv 1) pa_nil))))
    (pss_cons (ps_set (i:=3) scGive.nd rfl (Or.inl rfl) (pe_ifExp (pt_val (pe_isInt T (pv 1))) (pv 1) pe_int))
    (pss_one (ps_fld (pv 0) (pe_op op_cat (pe_op op_cat (pe_lst (pa_cons (gi T 0) pa_nil)) (pe_callTy call_list_of rfl (T.bl "list") bt_list (pa_cons (pe_dd gWh hr (by decide) rfl pass0 (pa_cons (pv 1) pa_nil)) pa_nil))) (pe_lst (pa_cons (pv 3) (pa_cons (pf (pv 0)) pa_nil)))) rfl)))))),?_⟩
  obtain⟨u,us,hL,hu0⟩:∃u us,L.vs=u::us/\VsF A H L.as u t:=by
   have h:=R.vis
   rw[hS]at h
   cases hv:L.vs with
   |nil=>rw[hv]at h;cases h
   |cons u us=>rw[hv]at h;cases h with|cons h1 h2=>exact⟨u,us,rfl,h1⟩
  have e0:H L.lv=some (.lst ((us.map fun u=>V.ref u.a).reverse++[V.ref u.a])):=by
   have:=R.visl
   rw[hL,List.map_cons,List.reverse_cons]at this
   exact this
  refine rdF rfl ⟨_,R.run⟩ T.kRn T.nRn rfl ?_
  refine⟨.inl ⟨rfl,_,SqL.of e0⟩,L.lv,_,V.ref u.a,rfl,rfl,e0,(by simp),?_⟩
  rw[List.dropLast_concat]
  have fk:FKeep A H (upd H L.lv (.lst ((us.map fun u=>V.ref u.a).reverse))):=.of But.put R.visl (fun f=>f)
  have R1:=R.pop hL hS But.put (upd_same (H:=H) (a:=L.lv) (o:=.lst ((us.map fun u=>V.ref u.a).reverse)))
  have hu1:=hu0.keep fk
  have hv1:VRel ({L with vs:=us}:RLay).as v x:=hv
  generalize upd H L.lv (.lst ((us.map fun u=>V.ref u.a).reverse))=H1 at R1 hu1
  obtain⟨k,l,hval,htold,hnum⟩:=R1.val hv1
  have htold:Vacfaa.toldAbs (Vacfaa.absOf S.m.heap v)=[k,l]:=htold
  refine rdF rfl ⟨_,R1.run⟩ T.kRn T.nRn rfl ?_
  iterate 2 refine rdF rfl hu1.1 T.kVs T.nVs rfl ?_
  refine⟨_,rfl,x,k,l,rfl,hval,fun t1 h1=>?_⟩
  refine⟨(by show 3<=sizeLine;decide),fun t2 h2=>?_⟩
  have s2:Same H1 (upd H1 t1 (.tup [.int k,.int l])):=same_new h1
  have s3:Same (upd H1 t1 (.tup [.int k,.int l])) (upd (upd H1 t1 (.tup [.int k,.int l])) t2 (.tup [.int t.lab,.ref u.ts,.ref t1])):=same_new h2
  have R3:=R1.keep (s2.trans s3)
  have ht1:(upd (upd H1 t1 (.tup [.int k,.int l])) t2 (.tup [.int t.lab,.ref u.ts,.ref t1])) t1=some (.tup (natV (Vacfaa.toldAbs (Vacfaa.absOf S.m.heap v)))):=by
   rw[htold]
   exact s3 _ _ upd_same
  have hts:(upd (upd H1 t1 (.tup [.int k,.int l])) t2 (.tup [.int t.lab,.ref u.ts,.ref t1])) u.ts=some (.tup (natV t.ctx)):=(s2.trans s3) _ _ hu1.2.1
  have hkey:NKeyAt (upd (upd H1 t1 (.tup [.int k,.int l])) t2 (.tup [.int t.lab,.ref u.ts,.ref t1])) (flowK ⟨t.lab,t.ctx,Vacfaa.absOf S.m.heap v⟩) t2:=⟨_,upd_same,.int (.tup hts (.tup ht1 .nil))⟩
  have hval3:ValAt A (upd (upd H1 t1 (.tup [.int k,.int l])) t2 (.tup [.int t.lab,.ref u.ts,.ref t1])) x k l:=hval.same (s2.trans s3)
  generalize upd (upd H1 t1 (.tup [.int k,.int l])) t2 (.tup [.int t.lab,.ref u.ts,.ref t1])=H3 at R3 hkey hval3
  refine⟨L.df,t2,_,_,rfl,rfl,R3.flows,hkey,rfl,(by rw[List.length_map];exact Nat.lt_trans hfl (by decide)),fun o hN=>?_⟩
  rw[addN_map (fun _ _=>flowK_inj)]at hN
  have R4:=R3.putF But.put hN
  have hval4:ValAt A (upd H3 L.df o) x k l:=by
   obtain⟨xs,ep,e,_⟩:=R3.flows
   have e:H3 L.df=some (nestO P w shF L.df xs ep):=e
   cases hval3 with
   |num i=>exact .num i
   |clo h=>exact .clo (But.put.ins e (by intro _ z;cases z) h)
   |pair h=>exact .pair (But.put.ins e (by intro _ z;cases z) h)
   |ref h=>exact .ref (But.put.ins e (by intro _ z;cases z) h)
  generalize upd H3 L.df o=H4 at R4 hval4
  refine rdF rfl ⟨_,R4.run⟩ T.kRn T.nRn rfl ?_
  refine⟨_,.inl ⟨_,SqL.of R4.visl,rfl⟩,?_⟩
  have hp:=R.vis
  rw[hL,hS]at hp
  cases hp with
  |cons _ hp=>
   cases hp with
   |nil=>
    refine iteF ?_
    have fin:∀n:Nat,n=Mth.numOf v->(tSeq tNext (sFld K (tVar 0) (tOp rCat (tOp rCat (tLst (tCons (tC (.int 0)) tNil)) (tCB (fun xs H Q=>∃p ys,xs=[.ref p]/\(SqL K H p ys\/SqT K H p ys)/\∀l,H l=none->Q (.ref l) (upd H l (.lst ys))) (tCons (tCall (spWhat A) [] E0 (tCons (tVar 1) tNil)) tNil)))
      (tLst (tCons (tVar 3) (tCons (tF K (tVar 0) "steps") tNil)))) "ending")) {nx:=fun _ H'=>Q .non H',rt:=Q} [some (.ref r),some x,some (.ref u.a),some (.int n)] H4:=by
     intro n hn
     refine⟨(by show 1<=sizeLine;decide),fun p1 g1=>?_⟩
     have z1:Same H4 (upd H4 p1 (.lst [.int 0])):=same_new g1
     refine⟨_,rfl,x,k,l,rfl,hval4.same z1,fun t3 g3=>?_⟩
     have z3:=z1.trans (same_new (o:=.tup [.int k,.int l]) g3)
     refine⟨t3,_,rfl,.inr (SqT.of upd_same),fun l2 g4=>?_⟩
     have z4:=z3.trans (same_new (o:=.lst [.int k,.int l]) g4)
     have y1:(upd (upd (upd H4 p1 (.lst [.int 0])) t3 (.tup [.int k,.int l])) l2 (.lst [.int k,.int l])) p1=some (.lst [.int 0]):=same_new g4 _ _ (same_new g3 _ _ upd_same)
     refine⟨p1,l2,_,_,rfl,rfl,y1,upd_same,(by show 3<=sizeLine;decide),fun p3 g5=>?_⟩
     have z5:=z4.trans (same_new (o:=.lst [.int 0,.int k,.int l]) g5)
     have R5:=R4.keep z5
     have y3:(upd (upd (upd (upd H4 p1 (.lst [.int 0])) t3 (.tup [.int k,.int l])) l2 (.lst [.int k,.int l])) p3 (.lst [.int 0,.int k,.int l])) p3=some (.lst [.int 0,.int k,.int l]):=upd_same
     revert R5 y3
     show RunAt P w A H0 (upd (upd (upd (upd H4 p1 (.lst [.int 0])) t3 (.tup [.int k,.int l])) l2 (.lst [.int k,.int l])) p3 (.lst [.int 0,.int k,.int l])) _ _ _ _ _->_->tCons (tVar 3) (tCons (tF K (tVar 0) "steps") tNil) _ (upd (upd (upd (upd H4 p1 (.lst [.int 0])) t3 (.tup [.int k,.int l])) l2 (.lst [.int k,.int l])) p3 (.lst [.int 0,.int k,.int l])) _
     generalize upd (upd (upd (upd H4 p1 (.lst [.int 0])) t3 (.tup [.int k,.int l])) l2 (.lst [.int k,.int l])) p3 (.lst [.int 0,.int k,.int l])=H5
     intro R5 y3
     refine⟨_,rfl,?_⟩
     refine rdF rfl ⟨_,R5.run⟩ T.kRn T.nRn rfl ?_
     refine⟨(by show 2<=sizeLine;decide),fun p4 g6=>?_⟩
     have z6:Same H5 (upd H5 p4 (.lst [.int n,.int S.m.steps])):=same_new g6
     refine⟨p3,p4,_,_,rfl,rfl,z6 _ _ y3,upd_same,(by show 5<=sizeLine;decide),fun p5 g7=>?_⟩
     have z7:=z6.trans (same_new (o:=.lst [.int 0,.int k,.int l,.int n,.int S.m.steps]) g7)
     have R6:=R5.keep z7
     refine⟨_,rfl,r,_,_,_,rfl,R6.run,T.kRn,T.nRn,(by show 8<1000;decide),?_⟩
     have nl:p5≠r:=fun z=>by rw[z,z6 _ _ R5.run]at g7;cases g7
     have ef:Mth.give t [] v S={S with vis:=[],m:={S.m with flows:=Vacfaa.addTo S.m.flows ⟨t.lab,t.ctx,Vacfaa.absOf S.m.heap v⟩,steps:=S.m.steps},fin:=some [0,k,l,n,S.m.steps]}:=by
      unfold Mth.give Mth.deliver
      simp only
      rw[htold,hn]
      rfl
     refine q _ {L with vs:=[],le:=p5} ?_
     rw[ef]
     exact R6.setRun (st:=S.m.steps) (fin:=some [0,k,l,n,S.m.steps]) T.nd But.put upd_same (by rw[upd_ne nl];exact upd_same) (fun z=>(R5.keep z6).fresh_end g7 (List.mem_cons_of_mem _ z)) ((R5.keep z6).same.free g7)
    refine⟨x,rfl,x,k,l,rfl,hval4,_,rfl,?_⟩
    by_cases ek:k=0
    ·obtain⟨n,rfl⟩:=hnum ek
     have hx:x=.int n:=hv
     subst hx
     simp only[ek,decide_true,if_true]
     refine⟨_,rfl,?_⟩
     exact fin n rfl
    ·simp only[ek,decide_false,Bool.false_eq_true,if_false]
     refine fin 0 ?_
     cases v with
     |num n=>exact absurd (tk1 htold).symm ek
     |clo _=>rfl
     |pair _=>rfl
     |ref _=>rfl
   |@cons u2 t2' us2 rest2 hh hp2=>
    have ne:(!(List.map (fun u=>V.ref u.a) (u2::us2)).reverse.isEmpty)=true:=by simp
    rw[ne]
    refine iteT ?_
    have hu2:=R4.vis
    have hr2:=R4.res
    cases hu2 with
    |cons hu2 _=>
     cases hr2 with
     |cons hr2 _=>
      obtain⟨xs,hx,hxr⟩:=hr2
      obtain⟨dx2,hu2i⟩:=hu2.1
      have e4:H4 L.lv=some (.lst ((us2.map fun u=>V.ref u.a).reverse++[V.ref u2.a])):=by
       have:=R4.visl
       simp only[List.map_cons,List.reverse_cons]at this
       exact this
      refine rdU ?_
      refine rdF rfl ⟨_,R4.run⟩ T.kRn T.nRn rfl ?_
      refine⟨1,rfl,L.lv,_,-1,_,rfl,rfl,SqL.of e4,atI_last _ _,u2.a,A.cVs,dx2,_,_,rfl,hu2i,T.kVs,T.nVs,rfl,.inl ⟨rfl,_,SqL.of hx⟩,_,rfl,u2.lr,xs,x,rfl,rfl,hx,?_,?_⟩
      ·rw[<-Paired.length hxr]
       exact Nat.lt_trans (hrs _ (List.mem_cons_self ..)) (by decide)
      ·exact q _ _ (R4.app rfl rfl hx hv But.put upd_same)
end
end Fv
end
section
namespace Fv
open PySem PySem.Spec PyProof.Rows L2
open Mth (MS Vst Bnd RN)
def nameS (w:List UInt8):Str:=⟨(w.map UInt8.toNat).toArray⟩
def biI:Option Nat->Int
 |none=>-1
 |some b=>b
theorem biI_none {o:Option Nat}:biI o=-1↔o=none:=by
 cases o with
 |none=>exact⟨fun _=>rfl,fun _=>rfl⟩
 |some b=>exact⟨fun h=>by have h:(b:Int)=-1:=h;omega,fun h=>by cases h⟩
def fRN (n:RN) (lp:Addr):List (Str×V):=fNd n.kind n.dep n.beg n.beh n.num (nameS n.name) (biI n.bi) lp
structure NodesAt (A:Ad) (H:Hp) (ln:Addr) (ns:List RN):Prop where
 ex:∃as:List Addr,H ln=some (.lst (as.map V.ref))/\as.length=ns.length/\∀(i:Nat) (n:RN),ns[i]?=some n->∃a lp,as[i]?=some a/\InsAt A.cNd H a (fRN n lp)/\H lp=some (.lst (natV n.parts))
theorem NodesAt.same {A:Ad} {H H':Hp} {ln:Addr} {ns:List RN} (N:NodesAt A H ln ns) (s:Same H H'):NodesAt A H' ln ns:=by
 obtain⟨as,h1,h2,h3⟩:=N.ex
 refine⟨as,s _ _ h1,h2,fun i n hn=>?_⟩
 obtain⟨a,lp,k1,k2,k3⟩:=h3 i n hn
 exact⟨a,lp,k1,k2.same s,s _ _ k3⟩
def ndR (n:RN):Mth.Nd:=⟨n.kind,n.num,n.parts,n.bi⟩
def tabR (ns:List RN) (l:Nat):Mth.Nd:=((ns[l]?).map ndR).getD ⟨0,0,[],none⟩
theorem tabR_of {ns:List RN} {l:Nat} {n:RN} (h:ns[l]?=some n):tabR ns l=ndR n:=by unfold tabR;rw[h];rfl
theorem NodesAt.node {A:Ad} {H:Hp} {ln:Addr} {ns:List RN} (N:NodesAt A H ln ns) {l:Nat} (hl:l<ns.length):∃(as:List Addr) (n:RN) (a lp:Addr),ns[l]?=some n/\H ln=some (.lst (as.map V.ref))/\as[l]?=some a/\InsAt A.cNd H a (fRN n lp)/\H lp=some (.lst (natV n.parts))/\tabR ns l=ndR n:=by
 obtain⟨as,h1,h2,h3⟩:=N.ex
 obtain⟨n,hn⟩:=Mth.some_at hl
 obtain⟨a,lp,k1,k2,k3⟩:=h3 l n hn
 exact⟨as,n,a,lp,hn,h1,k1,k2,k3,tabR_of hn⟩
structure StAt (P:Program) (w:World) (A:Ad) (H0 H:Hp) (r ln:Addr) (inp:Nat) (L:RLay) (S:MS) (ns:List RN) (u:VL) (t:Vst) (rest:List Vst):Prop where
 R:RunAt P w A H0 H r ln inp L S
 N:NodesAt A H0 ln ns
 fin:S.fin=none
 hL:∃us,L.vs=u::us
 hS:S.vis=t::rest
 ok:∃sc,Mth.OkS (tabR ns) ns.length sc S/\Mth.TabOk (tabR ns) ns.length sc
section
variable {P:Program} {w:World} {A:Ad} {H0 H:Hp} {r ln:Addr} {inp:Nat} {L:RLay} {S:MS} {ns:List RN} {u:VL} {t:Vst} {rest:List Vst}
theorem RunAt.top (R:RunAt P w A H0 H r ln inp L S) {us:List VL} (hL:L.vs=u::us) (hS:S.vis=t::rest):VsF A H L.as u t/\ResAt H L.as u t:=by
 have h1:=R.vis
 have h2:=R.res
 rw[hL,hS]at h1 h2
 cases h1 with
 |cons h1 _=>
  cases h2 with
  |cons h2 _=>exact⟨h1,h2⟩
theorem StAt.top (X:StAt P w A H0 H r ln inp L S ns u t rest):VsF A H L.as u t/\ResAt H L.as u t:=by
 obtain⟨us,hL⟩:=X.hL
 exact X.R.top hL X.hS
theorem StAt.lab (X:StAt P w A H0 H r ln inp L S ns u t rest):t.lab<ns.length:=by
 obtain⟨sc,o,_⟩:=X.ok
 exact(o.vs t (by rw[X.hS];exact List.mem_cons_self ..)).lab
theorem StAt.lens (X:StAt P w A H0 H r ln inp L S ns u t rest):S.vis.length<=300/\S.m.flows.length<=300/\S.m.calls.length<=300/\S.m.heap.length<=300/\(∀v∈rest,v.res.length<=3)/\t.bnd.length<=300/\t.ctx.length<=3/\S.clos.length=S.m.heap.length/\(∀b∈S.clos,b.length<=300):=by
 obtain⟨sc,o,_⟩:=X.ok
 have h1:=o.st
 have h2:=o.vf
 have h3:=o.vh
 have h4:=o.ca
 rw[if_pos X.fin]at h4
 have h5:=o.vs t (by rw[X.hS];exact List.mem_cons_self ..)
 have h6:=h5.bl
 refine⟨by omega,by omega,by omega,by omega,fun v hv=>(o.vs v (by rw[X.hS];exact List.mem_cons_of_mem _ hv)).rl,by omega,h5.cl,o.cl,fun b hb=>Nat.le_trans (o.cb b hb) h1⟩
end
section
variable {P:Program} {w:World} {K:PySem.W.Frag} {mg:Str->Option Value} {base:Heap} {A:Ad}
theorem VRel_at {as:List (Addr×Nat)} {rs:List Vl} {xs:List V} (h:Paired (VRel as) rs xs) (hl:rs.length=2):∃f a x y,rs=[f,a]/\xs=[x,y]/\VRel as f x/\VRel as a y:=by
 cases h with
 |nil=>cases hl
 |cons h1 h=>
  cases h with
  |nil=>cases hl
  |cons h2 h=>
   cases h with
   |nil=>exact⟨_,_,_,_,rfl,rfl,h1,h2⟩
   |cons=>simp at hl
theorem VRel_at1 {as:List (Addr×Nat)} {rs:List Vl} {xs:List V} (h:Paired (VRel as) rs xs) (hl:rs.length=1):∃f x,rs=[f]/\xs=[x]/\VRel as f x:=by
 cases h with
 |nil=>cases hl
 |cons h1 h=>
  cases h with
  |nil=>exact⟨_,_,rfl,rfl,h1⟩
  |cons=>simp at hl
theorem BRel.put {as:List (Addr×Nat)} {b:Bnd} {kvs:List (Key×V)} (h:BRel as b kvs) {l:Nat} {v:Vl} {x:V} (hv:VRel as v x):BRel as (Mth.putB b l v) (putK kvs (.inl (l:Int)) x):=by
 have ea:(b.any fun z=>decide (z.1=l))=(kvs.any fun kv=>decide (kv.1=(Sum.inl (l:Int):Key))):=by
  clear hv
  induction h with
  |nil=>rfl
  |@cons z kv _ _ q _ ih=>
   rw[List.any_cons,List.any_cons,ih]
   congr 1
   rw[q.1]
   simp
   omega
 unfold Mth.putB putK
 rw[ea]
 split
 ·rename_i hq
  clear ea hq
  induction h with
  |nil=>exact .nil
  |@cons z kv _ _ q _ ih=>
   refine .cons ?_ ih
   by_cases e:z.1=l
   ·have e2:kv.1=(Sum.inl (l:Int):Key):=by rw[q.1,e]
    dsimp only
    rw[if_pos e,if_pos e2]
    exact⟨q.1,hv⟩
   ·have e2:¬ kv.1=(Sum.inl (l:Int):Key):=by
     rw[q.1]
     intro z'
     exact e (Int.ofNat.inj (Sum.inl.inj z'))
    dsimp only
    rw[if_neg e,if_neg e2]
    exact q
 ·exact h.snoc ⟨rfl,hv⟩
theorem ifNotIs {σ:L2.St} {H:Hp} {i j:Nat} {x:V} {k:Nat} {l:Int} {t u:TS} {D:Ends} (hσ:σ[i]?=some (some x)) (hv:ValAt A H x k l) (q1:k≠j->t D σ H) (q2:k=j->u D σ H) :
  tIfS (tNot (tB (tCB (rIsi A j) (tCons (tVar i) (tCons (tC (vA A j)) tNil))))) t u D σ H:=by
 refine⟨x,hσ,x,k,l,rfl,hv,_,rfl,?_⟩
 by_cases e:k=j
 ·simp only[e,decide_true,Bool.not_true,Bool.false_eq_true,if_false];exact q2 e
 ·simp only[e,decide_false,Bool.not_false,if_true];exact q1 e
inductive spCallM (P:Program) (w:World) (A:Ad) (vs:List V) (H:Hp) (Q:VK) (E:XK):Prop
 |mk (H0:Hp) (r ln:Addr) (inp:Nat) (L:RLay) (S:MS) (ns:List RN) (u:VL) (t:Vst) (rest:List Vst) (_:vs=[.ref r,.ref u.a]) (_:StAt P w A H0 H r ln inp L S ns u t rest) (_:(tabR ns t.lab).kind=3) (_:t.res.length=2) (_:∀H' L',RunAt P w A H0 H' r ln inp L' (Mth.finish (tabR ns) inp t rest S)->Q .non H')
theorem scCall:FnScope ["self","visit","function","body","bound"] ["self","visit"] (defScope (inClass (top 32) 4)):=⟨rfl,rfl,rfl,by decide +kernel,rfl,by decide +kernel,by decide +kernel⟩
theorem ok_call {f:Addr} {fd:FuncData} (T:Txt K w mg A) (F:Fun K "call" "Run.call" (inClass (top 32) 4) f fd) (gWr:MOk P w K mg base CX0 1 A.cRn "go_wrong" ["self","visit"] (spWrong P w A)) (gCo:MOk P w K mg base CX0 3 A.cRn "come_to" ["self","label","string","bound"] (spCome P w A))
  (gBi:DOk P w K mg base CX0 1 "bind" ["bound","binder","value"] spBind) (gLo:DOk P w K mg base CX0 1 "longer_string" ["site","string"] spLong):FnOk P w K mg base CX0 4 f fd ["self","visit"] (spCallM P w A):=by
 refine F.ok scCall (fun vs H Q E h=>?_) (fun cdv AA outer s H vs Q E hr h=>?_)
 ·obtain⟨H0,r,ln,inp,L,S,ns,u,t,rest,rfl,_⟩:=h
  rfl
 ·obtain⟨H0,r,ln,inp,L,S,ns,u,t,rest,rfl,X,hk,hl,q⟩:=h
  have hu:(AA.deeper (envOfC "Run.call" (defScope (inClass (top 32) 4)) s.heap.objs.size f cdv)).units+65<cLine:=by have:=hr.un;omega
  refine⟨_,pss_cons (ps_set (i:=2) scCall.nd rfl (Or.inl rfl) (pe_ix ix_list (pf (pv 1)) pe_int (fun _ _=>rfl)))
   (pss_one (ps_if (pt_not (pt_val (pe_isFn T (pv 2)))) (pss_one (ps_expr (pe_mm gWr T.kRn hr (by decide) pass0 (pv 0) (pa_cons (pv 1) pa_nil))))
    (pss_cons (ps_nput (sh:=shC) hu (pf (pv 0)) (pe_tup (pa_cons (pf (pv 1)) (pa_cons (pf (pv 2)) (pa_cons (pf (pv 1)) pa_nil)))) pe_bl rfl)
    (pss_cons (ps_set (i:=3) scCall.nd rfl (Or.inl rfl) (pe_ix ix_list (pf (pe_ix ix_list (pf (pv 0)) (pf (pv 2)) (fun _ _=>rfl))) pe_int (fun _ _=>rfl)))
    (pss_cons (ps_set (i:=4) scCall.nd rfl (Or.inl rfl) (pe_dd gBi hr (by decide) rfl pass0 (pa_cons (pf (pv 2)) (pa_cons (pf (pv 2)) (pa_cons (pe_ix ix_list (pf (pv 1)) pe_int (fun _ _=>rfl)) pa_nil)))))
    (pss_one (ps_expr (pe_mm gCo T.kRn hr (by decide) pass0 (pv 0) (pa_cons (pv 3) (pa_cons (pe_dd gLo hr (by decide) rfl pass0 (pa_cons (pf (pv 1)) (pa_cons (pf (pv 1)) pa_nil))) (pa_cons (pv 4) pa_nil))))))))))),?_⟩
  obtain⟨hv,xs,hx,hxr⟩:=X.top
  obtain⟨fv,av,x,y,er,rfl,hfx,hay⟩:=VRel_at hxr hl
  have R:=X.R
  obtain⟨l1,l2,l3,l4,l5,l6,l7,l8,l9⟩:=X.lens
  refine rdF rfl hv.1 T.kVs T.nVs rfl ?_
  refine⟨u.lr,_,0,x,rfl,rfl,SqL.of hx,atI_nat (j:=0) rfl,?_⟩
  obtain⟨k,l,hval,htold,_⟩:=R.val hfx
  have n0:Mth.nth t.res 0=fv:=by rw[er];rfl
  have n1:Mth.nth t.res 1=av:=by rw[er];rfl
  refine ifNotIs rfl hval (fun e=>?_) fun e=>?_
  ·refine⟨_,rfl,r,_,_,rfl,R.run,rfl,_,rfl,H0,r,ln,inp,L,S,u.a,t.lab,_,_,_,rfl,R,hv.1,fun H' L' R'=>q H' L' ?_⟩
   have em:Mth.finish (tabR ns) inp t rest S=Mth.wrongAt t S:=by
    refine Mth.fin_k hk n0 n1 ?_
    cases fv with
    |clo i=>exact absurd (tk1 htold).symm e
    |num _=>rfl
    |pair _=>rfl
    |ref _=>rfl
   rw[em]
   exact R'
  ·obtain⟨i,rfl⟩:∃i,fv=.clo i:=by
    cases fv with
    |clo i=>exact⟨i,rfl⟩
    |num _=>exact absurd ((tk1 htold).trans e) (by decide)
    |pair _=>exact absurd ((tk1 htold).trans e) (by decide)
    |ref _=>exact absurd ((tk1 htold).trans e) (by decide)
   obtain⟨a,ha,rfl⟩:=hfx
   obtain⟨o,b,ho,hb,hob⟩:=R.obj ha
   obtain⟨lf,env,rfl⟩:∃lf env,o=.clo lf env:=by
    cases o with
    |clo lf env=>exact⟨lf,env,rfl⟩
    |pair l v w=>cases hob.1
    |ref l v=>cases hob.1
   obtain⟨_,d,hi,hd⟩:=hob
   obtain⟨us,hL⟩:=X.hL
   obtain⟨sc,ok,tb⟩:=X.ok
   obtain⟨c1,c2,c3⟩:=ok.co i lf env b ho hb
   have hbl:=l9 b (List.mem_of_getElem? hb)
   obtain⟨as,n,an,lp,hn,hln,has,hnd,hlp,etab⟩:=X.N.node c1
   have hpl:n.parts.length=1:=by
    have:=tb.len lf c1
    rw[c2,etab]at this
    exact this
   obtain⟨pj,hpj⟩:=Mth.some_at (l:=n.parts) (i:=0) (by omega)
   refine rdF rfl ⟨_,R.run⟩ T.kRn T.nRn rfl ?_
   refine rdF rfl hv.1 T.kVs T.nVs rfl ?_
   refine rdF rfl hi T.kFn T.nFn rfl ?_
   refine rdF rfl hv.1 T.kVs T.nVs rfl ?_
   refine⟨(by show 3<=sizeLine;decide),fun t2 h2=>?_⟩
   have s1:Same H (upd H t2 (.tup [.int t.lab,.int lf,.ref u.ts])):=same_new h2
   have R1:=R.keep s1
   have hkey:NKeyAt (upd H t2 (.tup [.int t.lab,.int lf,.ref u.ts])) (callK ⟨t.lab,lf,t.ctx⟩) t2:=⟨_,upd_same,.int (.int (.tup (s1 _ _ hv.2.1) .nil))⟩
   generalize upd H t2 (.tup [.int t.lab,.int lf,.ref u.ts])=H1 at R1 hkey
   refine⟨L.dc,t2,_,_,rfl,rfl,R1.calls,hkey,rfl,(by rw[List.length_map];exact Nat.lt_of_le_of_lt l3 (by decide)),fun o hN=>?_⟩
   rw[addN_map (fun _ _=>callK_inj)]at hN
   have R2:=R1.putC But.put hN
   generalize upd H1 L.dc o=H2 at R2
   obtain⟨hv2,xs2,hx2,hxr2⟩:=R2.top hL X.hS
   obtain⟨f2,a2,x2,y2,er2,rfl,hfx2,hay2⟩:=VRel_at hxr2 hl
   rw[er]at er2
   cases er2
   obtain⟨o2,b2,ho2,hb2,hob2⟩:=R2.obj ha
   have e2:Vacfaa.Obj.clo lf env=o2:=Option.some.inj (ho.symm.trans ho2)
   subst e2
   have e2:b=b2:=Option.some.inj (hb.symm.trans hb2)
   subst e2
   obtain⟨_,d2,hi2,hd2⟩:=hob2
   have N2:=X.N.same R2.same
   refine rdU ?_
   refine rdF rfl ⟨_,R2.run⟩ T.kRn T.nRn rfl ?_
   refine rdF rfl hi2 T.kFn T.nFn rfl ?_
   obtain⟨dxn,hndi⟩:=hnd.same R2.same
   refine⟨ln,_,_,_,rfl,rfl,SqL.of (R2.same _ _ hln),atI_nat (j:=lf) (by rw[List.getElem?_map,has];rfl),an,A.cNd,dxn,_,_,rfl,hndi,T.kNd,T.nNd,rfl,lp,_,0,.int pj,rfl,rfl,SqL.of (R2.same _ _ hlp),atI_nat (j:=0) (by simp[natV,natI,hpj]),?_⟩
   iterate 2 refine rdF rfl hi2 T.kFn T.nFn rfl ?_
   refine rdF rfl hv2.1 T.kVs T.nVs rfl ?_
   obtain⟨kvs,hd3,hd4⟩:=hd2
   refine⟨u.lr,_,1,y2,rfl,rfl,SqL.of hx2,atI_nat (j:=1) rfl,d2,lf,y2,kvs,rfl,hd3,(by rw[<-Paired.length hd4];exact Nat.lt_of_le_of_lt hbl (by decide)),fun p hp=>?_⟩
   have s3:Same H2 (upd H2 p (.dK (putK kvs (.inl (lf:Int)) y2))):=same_new hp
   have R3:=R2.keep s3
   have hd5:BndAt (upd H2 p (.dK (putK kvs (.inl (lf:Int)) y2))) L.as p (Mth.putB b lf av):=⟨_,upd_same,hd4.put hay2⟩
   have hv3:InsAt A.cVs (upd H2 p (.dK (putK kvs (.inl (lf:Int)) y2))) u.a _:=hv2.1.same s3
   have hts3:=s3 _ _ hv2.2.1
   generalize upd H2 p (.dK (putK kvs (.inl (lf:Int)) y2))=H3 at R3 hd5 hv3 hts3
   refine⟨_,rfl,r,_,_,rfl,R3.run,rfl,_,rfl,?_⟩
   iterate 2 refine rdF rfl hv3 T.kVs T.nVs rfl ?_
   refine⟨t.lab,u.ts,natI t.ctx,rfl,hts3,(by unfold natI;rw[List.length_map];exact l7),fun H4 p4 h4 s4=>?_⟩
   have h4:H4 p4=some (.tup (ctxV ((t.lab::t.ctx).take 3))):=by
    rw[h4]
    unfold ctxV natV natI
    simp only[List.map_take]
    rfl
   have R4:=R3.keep s4
   refine⟨_,rfl,H0,r,ln,inp,L,_,pj,p4,p,_,_,rfl,R4,X.fin,Nat.lt_of_le_of_lt l1 (by decide),h4,let⟨kv,z1,z2⟩:=hd5;⟨kv,s4 _ _ z1,z2⟩,fun H' L' R'=>q H' L' ?_⟩
   have em:Mth.finish (tabR ns) inp t rest S=Mth.comeTo pj ((t.lab::t.ctx).take 3) (Mth.putB b lf av) {S with m:={S.m with calls:=Vacfaa.addTo S.m.calls ⟨t.lab,lf,t.ctx⟩}}:=by
    refine Mth.fin_k hk n0 n1 ?_
    show Mth.callO _ _ _ _ S.clos[i]? S.m.heap[i]?=_
    rw[ho,hb]
    show Mth.comeTo ((tabR ns lf).parts.getD 0 0) _ _ _=_
    rw[etab]
    show Mth.comeTo (n.parts.getD 0 0) _ _ _=_
    rw[Mth.getD_of hpj]
   rw[em]
   exact R'
inductive spChoose (P:Program) (w:World) (A:Ad) (vs:List V) (H:Hp) (Q:VK) (E:XK):Prop
 |mk (H0:Hp) (r ln:Addr) (inp:Nat) (L:RLay) (S:MS) (ns:List RN) (u:VL) (t:Vst) (rest:List Vst) (an:Addr) (n:RN) (lp:Addr) (_:vs=[.ref r,.ref an,.ref u.a]) (_:StAt P w A H0 H r ln inp L S ns u t rest) (_:ns[t.lab]?=some n) (_:InsAt A.cNd H0 an (fRN n lp)) (_:H0 lp=some (.lst (natV n.parts))) (_:n.kind=5) (_:t.res.length=1) (_:∀H' L',RunAt P w A H0 H' r ln inp L' (Mth.finish (tabR ns) inp t rest S)->Q .non H')
theorem scChoose:FnScope ["self","node","visit","number","chosen"] ["self","node","visit"] (defScope (inClass (top 32) 5)):=⟨rfl,rfl,rfl,by decide +kernel,rfl,by decide +kernel,by decide +kernel⟩
theorem natV_at {l:List Nat} {i x:Nat} (h:l[i]?=some x):(natV l)[i]?=some (.int x):=by simp[natV,natI,h]
theorem ok_choose {f:Addr} {fd:FuncData} (T:Txt K w mg A) (F:Fun K "choose" "Run.choose" (inClass (top 32) 5) f fd) (gWr:MOk P w K mg base CX0 1 A.cRn "go_wrong" ["self","visit"] (spWrong P w A)) (gCo:MOk P w K mg base CX0 3 A.cRn "come_to" ["self","label","string","bound"] (spCome P w A)) :
  FnOk P w K mg base CX0 4 f fd ["self","node","visit"] (spChoose P w A):=by
 refine F.ok scChoose (fun vs H Q E h=>?_) (fun cdv AA outer s H vs Q E hr h=>?_)
 ·obtain⟨H0,r,ln,inp,L,S,ns,u,t,rest,an,n,lp,rfl,_⟩:=h
  rfl
 ·obtain⟨H0,r,ln,inp,L,S,ns,u,t,rest,an,n,lp,rfl,X,hn,hni,hlp,hk,hl,q⟩:=h
  refine⟨_,pss_cons (ps_set (i:=3) scChoose.nd rfl (Or.inl rfl) (pe_ix ix_list (pf (pv 2)) pe_int (fun _ _=>rfl)))
   (pss_one (ps_if (pt_not (pt_val (pe_isInt T (pv 3)))) (pss_one (ps_expr (pe_mm gWr T.kRn hr (by decide) pass0 (pv 0) (pa_cons (pv 2) pa_nil))))
    (pss_cons (ps_set (i:=4) scChoose.nd rfl (Or.inl rfl) (pe_ifExp (pt_cmpR op_eq (pv 3) pe_int (nomark _)) pe_int pe_int))
    (pss_one (ps_expr (pe_mm gCo T.kRn hr (by decide) pass0 (pv 0) (pa_cons (pe_ix ix_list (pf (pv 1)) (pv 4) (fun _ _=>rfl)) (pa_cons (pf (pv 2)) (pa_cons (pf (pv 2)) pa_nil))))))))),?_⟩
  obtain⟨hv,xs,hx,hxr⟩:=X.top
  obtain⟨fv,x,er,rfl,hfx⟩:=VRel_at1 hxr hl
  have R:=X.R
  obtain⟨l1,l2,l3,l4,l5,l6,l7,l8,l9⟩:=X.lens
  refine rdF rfl hv.1 T.kVs T.nVs rfl ?_
  refine⟨u.lr,_,0,x,rfl,rfl,SqL.of hx,atI_nat (j:=0) rfl,?_⟩
  obtain⟨k,l,hval,htold,hnum⟩:=R.val hfx
  have n0:Mth.nth t.res 0=fv:=by rw[er];rfl
  have hk':(tabR ns t.lab).kind=5:=by rw[tabR_of hn];exact hk
  refine ifNotIs rfl hval (fun e=>?_) fun e=>?_
  ·refine⟨_,rfl,r,_,_,rfl,R.run,rfl,_,rfl,H0,r,ln,inp,L,S,u.a,t.lab,_,_,_,rfl,R,hv.1,fun H' L' R'=>q H' L' ?_⟩
   have em:Mth.finish (tabR ns) inp t rest S=Mth.wrongAt t S:=by
    refine Mth.fin_k hk' n0 rfl ?_
    cases fv with
    |num _=>exact absurd (tk1 htold).symm e
    |clo _=>rfl
    |pair _=>rfl
    |ref _=>rfl
   rw[em]
   exact R'
  ·obtain⟨z,rfl⟩:=hnum e
   have hx0:x=.int z:=hfx
   subst hx0
   have hpl:n.parts.length=3:=by
    obtain⟨sc,ok,tb⟩:=X.ok
    have:=tb.len t.lab X.lab
    rw[tabR_of hn]at this
    have h5:Mth.nparts (ndR n).kind=3:=by show Mth.nparts n.kind=3;rw[hk];rfl
    rw[h5]at this
    exact this
   have go:∀j:Nat,j=(if z=0 then 1 else 2)->(tDrop (tMeth A.cRn "come_to" (spCome P w A) [] E0 (tVar 0) (tCons (tOp (rIxL K) (tF K (tVar 1) "parts") (tVar 4)) (tCons (tF K (tVar 2) "string") (tCons (tF K (tVar 2) "bound") tNil))))) {nx:=fun _ H'=>Q .non H',rt:=Q} [some (.ref r),some (.ref an),some (.ref u.a),some (.int z),some (.int j)] H:=by
    intro j hj
    obtain⟨pj,hpj⟩:=Mth.some_at (l:=n.parts) (i:=j) (by rw[hpl,hj];split<;>omega)
    refine⟨_,rfl,r,_,_,rfl,R.run,rfl,?_⟩
    refine rdF rfl (hni.same R.same) T.kNd T.nNd rfl ?_
    refine⟨_,rfl,lp,_,_,.int pj,rfl,rfl,SqL.of (R.same _ _ hlp),atI_nat (natV_at hpj),?_⟩
    iterate 2 refine rdF rfl hv.1 T.kVs T.nVs rfl ?_
    refine⟨H0,r,ln,inp,L,S,pj,u.ts,u.d,t.ctx,t.bnd,rfl,R,X.fin,Nat.lt_of_le_of_lt l1 (by decide),hv.2.1,hv.2.2,fun H' L' R'=>q H' L' ?_⟩
    have em:Mth.finish (tabR ns) inp t rest S=Mth.comeTo pj t.ctx t.bnd S:=by
     refine Mth.fin_k hk' n0 rfl ?_
     rw[tabR_of hn]
     show Mth.comeTo (n.parts.getD (if z=0 then 1 else 2) 0) _ _ _=_
     rw[<-hj,Mth.getD_of hpj]
    rw[em]
    exact R'
   refine⟨_,rfl,rfl,_,rfl,?_⟩
   by_cases ez:z=0
   ·have e1:decide (V.int (z:Int)=V.int 0)=true:=by simp[ez]
    rw[e1]
    exact go 1 (by rw[if_pos ez])
   ·have e1:decide (V.int (z:Int)=V.int 0)=false:=by simp[ez]
    rw[e1]
    exact go 2 (by rw[if_neg ez])
inductive spFin (P:Program) (w:World) (A:Ad) (vs:List V) (H:Hp) (Q:VK) (E:XK):Prop
 |mk (H0:Hp) (r ln:Addr) (inp:Nat) (L:RLay) (S:MS) (ns:List RN) (u:VL) (t:Vst) (rest:List Vst) (an:Addr) (n:RN) (lp:Addr) (_:vs=[.ref r,.ref an,.ref u.a]) (_:StAt P w A H0 H r ln inp L S ns u t rest) (_:ns[t.lab]?=some n) (_:InsAt A.cNd H0 an (fRN n lp)) (_:n.kind≠3) (_:n.kind≠4) (_:n.kind≠5) (_:t.res.length=Mth.firstK n.kind) (_:∀H' L',RunAt P w A H0 H' r ln inp L' (Mth.finish (tabR ns) inp t rest S)->Q .non H')
theorem scFin:FnScope ["self","node","visit","had","value"] ["self","node","visit"] (defScope (inClass (top 32) 6)):=⟨rfl,rfl,rfl,by decide +kernel,rfl,by decide +kernel,by decide +kernel⟩
theorem in_mk {k:Nat} (h:k=2\/k=6\/k=9):inV (.int k) (([2,6,9]:List Int).map V.int)=true:=by rcases h with rfl|rfl|rfl<;>rfl
theorem not_mk {k:Nat} (h:¬(k=2\/k=6\/k=9)):inV (.int k) (([2,6,9]:List Int).map V.int)=false:=by
 simp only[inV,List.map_cons,List.map_nil,List.any_cons,List.any_nil,eqV,Bool.or_eq_false_iff,beq_eq_false_iff_ne,Bool.or_false]
 refine⟨fun e=>?_,fun e=>?_,fun e=>?_⟩<;>omega
theorem VRel.notNon {as:List (Addr×Nat)} {v:Vl} {x:V} (h:VRel as v x):decide (x=.non)=false:=by
 cases v with
 |num n=>have h:x=.int n:=h;subst h;rfl
 |clo i=>obtain⟨a,_,rfl⟩:=h;rfl
 |pair i=>obtain⟨a,_,rfl⟩:=h;rfl
 |ref i=>obtain⟨a,_,rfl⟩:=h;rfl
theorem RunAt.asT {H0 H:Hp} {r ln:Addr} {inp:Nat} {L:RLay} {S:MS} (R:RunAt P w A H0 H r ln inp L S) {a:Addr} (h:H a=none):a ∉ L.as.map (·.1):=by
 intro hm
 obtain⟨p,hp,rfl⟩:=List.mem_map.mp hm
 obtain⟨i,hi⟩:=List.getElem?_of_mem hp
 obtain⟨o,b,_,_,hob⟩:=R.obj hi
 cases o with
 |clo l env=>obtain⟨_,d,⟨dx,e⟩,_⟩:=hob;rw[e]at h;cases h
 |pair l v w=>obtain⟨_,x,y,⟨dx,e⟩,_⟩:=hob;rw[e]at h;cases h
 |ref l v=>obtain⟨_,x,⟨dx,e⟩,_⟩:=hob;rw[e]at h;cases h
theorem getB_rel {as:List (Addr×Nat)} {b:Bnd} {kvs:List (Key×V)} (h:BRel as b kvs) {l:Nat} {v:Vl} (hv:Mth.getB b l=some v):∃x,valV kvs (Sum.inl (l:Int))=some x/\VRel as v x:=by
 induction h with
 |nil=>cases hv
 |@cons z kv _ _ q _ ih=>
  unfold Mth.getB at hv
  rw[List.find?_cons]at hv
  by_cases e:z.1=l
  ·simp only[e,decide_true,Option.map_some]at hv
   cases hv
   exact⟨kv.2,valV_pos (by rw[q.1,e]),q.2⟩
  ·simp only[e,decide_false]at hv
   rw[valV_neg (by rw[q.1];intro z';exact e (Int.ofNat.inj (Sum.inl.inj z')))]
   exact ih hv
theorem InsAt.inj {C C':Addr} {H:Hp} {a:Addr} {fs fs':List (Str×V)} (h:InsAt C H a fs) (h':InsAt C' H a fs'):fs=fs':=by
 obtain⟨dx,e⟩:=h
 obtain⟨dx',e'⟩:=h'
 rw[e]at e'
 injection e' with e'
 injection e'
theorem get_last {α:Type} (l:List α) (x:α) {n:Nat} (h:n=l.length):(l++[x])[n]?=some x:=by
 subst h
 rw[List.getElem?_append_right (Nat.le_refl _),Nat.sub_self]
 rfl
theorem first_of:∀k:Nat,k<13->(k=3\/k=4\/k=5)\/(Mth.firstK k=0/\(k=0\/k=1\/k=2))\/(Mth.firstK k=1/\(k=7\/k=8\/k=9\/k=10))\/(Mth.firstK k=2/\(k=6\/k=11\/k=12)):=by decide
theorem ok_fin {f:Addr} {fd:FuncData} (T:Txt K w mg A) (F:Fun K "finish" "Run.finish" (inClass (top 32) 6) f fd) (gWr:MOk P w K mg base CX0 1 A.cRn "go_wrong" ["self","visit"] (spWrong P w A)) (gGi:MOk P w K mg base CX0 3 A.cRn "give" ["self","value"] (spGive P w A))
  (gVI:DOk P w K mg base CX0 3 "value_of_itself" ["node","visit","given"] (spVI A)) (gV1:DOk P w K mg base CX0 3 "value_of_one" ["node","visit"] (spV1 A)) (gV2:DOk P w K mg base CX0 3 "value_of_two" ["node","visit"] (spV2 A)):FnOk P w K mg base CX0 4 f fd ["self","node","visit"] (spFin P w A):=by
 refine F.ok scFin (fun vs H Q E h=>?_) (fun cdv AA outer s H vs Q E hr h=>?_)
 ·obtain⟨H0,r,ln,inp,L,S,ns,u,t,rest,an,n,lp,rfl,_⟩:=h
  rfl
 ·obtain⟨H0,r,ln,inp,L,S,ns,u,t,rest,an,n,lp,rfl,X,hn,hni,k3,k4,k5,hl,q⟩:=h
  have R:=X.R
  obtain⟨l1,l2,l3,l4,l5,l6,l7,l8,l9⟩:=X.lens
  obtain⟨us,hL⟩:=X.hL
  have tail4:∃t4,PSs (cxOf CX0 P w K mg base ["self","node","visit","had","value"] "Run.finish" (defScope (inClass (top 32) 6)) f cdv AA outer s H E).nox ((defBody (inClass (top 32) 6)).drop 3) t4 /\
    (∀(x:V) (hd:Nat) (H1:Hp) (L1:RLay) (S1:MS) (v:Vl),RunAt P w A H0 H1 r ln inp L1 S1->S1.fin=none->S1.vis=t::rest->S1.m.flows.length<=300->VRel L1.as v x->Mth.finish (tabR ns) inp t rest S=Mth.give t rest v S1->t4 {nx:=fun _ H'=>Q .non H',rt:=Q} [some (.ref r),some (.ref an),some (.ref u.a),some (.int hd),some x] H1) /\
    (∀(hd:Nat) (H1:Hp),RunAt P w A H0 H1 r ln inp L S->Mth.finish (tabR ns) inp t rest S=Mth.wrongAt t S->t4 {nx:=fun _ H'=>Q .non H',rt:=Q} [some (.ref r),some (.ref an),some (.ref u.a),some (.int hd),some .non] H1):=by
   refine⟨_,pss_one (ps_if (pt_cmpR op_isN (pv 4) pe_non (nomark _)) (pss_one (ps_expr (pe_mm gWr T.kRn hr (by decide) pass0 (pv 0) (pa_cons (pv 2) pa_nil)))) (pss_one (ps_expr (pe_mm gGi T.kRn hr (by decide) pass0 (pv 0) (pa_cons (pv 4) pa_nil))))),?_,?_⟩
   ·intro x hd H1 L1 S1 v R1 hf hS hfl hv em
    refine⟨_,rfl,rfl,_,rfl,?_⟩
    rw[hv.notNon]
    refine iteF ?_
    refine⟨_,rfl,r,_,_,rfl,R1.run,rfl,_,rfl,H0,r,ln,inp,L1,S1,t,rest,v,x,rfl,R1,hf,hS,hv,Nat.lt_of_le_of_lt hfl (by decide),fun u' hu'=>Nat.lt_of_le_of_lt (l5 u' hu') (by decide),fun H' L' R'=>q H' L' ?_⟩
    rw[em]
    exact R'
   ·intro hd H1 R1 em
    refine⟨_,rfl,rfl,_,rfl,iteT ?_⟩
    refine⟨_,rfl,r,_,_,rfl,R1.run,rfl,_,rfl,H0,r,ln,inp,L,S,u.a,t.lab,_,_,_,rfl,R1,(R1.top hL X.hS).1.1,fun H' L' R'=>q H' L' ?_⟩
    rw[em]
    exact R'
  obtain⟨t4,p4,g4,w4⟩:=tail4
  have tail3:∃t3,PSs (cxOf CX0 P w K mg base ["self","node","visit","had","value"] "Run.finish" (defScope (inClass (top 32) 6)) f cdv AA outer s H E).nox ((defBody (inClass (top 32) 6)).drop 2) t3 /\
    (∀(x:V) (hd:Nat) (H1:Hp) (L1:RLay) (S1:MS) (v:Vl),¬(n.kind=2\/n.kind=6\/n.kind=9)->RunAt P w A H0 H1 r ln inp L1 S1->S1.fin=none->S1.vis=t::rest->S1.m.flows.length<=300->VRel L1.as v x->Mth.finish (tabR ns) inp t rest S=Mth.give t rest v S1->t3 {nx:=fun _ H'=>Q .non H',rt:=Q} [some (.ref r),some (.ref an),some (.ref u.a),some (.int hd),some x] H1) /\
    (∀(hd:Nat) (H1:Hp) (a:Addr) (tg:Nat) (o:Ob) (bd:Bnd) (v:Vl),(n.kind=2\/n.kind=6\/n.kind=9)->RunAt P w A H0 H1 r ln inp L S->ObAt A H1 L.as (a,tg) o bd->H a=none->Vacfaa.objLabel o=t.lab->VRel (L.as++[(a,tg)]) v (.ref a)->Mth.finish (tabR ns) inp t rest S=Mth.give t rest v (Mth.lay o bd S)->t3 {nx:=fun _ H'=>Q .non H',rt:=Q} [some (.ref r),some (.ref an),some (.ref u.a),some (.int hd),some (.ref a)] H1) /\
    (∀(hd:Nat) (H1:Hp),¬(n.kind=2\/n.kind=6\/n.kind=9)->RunAt P w A H0 H1 r ln inp L S->Mth.finish (tabR ns) inp t rest S=Mth.wrongAt t S->t3 {nx:=fun _ H'=>Q .non H',rt:=Q} [some (.ref r),some (.ref an),some (.ref u.a),some (.int hd),some .non] H1):=by
   refine⟨_,pss_cons (ps_if (pt_cmpR op_in_seq (pf (pv 1)) (gt T A.mks [2,6,9] (by simp[glTups])) rfl) (pss_one (ps_expr (pe_bm PySem.F.plainAttrs_list PySem.F.slot_list_append PySem.F.type_list_append mt_append (pf (pv 0)) (pa_cons (pf (pv 2)) pa_nil)))) pss_nil) p4,?_,?_,?_⟩
   ·intro x hd H1 L1 S1 v hm R1 hf hS hfl hv em
    refine rdF rfl (hni.same R1.same) T.kNd T.nNd rfl ?_
    refine⟨A.mks,_,rfl,.inr (T.sq (x:="MAKING_KINDS") (ns:=[2,6,9]) (by simp[glTups]) _),rfl,rfl,_,rfl,?_⟩
    have e:(if false=true then !inV (.int n.kind) (([2,6,9]:List Int).map V.int)else inV (.int n.kind) (([2,6,9]:List Int).map V.int))=false:=not_mk hm
    rw[e]
    exact iteF (g4 x hd H1 L1 S1 v R1 hf hS hfl hv em)
   ·intro hd H1 a tg o bd v hm R1 ho hfr hlb hv em
    refine rdF rfl (hni.same R1.same) T.kNd T.nNd rfl ?_
    refine⟨A.mks,_,rfl,.inr (T.sq (x:="MAKING_KINDS") (ns:=[2,6,9]) (by simp[glTups]) _),rfl,rfl,_,rfl,?_⟩
    have e:(if false=true then !inV (.int n.kind) (([2,6,9]:List Int).map V.int)else inV (.int n.kind) (([2,6,9]:List Int).map V.int))=true:=in_mk hm
    rw[e]
    refine iteT ?_
    refine rdF rfl ⟨_,R1.run⟩ T.kRn T.nRn rfl ?_
    refine⟨.inl ⟨rfl,_,SqL.of R1.made⟩,?_⟩
    refine rdF rfl (R1.top hL X.hS).1.1 T.kVs T.nVs rfl ?_
    refine⟨L.lm,_,_,rfl,rfl,R1.made,?_,?_⟩
    ·unfold natV natI
     rw[List.length_map,List.length_map,List.length_map]
     exact Nat.lt_of_le_of_lt l4 (by decide)
    ·refine g4 _ hd _ _ _ v (R1.lay ho (R.same.free hfr) (R.asT hfr) But.put ?_ l8) X.fin X.hS l2 hv em
     rw[hlb]
     exact upd_same
   ·intro hd H1 hm R1 em
    refine rdF rfl (hni.same R1.same) T.kNd T.nNd rfl ?_
    refine⟨A.mks,_,rfl,.inr (T.sq (x:="MAKING_KINDS") (ns:=[2,6,9]) (by simp[glTups]) _),rfl,rfl,_,rfl,?_⟩
    have e:(if false=true then !inV (.int n.kind) (([2,6,9]:List Int).map V.int)else inV (.int n.kind) (([2,6,9]:List Int).map V.int))=false:=not_mk hm
    rw[e]
    exact iteF (w4 hd H1 R1 em)
  obtain⟨t3,p3,g3,y3,w3⟩:=tail3
  refine⟨_,pss_cons (ps_set (i:=3) scFin.nd rfl (Or.inl rfl) (pe_callB call_len_seq (by rfl) (T.bl "len") bt_len (pa_cons (pf (pv 2)) pa_nil)))
   (pss_cons (ps_if (pt_cmpR op_eq (pv 3) pe_int (nomark _)) (pss_one (ps_set (i:=4) scFin.nd rfl (Or.inl rfl) (pe_dd gVI hr (by decide) rfl pass0 (pa_cons (pv 1) (pa_cons (pv 2) (pa_cons (pf (pv 0)) pa_nil))))))
    (pss_one (ps_if (pt_cmpR op_eq (pv 3) pe_int (nomark _)) (pss_one (ps_set (i:=4) scFin.nd rfl (Or.inl rfl) (pe_dd gV1 hr (by decide) rfl pass0 (pa_cons (pv 1) (pa_cons (pv 2) pa_nil)))))
     (pss_one (ps_set (i:=4) scFin.nd rfl (Or.inl rfl) (pe_dd gV2 hr (by decide) rfl pass0 (pa_cons (pv 1) (pa_cons (pv 2) pa_nil)))))))) p3),?_⟩
  obtain⟨hv,xs,hx,hxr⟩:=X.top
  have hn1:=hni.same R.same
  refine rdF rfl hv.1 T.kVs T.nVs rfl ?_
  refine⟨u.lr,xs,rfl,.inl (SqL.of hx),?_⟩
  rw[<-Paired.length hxr]
  refine⟨_,rfl,rfl,_,rfl,?_⟩
  have ht:=tabR_of hn
  have hk12:n.kind<=12:=by
   obtain⟨sc,ok,tb⟩:=X.ok
   have:=tb.kind t.lab X.lab
   rw[ht]at this
   exact this
  have dI:∀(i j:Nat),decide (V.int (i:Int)=V.int (j:Int))=decide (i=j):=fun i j=>by simp[Int.ofNat_inj]
  have tk:(tabR ns t.lab).kind=n.kind:=by rw[ht];rfl
  have nI:∀{a:Nat},(n.kind:Int)=(a:Int)->n.kind=a:=fun h=>Int.ofNat.inj h
  rcases first_of _ (Nat.lt_succ_of_le hk12)with(z|z|z)|⟨e0,kk⟩|⟨e0,kk⟩|⟨e0,kk⟩
  ·exact absurd z k3
  ·exact absurd z k4
  ·exact absurd z k5
  ·
   have el:t.res.length=0:=hl.trans e0
   rw[el]
   refine iteT ?_
   refine⟨_,rfl,_,rfl,?_⟩
   refine rdF rfl ⟨_,R.run⟩ T.kRn T.nRn rfl ?_
   refine⟨an,u.a,.int inp,n.kind,n.dep,n.beg,n.beh,n.num,nameS n.name,biI n.bi,lp,.int t.lab,.ref u.ts,u.d,u.lr,rfl,hn1,hv.1,fun e=>?_,fun e H' a hfr hi s=>?_,fun e e2 eb=>?_,fun e e2 eb=>?_⟩
   ·have e:n.kind=0:=nI (a:=0) e
    refine g3 _ 0 H L S (.num n.num) (by rw[e];decide) R X.fin X.hS l2 rfl ?_
    refine Mth.fin_k (tk.trans e) rfl rfl ?_
    rw[ht]
    rfl
   ·have e:n.kind=2:=nI (a:=2) e
    obtain⟨kvs,b1,b2⟩:=hv.2.2
    refine y3 0 H' a 1 (.clo t.lab []) t.bnd (.clo S.m.heap.length) (.inl e) (R.keep s) ⟨rfl,u.d,hi,kvs,s _ _ b1,b2⟩ hfr rfl ⟨a,get_last _ _ R.asl.symm,rfl⟩ ?_
    exact Mth.fin_k (tk.trans e) rfl rfl rfl
   ·have e1:n.kind=1:=by
     rcases kk with k|k|k
     ·exact absurd (by rw[k];rfl) e
     ·exact k
     ·exact absurd (by rw[k];rfl) e2
    have eb:n.bi=none:=biI_none.mp eb
    refine g3 _ 0 H L S (.num inp) (by rw[e1];decide) R X.fin X.hS l2 rfl ?_
    refine Mth.fin_k (tk.trans e1) rfl rfl ?_
    rw[ht]
    show Mth.finN ⟨1,n.num,n.parts,n.bi⟩ _ _ _ _ _ _ _=_
    rw[eb]
    rfl
   ·have e1:n.kind=1:=by
     rcases kk with k|k|k
     ·exact absurd (by rw[k];rfl) e
     ·exact k
     ·exact absurd (by rw[k];rfl) e2
    obtain⟨bl,hbl⟩:∃bl,n.bi=some bl:=by
     cases hb:n.bi with
     |none=>rw[hb]at eb;exact absurd rfl eb
     |some bl=>exact⟨bl,rfl⟩
    obtain⟨sc,ok,tb⟩:=X.ok
    have hin:=tb.bnd t.lab X.lab (by rw[tk];exact e1) bl (by rw[ht];exact hbl)
    have hc:=(ok.vs t (by rw[X.hS];exact List.mem_cons_self ..)).cov bl hin
    obtain⟨v,hg⟩:=Option.isSome_iff_exists.mp hc
    obtain⟨kvs,b1,b2⟩:=hv.2.2
    obtain⟨y,y1,y2⟩:=getB_rel b2 hg
    refine⟨kvs,y,b1,by rw[hbl];exact y1,?_⟩
    refine g3 _ 0 H L S v (by rw[e1];decide) R X.fin X.hS l2 y2 ?_
    refine Mth.fin_k (tk.trans e1) rfl rfl ?_
    rw[ht]
    show Mth.finN ⟨1,n.num,n.parts,n.bi⟩ _ _ _ _ _ _ _=_
    rw[hbl]
    show Mth.give _ _ ((Mth.getB _ _).getD _) _=_
    rw[hg]
    rfl
  ·
   have el:t.res.length=1:=hl.trans e0
   obtain⟨fv,x,er,rfl,hfx⟩:=VRel_at1 hxr el
   have n0:Mth.nth t.res 0=fv:=by rw[er];rfl
   obtain⟨k,l,hval,htold,_⟩:=R.val hfx
   rw[el]
   refine iteF ?_
   refine⟨_,rfl,rfl,_,rfl,iteT ?_⟩
   refine⟨_,rfl,_,rfl,?_⟩
   refine⟨an,u.a,n.kind,n.dep,n.beg,n.beh,n.num,nameS n.name,biI n.bi,lp,.int t.lab,.ref u.ts,.ref u.d,u.lr,x,[],k,l,rfl,hn1,hv.1,hx,hval,fun e H' a hfr hi s=>?_,fun e ek a z y1 y2 ex hi=>?_,fun e ek a z y1 y2 ex hi=>?_,fun e ek a z y ex hi=>?_,fun e9 e7 e8 e10=>?_⟩
   ·have e:n.kind=9:=nI (a:=9) e
    refine y3 1 H' a 3 (.ref t.lab fv) [] (.ref S.m.heap.length) (.inr (.inr e)) (R.keep s) ⟨rfl,x,hi,hfx⟩ hfr rfl ⟨a,get_last _ _ R.asl.symm,rfl⟩ ?_
    exact Mth.fin_k (tk.trans e) n0 rfl rfl
   ·have e:n.kind=7:=nI (a:=7) e
    cases fv with
    |pair i=>
     obtain⟨a',ha,hx'⟩:=hfx
     rw[ex]at hx'
     cases hx'
     obtain⟨o,b,ho,_,hob⟩:=R.obj ha
     cases o with
     |pair l' v1 v2=>
      obtain⟨_,x1,x2,hi',hv1,hv2⟩:=hob
      cases hi.inj hi'
      refine g3 _ 1 H L S v1 (by rw[e];decide) R X.fin X.hS l2 hv1 ?_
      exact Mth.fin_k (tk.trans e) n0 rfl (congrArg (Mth.fstO t rest S) ho)
     |clo _ _=>cases hob.1
     |ref _ _=>cases hob.1
    |num _=>exact absurd ((tk1 htold).trans ek) (by decide)
    |clo _=>exact absurd ((tk1 htold).trans ek) (by decide)
    |ref _=>exact absurd ((tk1 htold).trans ek) (by decide)
   ·have e:n.kind=8:=nI (a:=8) e
    cases fv with
    |pair i=>
     obtain⟨a',ha,hx'⟩:=hfx
     rw[ex]at hx'
     cases hx'
     obtain⟨o,b,ho,_,hob⟩:=R.obj ha
     cases o with
     |pair l' v1 v2=>
      obtain⟨_,x1,x2,hi',hv1,hv2⟩:=hob
      cases hi.inj hi'
      refine g3 _ 1 H L S v2 (by rw[e];decide) R X.fin X.hS l2 hv2 ?_
      exact Mth.fin_k (tk.trans e) n0 rfl (congrArg (Mth.sndO t rest S) ho)
     |clo _ _=>cases hob.1
     |ref _ _=>cases hob.1
    |num _=>exact absurd ((tk1 htold).trans ek) (by decide)
    |clo _=>exact absurd ((tk1 htold).trans ek) (by decide)
    |ref _=>exact absurd ((tk1 htold).trans ek) (by decide)
   ·have e:n.kind=10:=nI (a:=10) e
    cases fv with
    |ref i=>
     obtain⟨a',ha,hx'⟩:=hfx
     rw[ex]at hx'
     cases hx'
     obtain⟨o,b,ho,_,hob⟩:=R.obj ha
     cases o with
     |ref l' v1=>
      obtain⟨_,x1,hi',hv1⟩:=hob
      cases hi.inj hi'
      refine g3 _ 1 H L S v1 (by rw[e];decide) R X.fin X.hS l2 hv1 ?_
      exact Mth.fin_k (tk.trans e) n0 rfl (congrArg (Mth.getO t rest S) ho)
     |clo _ _=>cases hob.1
     |pair _ _ _=>cases hob.1
    |num _=>exact absurd ((tk1 htold).trans ek) (by decide)
    |clo _=>exact absurd ((tk1 htold).trans ek) (by decide)
    |pair _=>exact absurd ((tk1 htold).trans ek) (by decide)
   ·have e9:n.kind≠9:=fun z=>e9 (by rw[z];rfl)
    have kc:n.kind=7\/n.kind=8\/n.kind=10:=by
     rcases kk with k|k|k|k
     ·exact .inl k
     ·exact .inr (.inl k)
     ·exact absurd k e9
     ·exact .inr (.inr k)
    refine w3 1 H (by rcases kc with k|k|k<;>rw[k]<;>decide) R ?_
    rcases kc with e|e|e
    ·have ek:k≠2:=fun z=>e7 ⟨by rw[e];rfl,z⟩
     refine Mth.fin_k (tk.trans e) n0 rfl ?_
     cases fv with
     |pair i=>exact absurd (tk1 htold).symm ek
     |num _=>rfl
     |clo _=>rfl
     |ref _=>rfl
    ·have ek:k≠2:=fun z=>e8 ⟨by rw[e];rfl,z⟩
     refine Mth.fin_k (tk.trans e) n0 rfl ?_
     cases fv with
     |pair i=>exact absurd (tk1 htold).symm ek
     |num _=>rfl
     |clo _=>rfl
     |ref _=>rfl
    ·have ek:k≠3:=fun z=>e10 ⟨by rw[e];rfl,z⟩
     refine Mth.fin_k (tk.trans e) n0 rfl ?_
     cases fv with
     |ref i=>exact absurd (tk1 htold).symm ek
     |num _=>rfl
     |clo _=>rfl
     |pair _=>rfl
  ·
   have el:t.res.length=2:=hl.trans e0
   obtain⟨fv,av,x,y,er,rfl,hfx,hay⟩:=VRel_at hxr el
   have n0:Mth.nth t.res 0=fv:=by rw[er];rfl
   have n1:Mth.nth t.res 1=av:=by rw[er];rfl
   obtain⟨k,l,hval,htold,hnum⟩:=R.val hfx
   obtain⟨k',l',hval',htold',hnum'⟩:=R.val hay
   rw[el]
   refine iteF ?_
   refine⟨_,rfl,rfl,_,rfl,iteF ?_⟩
   refine⟨_,rfl,_,rfl,?_⟩
   refine⟨an,u.a,n.kind,n.dep,n.beg,n.beh,n.num,nameS n.name,biI n.bi,lp,.int t.lab,.ref u.ts,.ref u.d,u.lr,x,y,[],k,l,k',l',rfl,hn1,hv.1,hx,hval,hval',fun e H' a hfr hi s=>?_,fun e ek a dx z y0 ex hi=>?_,fun e ek ek' i j ex ey=>?_,fun e6 e11 e12=>?_⟩
   ·have e:n.kind=6:=nI (a:=6) e
    refine y3 2 H' a 2 (.pair t.lab fv av) [] (.pair S.m.heap.length) (.inr (.inl e)) (R.keep s) ⟨rfl,x,y,hi,hfx,hay⟩ hfr rfl ⟨a,get_last _ _ R.asl.symm,rfl⟩ ?_
    exact Mth.fin_k (tk.trans e) n0 n1 rfl
   ·have e:n.kind=11:=nI (a:=11) e
    cases fv with
    |ref i=>
     obtain⟨a',ha,hx'⟩:=hfx
     rw[ex]at hx'
     cases hx'
     obtain⟨o,b,ho,_,hob⟩:=R.obj ha
     cases o with
     |ref lb v1=>
      obtain⟨_,x1,hi',hv1⟩:=hob
      cases InsAt.inj ⟨dx,hi⟩ hi'
      refine g3 _ 2 _ L _ av (by rw[e];decide) (R.setRef T.nd ha ho hay ⟨_,hi⟩ But.put upd_same) X.fin X.hS l2 hay ?_
      exact Mth.fin_k (tk.trans e) n0 n1 (congrArg (Mth.setO t rest S i av) ho)
     |clo _ _=>cases hob.1
     |pair _ _ _=>cases hob.1
    |num _=>exact absurd ((tk1 htold).trans ek) (by decide)
    |clo _=>exact absurd ((tk1 htold).trans ek) (by decide)
    |pair _=>exact absurd ((tk1 htold).trans ek) (by decide)
   ·have e:n.kind=12:=nI (a:=12) e
    obtain⟨z1,rfl⟩:=hnum ek
    obtain⟨z2,rfl⟩:=hnum' ek'
    have h1:x=.int z1:=hfx
    have h2:y=.int z2:=hay
    rw[ex]at h1
    rw[ey]at h2
    cases h1
    cases h2
    refine g3 _ 2 H L S (.num ((z1+z2) % 100)) (by rw[e];decide) R X.fin X.hS l2 (by show V.int _=V.int _;congr 1) ?_
    exact Mth.fin_k (tk.trans e) n0 n1 rfl
   ·have e6:n.kind≠6:=fun z=>e6 (by rw[z];rfl)
    have kc:n.kind=11\/n.kind=12:=kk.elim (fun k=>absurd k e6) id
    refine w3 2 H (by rcases kc with k|k<;>rw[k]<;>decide) R ?_
    rcases kc with e|e
    ·have ek:k≠3:=fun z=>e11 ⟨by rw[e];rfl,z⟩
     refine Mth.fin_k (tk.trans e) n0 n1 ?_
     cases fv with
     |ref i=>exact absurd (tk1 htold).symm ek
     |num _=>rfl
     |clo _=>rfl
     |pair _=>rfl
    ·refine Mth.fin_k (tk.trans e) n0 n1 ?_
     cases fv with
     |num z1=>
      cases av with
      |num z2=>
       exact absurd ⟨by rw[e];rfl,(tk1 htold).symm,(tk1 htold').symm⟩ e12
      |clo _=>rfl
      |pair _=>rfl
      |ref _=>rfl
     |clo _=>rfl
     |pair _=>rfl
     |ref _=>rfl
inductive spGoOn (P:Program) (w:World) (A:Ad) (vs:List V) (H:Hp) (Q:VK) (E:XK):Prop
 |mk (H0:Hp) (r ln:Addr) (inp:Nat) (L:RLay) (S:MS) (ns:List RN) (u:VL) (t:Vst) (rest:List Vst) (_:vs=[.ref r,.ref u.a]) (_:StAt P w A H0 H r ln inp L S ns u t rest) (_:∀H' L',RunAt P w A H0 H' r ln inp L' (Mth.goOn (tabR ns) inp S)->Q .non H')
theorem scGoOn:FnScope ["self","visit","node","had","bound"] ["self","visit"] (defScope (inClass (top 32) 3)):=⟨rfl,rfl,rfl,by decide +kernel,rfl,by decide +kernel,by decide +kernel⟩
abbrev pfL:List Int:=[0,0,0,2,1,1,2,1,1,1,1,2,2]
theorem pf_all:∀k:Fin 13,pfL[k.val]?=some (Mth.firstK k.val:Int):=by decide
theorem pf_at {k:Nat} (h:k<=12):(pfL.map V.int)[k]?=some (.int (Mth.firstK k)):=by
 rw[List.getElem?_map,pf_all ⟨k,by omega⟩]
 rfl
theorem last_of {rs:List Vl} {xs:List V} {as:List (Addr×Nat)} (h:Paired (VRel as) rs xs) (hne:0<rs.length):∃ys y,xs=ys++[y]/\VRel as (rs.getLastD (.num 0)) y:=by
 induction h with
 |nil=>cases hne
 |@cons v x vs xs q qs ih=>
  cases qs with
  |nil=>exact⟨[],x,rfl,q⟩
  |@cons v2 x2 vs2 xs2 q2 qs2=>
   obtain⟨ys,y,e,hy⟩:=ih (by simp)
   refine⟨x::ys,y,by rw[e];rfl,?_⟩
   exact hy
theorem ok_goOn {f:Addr} {fd:FuncData} (T:Txt K w mg A) (F:Fun K "go_on" "Run.go_on" (inClass (top 32) 3) f fd) (gCo:MOk P w K mg base CX0 3 A.cRn "come_to" ["self","label","string","bound"] (spCome P w A)) (gGi:MOk P w K mg base CX0 3 A.cRn "give" ["self","value"] (spGive P w A))
  (gCa:MOk P w K mg base CX0 4 A.cRn "call" ["self","visit"] (spCallM P w A)) (gCh:MOk P w K mg base CX0 4 A.cRn "choose" ["self","node","visit"] (spChoose P w A)) (gFi:MOk P w K mg base CX0 4 A.cRn "finish" ["self","node","visit"] (spFin P w A))
  (gBi:DOk P w K mg base CX0 1 "bind" ["bound","binder","value"] spBind):FnOk P w K mg base CX0 5 f fd ["self","visit"] (spGoOn P w A):=by
 refine F.ok scGoOn (fun vs H Q E h=>?_) (fun cdv AA outer s H vs Q E hr h=>?_)
 ·obtain⟨H0,r,ln,inp,L,S,ns,u,t,rest,rfl,_⟩:=h
  rfl
 ·obtain⟨H0,r,ln,inp,L,S,ns,u,t,rest,rfl,X,q⟩:=h
  have hpf:(("PARTS_RUN_FIRST",A.pf,pfL):Str×Addr×List Int)∈glTups A:=by simp[glTups]
  refine⟨_,pss_cons (ps_set (i:=2) scGoOn.nd rfl (Or.inl rfl) (pe_ix ix_list (pf (pv 0)) (pf (pv 1)) (fun _ _=>rfl)))
   (pss_cons (ps_set (i:=3) scGoOn.nd rfl (Or.inl rfl) (pe_callB call_len_seq (by rfl) (T.bl "len") bt_len (pa_cons (pf (pv 1)) pa_nil)))
   (pss_one (ps_if (pt_cmpR op_lt (pv 3) (pe_ix ix_tup (gt T A.pf pfL hpf) (pf (pv 2)) (fun _ _=>rfl)) (nomark _))
    (pss_one (ps_expr (pe_mm gCo T.kRn hr (by decide) pass0 (pv 0) (pa_cons (pe_ix ix_list (pf (pv 2)) (pv 3) (fun _ _=>rfl)) (pa_cons (pf (pv 1)) (pa_cons (pf (pv 1)) pa_nil))))))
   (pss_one (ps_if (pt_cmpR op_gt (pv 3) (pe_ix ix_tup (gt T A.pf pfL hpf) (pf (pv 2)) (fun _ _=>rfl)) (nomark _))
    (pss_one (ps_expr (pe_mm gGi T.kRn hr (by decide) pass0 (pv 0) (pa_cons (pe_ix ix_list (pf (pv 1)) (pe_un un_neg pe_int) (fun _ _=>rfl)) pa_nil))))
   (pss_one (ps_if (pt_cmpR op_eq (pf (pv 2)) (gi T 3) (nomark _))
    (pss_one (ps_expr (pe_mm gCa T.kRn hr (by decide) pass0 (pv 0) (pa_cons (pv 1) pa_nil))))
   (pss_one (ps_if (pt_cmpR op_eq (pf (pv 2)) (gi T 4) (nomark _))
    (pss_cons (ps_set (i:=4) scGoOn.nd rfl (Or.inl rfl) (pe_dd gBi hr (by decide) rfl pass0 (pa_cons (pf (pv 1)) (pa_cons (pf (pv 1)) (pa_cons (pe_ix ix_list (pf (pv 1)) pe_int (fun _ _=>rfl)) pa_nil)))))
     (pss_one (ps_expr (pe_mm gCo T.kRn hr (by decide) pass0 (pv 0) (pa_cons (pe_ix ix_list (pf (pv 2)) pe_int (fun _ _=>rfl)) (pa_cons (pf (pv 1)) (pa_cons (pv 4) pa_nil)))))))
   (pss_one (ps_if (pt_cmpR op_eq (pf (pv 2)) (gi T 5) (nomark _))
    (pss_one (ps_expr (pe_mm gCh T.kRn hr (by decide) pass0 (pv 0) (pa_cons (pv 2) (pa_cons (pv 1) pa_nil)))))
    (pss_one (ps_expr (pe_mm gFi T.kRn hr (by decide) pass0 (pv 0) (pa_cons (pv 2) (pa_cons (pv 1) pa_nil)))))))))))))))),?_⟩
  obtain⟨hv,xs,hx,hxr⟩:=X.top
  have R:=X.R
  obtain⟨l1,l2,l3,l4,l5,l6,l7,l8,l9⟩:=X.lens
  obtain⟨as,n,an,lp,hn,hln,has,hni,hlp,ht⟩:=X.N.node X.lab
  obtain⟨sc,ok,tb⟩:=X.ok
  have hk12:n.kind<=12:=by have:=tb.kind t.lab X.lab;rw[ht]at this;exact this
  have hpl:n.parts.length=Mth.nparts n.kind:=by have:=tb.len t.lab X.lab;rw[ht]at this;exact this
  have hni1:=hni.same R.same
  have hf12:=Mth.first_parts hk12
  refine rdF rfl ⟨_,R.run⟩ T.kRn T.nRn rfl ?_
  refine rdF rfl hv.1 T.kVs T.nVs rfl ?_
  refine⟨ln,_,_,.ref an,rfl,rfl,SqL.of (R.same _ _ hln),atI_nat (j:=t.lab) (by rw[List.getElem?_map,has];rfl),?_⟩
  refine rdF rfl hv.1 T.kVs T.nVs rfl ?_
  refine⟨u.lr,xs,rfl,.inl (SqL.of hx),?_⟩
  rw[<-Paired.length hxr]
  have eg:Mth.goOn (tabR ns) inp S=(if t.res.length<Mth.firstK n.kind then Mth.comeTo (n.parts.getD t.res.length 0) t.ctx t.bnd S
    else if Mth.firstK n.kind<t.res.length then Mth.give t rest (t.res.getLastD (.num 0)) S else Mth.finish (tabR ns) inp t rest S):=by
   unfold Mth.goOn
   rw[X.hS]
   simp only[ht,ndR]
  rw[eg]at q
  refine⟨_,rfl,?_⟩
  refine rdF rfl hni1 T.kNd T.nNd rfl ?_
  refine⟨A.pf,_,_,_,rfl,rfl,T.sq hpf _,atI_nat (pf_at hk12),_,_,rfl,rfl,_,rfl,?_⟩
  by_cases e1:t.res.length<Mth.firstK n.kind
  ·have e1':decide ((t.res.length:Int)<(Mth.firstK n.kind:Int))=true:=decide_eq_true (by omega)
   rw[e1']
   rw[if_pos e1]at q
   refine iteT ?_
   obtain⟨pj,hpj⟩:=Mth.some_at (l:=n.parts) (i:=t.res.length) (by omega)
   rw[Mth.getD_of hpj]at q
   refine⟨_,rfl,r,_,_,rfl,R.run,rfl,?_⟩
   refine rdF rfl hni1 T.kNd T.nNd rfl ?_
   refine⟨_,rfl,lp,_,_,.int pj,rfl,rfl,SqL.of (R.same _ _ hlp),atI_nat (natV_at hpj),?_⟩
   iterate 2 refine rdF rfl hv.1 T.kVs T.nVs rfl ?_
   exact⟨H0,r,ln,inp,L,S,pj,u.ts,u.d,t.ctx,t.bnd,rfl,R,X.fin,Nat.lt_of_le_of_lt l1 (by decide),hv.2.1,hv.2.2,q⟩
  have e1':decide ((t.res.length:Int)<(Mth.firstK n.kind:Int))=false:=decide_eq_false (by omega)
  rw[e1']
  rw[if_neg e1]at q
  refine iteF ?_
  refine⟨_,rfl,?_⟩
  refine rdF rfl hni1 T.kNd T.nNd rfl ?_
  refine⟨A.pf,_,_,_,rfl,rfl,T.sq hpf _,atI_nat (pf_at hk12),_,_,rfl,rfl,_,rfl,?_⟩
  by_cases e2:Mth.firstK n.kind<t.res.length
  ·have e2':decide ((Mth.firstK n.kind:Int)<(t.res.length:Int))=true:=decide_eq_true (by omega)
   rw[e2']
   rw[if_pos e2]at q
   refine iteT ?_
   obtain⟨ys,y,rfl,hy⟩:=last_of hxr (by omega)
   refine⟨_,rfl,r,_,_,rfl,R.run,rfl,?_⟩
   refine rdF rfl hv.1 T.kVs T.nVs rfl ?_
   refine⟨1,rfl,u.lr,_,-1,y,rfl,rfl,SqL.of hx,atI_last _ _,?_⟩
   exact⟨H0,r,ln,inp,L,S,t,rest,_,y,rfl,R,X.fin,X.hS,hy,Nat.lt_of_le_of_lt l2 (by decide),fun v hv=>Nat.lt_of_le_of_lt (l5 v hv) (by decide),q⟩
  have e2':decide ((Mth.firstK n.kind:Int)<(t.res.length:Int))=false:=decide_eq_false (by omega)
  rw[e2']
  rw[if_neg e2]at q
  refine iteF ?_
  have er:t.res.length=Mth.firstK n.kind:=by omega
  have nI:∀{a:Nat},(n.kind:Int)=(a:Int)->n.kind=a:=fun h=>Int.ofNat.inj h
  have tk:(tabR ns t.lab).kind=n.kind:=by rw[ht];rfl
  refine ifEq rfl hni1 T.kNd T.nNd rfl (fun e=>?_) fun k3=>?_
  ·have e:n.kind=3:=nI (a:=3) e
   exact⟨_,rfl,r,_,_,rfl,R.run,rfl,_,rfl,H0,r,ln,inp,L,S,ns,u,t,rest,rfl,X,by rw[tk];exact e,by rw[er,e];rfl,q⟩
  refine ifEq rfl hni1 T.kNd T.nNd rfl (fun e=>?_) fun k4=>?_
  ·have e:n.kind=4:=nI (a:=4) e
   have el:t.res.length=1:=by rw[er,e];rfl
   obtain⟨fv,x,er',rfl,hfx⟩:=VRel_at1 hxr el
   have n0:Mth.nth t.res 0=fv:=by rw[er'];rfl
   obtain⟨pj,hpj⟩:=Mth.some_at (l:=n.parts) (i:=1) (by rw[hpl,e];decide)
   iterate 3 refine rdF rfl hv.1 T.kVs T.nVs rfl ?_
   obtain⟨kvs,b1,b2⟩:=hv.2.2
   refine⟨u.lr,_,0,x,rfl,rfl,SqL.of hx,atI_nat (j:=0) rfl,u.d,t.lab,x,kvs,rfl,b1,(by rw[<-Paired.length b2];exact Nat.lt_of_le_of_lt l6 (by decide)),fun p hp=>?_⟩
   have s3:Same H (upd H p (.dK (putK kvs (.inl (t.lab:Int)) x))):=same_new hp
   have R3:=R.keep s3
   have hb3:BndAt (upd H p (.dK (putK kvs (.inl (t.lab:Int)) x))) L.as p (Mth.putB t.bnd t.lab fv):=⟨_,upd_same,b2.put hfx⟩
   refine⟨_,rfl,r,_,_,rfl,R3.run,rfl,?_⟩
   refine rdF rfl (hni1.same s3) T.kNd T.nNd rfl ?_
   refine⟨lp,_,1,.int pj,rfl,rfl,SqL.of (R3.same _ _ hlp),atI_nat (j:=1) (natV_at hpj),?_⟩
   refine rdF rfl (hv.1.same s3) T.kVs T.nVs rfl ?_
   refine⟨_,rfl,H0,r,ln,inp,L,S,pj,u.ts,p,t.ctx,_,rfl,R3,X.fin,Nat.lt_of_le_of_lt l1 (by decide),s3 _ _ hv.2.1,hb3,fun H' L' R'=>q H' L' ?_⟩
   have em:Mth.finish (tabR ns) inp t rest S=Mth.comeTo pj t.ctx (Mth.putB t.bnd t.lab fv) S:=by
    refine Mth.fin_k (tk.trans e) n0 rfl ?_
    rw[ht]
    show Mth.comeTo (n.parts.getD 1 0) _ _ _=_
    rw[Mth.getD_of hpj]
   rw[em]
   exact R'
  refine ifEq rfl hni1 T.kNd T.nNd rfl (fun e=>?_) fun k5=>?_
  ·have e:n.kind=5:=nI (a:=5) e
   exact⟨_,rfl,r,_,_,rfl,R.run,rfl,_,rfl,_,rfl,H0,r,ln,inp,L,S,ns,u,t,rest,an,n,lp,rfl,X,hn,hni,hlp,e,by rw[er,e];rfl,q⟩
  ·exact⟨_,rfl,r,_,_,rfl,R.run,rfl,_,rfl,_,rfl,H0,r,ln,inp,L,S,ns,u,t,rest,an,n,lp,rfl,X,hn,hni,fun z=>k3 (by rw[z];rfl),fun z=>k4 (by rw[z];rfl),fun z=>k5 (by rw[z];rfl),er,q⟩
end
def TabN (ns:List RN):Prop:=0<ns.length/\∃sc,Mth.TabOk (tabR ns) ns.length sc/\sc 0=[]
section
variable {P:Program} {w:World} {K:PySem.W.Frag} {mg:Str->Option Value} {base:Heap} {A:Ad}
abbrev runS (ns:List RN) (inp:Nat) (k:Nat):MS:=Mth.iterM (tabR ns) inp k (Mth.comeTo 0 [] [] Mth.startS)
inductive spGo (P:Program) (w:World) (A:Ad) (vs:List V) (H:Hp) (Q:VK) (E:XK):Prop
 |mk (H0:Hp) (r ln:Addr) (inp:Nat) (L:RLay) (ns:List RN) (_:vs=[.ref r]) (_:RunAt P w A H0 H r ln inp L Mth.startS) (_:NodesAt A H0 ln ns) (_:TabN ns) (_:∀H' L' k,RunAt P w A H0 H' r ln inp L' (runS ns inp k)->(∃sc,Mth.OkS (tabR ns) ns.length sc (runS ns inp k))->(runS ns inp k).fin≠none->Q .non H')
theorem scGo:FnScope ["self"] ["self"] (defScope (inClass (top 32) 1)):=⟨rfl,rfl,rfl,by decide +kernel,rfl,by decide +kernel,by decide +kernel⟩
theorem ok_go {f:Addr} {fd:FuncData} (T:Txt K w mg A) (F:Fun K "go" "Run.go" (inClass (top 32) 1) f fd) (gCo:MOk P w K mg base CX0 3 A.cRn "come_to" ["self","label","string","bound"] (spCome P w A)) (gGo:MOk P w K mg base CX0 5 A.cRn "go_on" ["self","visit"] (spGoOn P w A)):FnOk P w K mg base CX0 6 f fd ["self"] (spGo P w A):=by
 refine F.ok scGo (fun vs H Q E h=>?_) (fun cdv AA outer s H vs Q E hr h=>?_)
 ·obtain⟨H0,r,ln,inp,L,ns,rfl,_⟩:=h
  rfl
 ·obtain⟨H0,r,ln,inp,L,ns,rfl,R,hN,⟨hn0,sc,tb,hsc⟩,q⟩:=h
  refine⟨_,pss_cons (ps_expr (pe_mm gCo T.kRn hr (by decide) pass0 (pv 0) (pa_cons pe_int (pa_cons (pe_tup pa_nil) (pa_cons pe_dnewK pa_nil)))))
   (pss_one (ps_while PassesOwn.never (pt_not (pt_truth (pf (pv 0)) (fun _=>rfl))) (pss_one (ps_expr (pe_mm gGo T.kRn hr (by decide) pass0 (pv 0) (pa_cons (pe_ix ix_list (pf (pv 0)) (pe_un un_neg pe_int) (fun _ _=>rfl)) pa_nil)))))),?_⟩
  refine⟨_,rfl,r,_,_,rfl,R.run,rfl,?_⟩
  refine⟨Nat.zero_le _,fun ts hts=>?_⟩
  intro d hd
  have s1:Same H (upd H ts (.tup [])):=same_new hts
  have s2:Same (upd H ts (.tup [])) (upd (upd H ts (.tup [])) d (.dK [])):=same_new hd
  refine⟨H0,r,ln,inp,L,Mth.startS,0,ts,d,[],[],rfl,R.keep (s1.trans s2),rfl,by decide,s2 _ _ upd_same,⟨[],upd_same,.nil⟩,fun H1 L1 R1=>?_⟩
  refine⟨fun m σ H'=>σ=[some (.ref r)]/\∃L' k,RunAt P w A H0 H' r ln inp L' (runS ns inp k)/\Mth.OkS (tabR ns) ns.length sc (runS ns inp k)/\Mth.mu (runS ns inp k)=m,⟨_,rfl,L1,0,R1,Mth.okS_start hn0 hsc,rfl⟩,?_⟩
  rintro m σ H2 ⟨rfl,L2,k,R2,ok,rfl⟩
  refine rdF rfl ⟨_,R2.run⟩ T.kRn T.nRn rfl ?_
  refine⟨_,.inl ⟨_,SqL.of R2.ending,rfl⟩,?_⟩
  cases hf:(runS ns inp k).fin with
  |some l=>
   have hl:=ok.fe l hf
   have e:(!!(natV ((some l).getD [])).isEmpty)=false:=by
    cases l with
    |nil=>exact absurd rfl hl
    |cons=>rfl
   rw[e]
   exact iteF (q H2 L2 k R2 ⟨sc,ok⟩ (by rw[hf];simp))
  |none=>
   refine iteT ?_
   have hne:=ok.ne hf
   obtain⟨t,rest,hS⟩:∃t rest,(runS ns inp k).vis=t::rest:=by
    cases h:(runS ns inp k).vis with
    |nil=>exact absurd h hne
    |cons t rest=>exact⟨t,rest,rfl⟩
   obtain⟨u,us,hL⟩:∃u us,L2.vs=u::us:=by
    have h:=R2.vis
    rw[hS]at h
    cases hv:L2.vs with
    |nil=>rw[hv]at h;cases h
    |cons u us=>exact⟨u,us,rfl⟩
   have nx:=Mth.nxt_go (inp:=inp) tb ok hf
   have eg:=Mth.iter_go (nd:=tabR ns) (inp:=inp) (k:=k) (S0:=Mth.comeTo 0 [] [] Mth.startS) rfl hf
   refine⟨fun σ' H'=>σ'=[some (.ref r)]/\∃L',RunAt P w A H0 H' r ln inp L' (runS ns inp (k+1)),?_,?_⟩
   ·rintro σ' H' ⟨rfl,L',R'⟩
    refine⟨_,?_,rfl,L',k+1,R',?_,rfl⟩
    ·rw[show runS ns inp (k+1)=_ from eg]
     exact nx.2
    ·rw[show runS ns inp (k+1)=_ from eg]
     exact nx.1
   ·have e4:H2 L2.lv=some (.lst ((us.map fun u=>V.ref u.a).reverse++[V.ref u.a])):=by
     have:=R2.visl
     rw[hL,List.map_cons,List.reverse_cons]at this
     exact this
    refine⟨_,rfl,r,_,_,rfl,R2.run,rfl,?_⟩
    refine rdF rfl ⟨_,R2.run⟩ T.kRn T.nRn rfl ?_
    refine⟨1,rfl,L2.lv,_,-1,_,rfl,rfl,SqL.of e4,atI_last _ _,?_⟩
    refine⟨H0,r,ln,inp,L2,_,ns,u,t,rest,rfl,⟨R2,hN,hf,⟨us,hL⟩,hS,sc,ok,tb⟩,fun H' L' R'=>⟨rfl,L',?_⟩⟩
    rw[show runS ns inp (k+1)=_ from eg]
    exact R'
def spRunP (P:Program) (w:World) (A:Ad):Sp:=fun vs H Q _=>∃(ln:Addr) (inp:Nat) (ns:List RN),vs=[.ref ln,.int inp]/\NodesAt A H ln ns/\TabN ns /\
 ∀H' r L k,RunAt P w A H H' r ln inp L (runS ns inp k)->(∃sc,Mth.OkS (tabR ns) ns.length sc (runS ns inp k))->(runS ns inp k).fin≠none->Q (.ref r) H'
theorem scRunP:FnScope ["nodes","given","run"] ["nodes","given"] (defScope (top 33)):=⟨rfl,rfl,rfl,by decide +kernel,rfl,by decide +kernel,by decide +kernel⟩
theorem ok_runP {f:Addr} {fd:FuncData} (T:Txt K w mg A) (F:Fun K "run_program" "run_program" (top 33) f fd) (gRn:KOk P w K mg base CX0 1 A.cRn "Run" ["self","nodes","given"] (spRnI P w A)) (gGo:MOk P w K mg base CX0 6 A.cRn "go" ["self"] (spGo P w A)) :
  FnOk P w K mg base CX0 7 f fd ["nodes","given"] (spRunP P w A):=by
 refine F.ok scRunP (fun vs H Q E h=>?_) (fun cdv AA outer s H vs Q E hr h=>?_)
 ·obtain⟨ln,inp,ns,rfl,_⟩:=h
  rfl
 ·obtain⟨ln,inp,ns,rfl,hN,hT,q⟩:=h
  refine⟨_,pss_cons (ps_set (i:=2) scRunP.nd rfl (Or.inl rfl) (pe_kk gRn hr (by decide) rfl pass0 (pa_cons (pv 0) (pa_cons (pv 1) pa_nil))))
   (pss_cons (ps_expr (pe_mm0 gGo T.kRn hr (by decide) pass0 (pv 2))) (pss_one (ps_ret (pv 2)))),?_⟩
  refine⟨_,rfl,_,rfl,?_⟩
  intro r dx nr nd ne
  refine⟨r,dx,_,inp,rfl,upd_same,fun H1 lv dc df lm le hr1 hfr hnd h1 h2 h3 h4 h5 hb=>⟨rfl,?_⟩⟩
  have s1:Same H H1:=But.made nr nd hb
  have fr:∀a∈[lv,dc,df,lm,le],H a=none:=fun a ha=>free_made (hfr a ha)
  simp only[List.nodup_cons,List.mem_cons,List.not_mem_nil,or_false,not_or]at hnd
  obtain⟨⟨a1,a2,a3,a4⟩,⟨b1,b2,b3⟩,⟨c1,c2⟩,d1,_⟩:=hnd
  have R:RunAt P w A H H1 r ln inp ⟨dx,lv,dc,df,lm,le,[],[]⟩ Mth.startS:=by
   refine⟨s1,hr1,h1,.nil,.nil,h2,h3,h4,h5,fun i o h=>by simp[Mth.startS,Vacfaa.nothing]at h,rfl,List.nodup_nil,?_,b1,nr,?_,⟨fr _ (by simp),fr _ (by simp)⟩,(fun a ha=>nomatch ha),fr _ (by simp)⟩
   ·simp only[List.map_nil,List.nodup_cons,List.mem_cons,List.not_mem_nil,or_false,not_or,not_false_iff,List.nodup_nil,and_true]
    exact⟨⟨Ne.symm a4,Ne.symm d1⟩,a3⟩
   ·intro a ha
    simp only[List.map_nil,List.mem_cons,List.not_mem_nil,or_false]at ha
    rcases ha with rfl|rfl
    ·exact fr _ (by simp)
    ·exact fr _ (by simp)
  refine⟨_,rfl,r,_,_,rfl,R.run,rfl,H,r,ln,inp,_,ns,rfl,R,hN,hT,fun H' L' k R' hok hf=>?_⟩
  exact⟨_,rfl,q H' r L' k R' hok hf⟩
end
end Fv
end
section
namespace Fv
open PySem PySem.Spec PyProof.Rows L2
open Mth (RN RS bAt rowW takeB WfR)
abbrev Tx:=Vacfaa.Text
structure TxE (K:PySem.W.Frag) (mg:Str->Option Value) (A:Ad):Prop where
 np:mg "NoProgram"=some (.ref A.cNp)
 npx:PySem.W.excIn K A.cNp [.type "ValueError",.type "Exception",.type "BaseException",.type "object"] "ValueError.__new__"=true
 npk:PySem.W.ktsIn K A.cNp "BaseException"=true
section
variable {P:Program} {w:World} {K:PySem.W.Frag} {mg:Str->Option Value} {base:Heap} {A:Ad}
theorem okX {C:Addr} {x qual:Str} {st:Stmt} {f:Addr} {fd:FuncData} {N ps:List Str} {k:Nat} {sp:Sp} (F:Fun K x qual st f fd) (S:FnScope N ps (defScope st)) (len:∀vs H Q E,sp vs H Q E->vs.length=ps.length)
  (hbody:∀(cdv:Value) (AA:Around) (outer:List Env) (s:Shared) (H:Hp) (vs:List V) (Q:VK) (E:XK),Room k (AA.deeper (envOfC qual (defScope st) s.heap.objs.size f cdv))->sp vs H Q E ->
   ∃t,PSs (cxOf (CX1 P w C) P w K mg base N qual (defScope st) f cdv AA outer s H E) (defBody st) t/\t {nx:=fun _ H'=>Q .non H',rt:=Q} (L2.start N vs) H):FnOk P w K mg base (CX1 P w C) (k+1) f fd ps sp:=by
 obtain⟨oc,od,kV,doc,pm,an,cdv,ct,osl,rfl,lk,hcd⟩:=F.ex
 exact fn_of lk hcd S len fun AA outer s H vs Q E hr hsp=>hbody cdv AA outer s H vs Q E hr hsp
theorem ps_np {X:Cx} {E:XK} (L:Leaves A.cNp E X) (hc:X.calm=true) (TE:TxE X.K X.mg A) {np cpos pos:Pos} (hg:Gl X "NoProgram":=by rfl):PS X (.Raise (some (.Call (.Name "NoProgram" np) [] [] cpos)) none pos) (fun _ _ H=>E (.ref A.cNp) none H):=
 ps_raise L hc hg TE.np TE.npx PySem.F.excBase_ValueError
end
def txV (t:Tx):List V:=natV (t.map UInt8.toNat)
structure RdLay where
 dx:Addr
 lt:Addr
 ln:Addr
 la:Addr
 ns:List (Addr×Addr)
structure RdAt (A:Ad) (H0 H:Hp) (rd:Addr) (t:Tx) (L:RdLay) (s:RS):Prop where
 same:Same H0 H
 rdr:H rd=some (.ins A.cRd L.dx (fRd L.lt s.pl L.ln L.la))
 txt:H0 L.lt=some (.lst (txV t))
 nodes:H L.ln=some (.lst (L.ns.map fun p=>V.ref p.1))
 around:H L.la=some (.lst (natV s.ar))
 each:∀(i:Nat) (n:RN),s.ns[i]?=some n->∃p,L.ns[i]?=some p/\InsAt A.cNd H p.1 (fRN n p.2)/\H p.2=some (.lst (natV n.parts))
 len:L.ns.length=s.ns.length
 nd1:(L.ns.map (·.1)).Nodup
 nd2:(L.ln::L.la::L.ns.map (·.2)).Nodup
 fr:H0 rd=none
 fl:∀a∈L.ln::L.la::L.ns.map (·.2),H0 a=none
 fn:∀p∈L.ns,H0 p.1=none
section
variable {A:Ad} {H0 H H':Hp} {rd:Addr} {t:Tx} {L:RdLay} {s:RS}
theorem RdAt.keep (R:RdAt A H0 H rd t L s) (k:Same H H'):RdAt A H0 H' rd t L s:=
 ⟨R.same.trans k,k _ _ R.rdr,R.txt,k _ _ R.nodes,k _ _ R.around,fun i n h=>let⟨p,h1,h2,h3⟩:=R.each i n h;⟨p,h1,h2.same k,k _ _ h3⟩,R.len,R.nd1,R.nd2,R.fr,R.fl,R.fn⟩
theorem clsR (nC:A.cls.Nodup):A.cRd≠A.cNd:=by
 simp only[Ad.cls,List.nodup_cons,List.mem_cons,List.not_mem_nil,or_false,not_or]at nC
 obtain⟨⟨_,_,_,_,_,h,_⟩,_⟩:=nC
 exact fun e=>h e.symm
theorem RdAt.place (nC:A.cls.Nodup) (R:RdAt A H0 H rd t L s) {pl:Nat} (b:But rd H H') (h:H' rd=some (.ins A.cRd L.dx (fRd L.lt pl L.ln L.la))):RdAt A H0 H' rd t L {s with pl:=pl}:=by
 have ne:∀{a:Addr} {xs:List V},H a=some (.lst xs)->a≠rd:=fun e=>ne_of e R.rdr (by intro z;cases z)
 refine⟨same_but R.same b R.fr,h,R.txt,b _ _ R.nodes (ne R.nodes),b _ _ R.around (ne R.around),fun i n hn=>?_,R.len,R.nd1,R.nd2,R.fr,R.fl,R.fn⟩
 obtain⟨p,h1,h2,h3⟩:=R.each i n hn
 exact⟨p,h1,b.ins R.rdr (by intro dx z;injection z with z1;exact clsR nC z1.symm) h2,b _ _ h3 (ne h3)⟩
theorem RdAt.setN (nC:A.cls.Nodup) (R:RdAt A H0 H rd t L s) {i:Nat} {p:Addr×Addr} {n:RN} {g:RN->RN} {dx:Addr} {fs:List (Str×V)} (hi:L.ns[i]?=some p) (hn:s.ns[i]?=some n) (hp:H p.1=some (.ins A.cNd dx fs)) (hg:(g n).parts=n.parts) (b:But p.1 H H') (h:InsAt A.cNd H' p.1 (fRN (g n) p.2)) :
  RdAt A H0 H' rd t L {s with ns:=s.ns.modify i g}:=by
 have ne:∀{a:Addr} {xs:List V},H a=some (.lst xs)->a≠p.1:=fun e=>ne_of e hp (by intro z;cases z)
 refine⟨same_but R.same b (R.fn p (List.mem_of_getElem? hi)),b _ _ R.rdr (ne_of R.rdr hp (by intro z;injection z with z1;exact clsR nC z1)),R.txt,b _ _ R.nodes (ne R.nodes),b _ _ R.around (ne R.around),fun j m hm=>?_,by rw[R.len];simp,R.nd1,R.nd2,R.fr,R.fl,R.fn⟩
 have hm:(s.ns.modify i g)[j]?=some m:=hm
 rw[List.getElem?_modify]at hm
 by_cases e:i=j
 ·subst e
  simp only[if_true,hn,Option.map_some]at hm
  obtain⟨p',h1,h2,h3⟩:=R.each i n hn
  rw[hi]at h1
  cases h1
  cases hm
  exact⟨p,hi,h,by rw[hg];exact b _ _ h3 (ne h3)⟩
 ·simp only[e,if_false,Option.map_id_fun',id_eq]at hm
  obtain⟨p',h1,⟨dx',h2⟩,h3⟩:=R.each j m (by simpa using hm)
  refine⟨p',h1,⟨dx',b _ _ h2 fun z=>e ?_⟩,b _ _ h3 (ne h3)⟩
  have g1:(L.ns.map (·.1))[i]?=some p.1:=by rw[List.getElem?_map,hi];rfl
  have g2:(L.ns.map (·.1))[j]?=some p.1:=by rw[List.getElem?_map,h1,<-z];rfl
  exact nd_ix R.nd1 g1 g2
theorem RdAt.setP (R:RdAt A H0 H rd t L s) {i k:Nat} {p:Addr×Addr} {n:RN} (hi:L.ns[i]?=some p) (hn:s.ns[i]?=some n) (b:But p.2 H H') (h:H' p.2=some (.lst (natV (n.parts++[k])))) :
  RdAt A H0 H' rd t L {s with ns:=s.ns.modify i fun n=>{n with parts:=n.parts++[k]}}:=by
 obtain⟨p',h1,h2,h3⟩:=R.each i n hn
 rw[hi]at h1
 cases h1
 have ne:∀{a C dx:Addr} {fs:List (Str×V)},H a=some (.ins C dx fs)->a≠p.2:=fun e=>ne_of e h3 (by intro z;cases z)
 have nd:=R.nd2
 simp only[List.nodup_cons,List.mem_cons,not_or]at nd
 obtain⟨⟨n1,n2⟩,n3,n4⟩:=nd
 have hm2:p.2∈L.ns.map (·.2):=List.mem_map.mpr ⟨p,List.mem_of_getElem? hi,rfl⟩
 refine⟨same_but R.same b (R.fl _ (List.mem_cons_of_mem _ (List.mem_cons_of_mem _ hm2))),b _ _ R.rdr (ne R.rdr),R.txt,b _ _ R.nodes (fun z=>n2 (by rw[z];exact hm2)),b _ _ R.around (fun z=>n3 (by rw[z];exact hm2)),fun j m hm=>?_,by rw[R.len];simp,R.nd1,R.nd2,R.fr,R.fl,R.fn⟩
 have hm:(s.ns.modify i fun n=>{n with parts:=n.parts++[k]})[j]?=some m:=hm
 rw[List.getElem?_modify]at hm
 by_cases e:i=j
 ·subst e
  simp only[if_true,hn,Option.map_some]at hm
  cases hm
  obtain⟨dx,h2⟩:=h2
  exact⟨p,hi,⟨dx,b _ _ h2 (ne h2)⟩,h⟩
 ·simp only[e,if_false,Option.map_id_fun',id_eq]at hm
  obtain⟨p',h1,⟨dx',h2'⟩,h3'⟩:=R.each j m (by simpa using hm)
  refine⟨p',h1,⟨dx',b _ _ h2' (ne h2')⟩,b _ _ h3' fun z=>e ?_⟩
  have g1:(L.ns.map (·.2))[i]?=some p.2:=by rw[List.getElem?_map,hi];rfl
  have g2:(L.ns.map (·.2))[j]?=some p.2:=by rw[List.getElem?_map,h1,<-z];rfl
  exact nd_ix n4 g1 g2
theorem RdAt.setA (R:RdAt A H0 H rd t L s) {ar:List Nat} (b:But L.la H H') (h:H' L.la=some (.lst (natV ar))):RdAt A H0 H' rd t L {s with ar:=ar}:=by
 have ne:∀{a C dx:Addr} {fs:List (Str×V)},H a=some (.ins C dx fs)->a≠L.la:=fun e=>ne_of e R.around (by intro z;cases z)
 have nd:=R.nd2
 simp only[List.nodup_cons,List.mem_cons,not_or]at nd
 obtain⟨⟨n1,n2⟩,n3,n4⟩:=nd
 refine⟨same_but R.same b (R.fl _ (by simp)),b _ _ R.rdr (ne R.rdr),R.txt,b _ _ R.nodes n1,h,fun i n hn=>?_,R.len,R.nd1,R.nd2,R.fr,R.fl,R.fn⟩
 obtain⟨p,h1,⟨dx,h2⟩,h3⟩:=R.each i n hn
 exact⟨p,h1,⟨dx,b _ _ h2 (ne h2)⟩,b _ _ h3 fun z=>n3 (by rw[<-z];exact List.mem_map.mpr ⟨p,List.mem_of_getElem? h1,rfl⟩)⟩
theorem RdAt.push (R:RdAt A H0 H rd t L s) {p:Addr×Addr} {n:RN} (h1:InsAt A.cNd H p.1 (fRN n p.2)) (h2:H p.2=some (.lst (natV n.parts))) (f1:H0 p.1=none) (f2:H0 p.2=none) (m1:p.1 ∉ L.ns.map (·.1)) (m2:p.2 ∉ L.ln::L.la::L.ns.map (·.2)) (b:But L.ln H H')
  (h:H' L.ln=some (.lst ((L.ns.map fun p=>V.ref p.1)++[V.ref p.1]))):RdAt A H0 H' rd t {L with ns:=L.ns++[p]} {s with ns:=s.ns++[n]}:=by
 have ne:∀{a C dx:Addr} {fs:List (Str×V)},H a=some (.ins C dx fs)->a≠L.ln:=fun e=>ne_of e R.nodes (by intro z;cases z)
 have nd:=R.nd2
 simp only[List.nodup_cons,List.mem_cons,not_or]at nd m2
 obtain⟨⟨n1,n2⟩,n3,n4⟩:=nd
 obtain⟨m3,m4,m5⟩:=m2
 refine⟨same_but R.same b (R.fl _ (by simp)),b _ _ R.rdr (ne R.rdr),R.txt,by rw[h];simp,b _ _ R.around (Ne.symm n1),fun i x hx=>?_,by simp[R.len],?_,?_,R.fr,?_,?_⟩
 ·have hx:(s.ns++[n])[i]?=some x:=hx
  by_cases hi:i<s.ns.length
  ·rw[List.getElem?_append_left hi]at hx
   obtain⟨p',k1,⟨dx,k2⟩,k3⟩:=R.each i x hx
   exact⟨p',get_more k1,⟨dx,b _ _ k2 (ne k2)⟩,b _ _ k3 fun z=>n2 (by rw[<-z];exact List.mem_map.mpr ⟨p',List.mem_of_getElem? k1,rfl⟩)⟩
  ·have e0:i=s.ns.length:=by
    by_cases e:i=s.ns.length
    ·exact e
    ·rw[List.getElem?_eq_none (by simp;omega)]at hx
     cases hx
   subst e0
   rw[get_last _ _ rfl]at hx
   cases hx
   obtain⟨dx,h1⟩:=h1
   exact⟨p,get_last _ _ R.len.symm,⟨dx,b _ _ h1 (ne h1)⟩,b _ _ h2 m3⟩
 ·rw[List.map_append]
  refine List.nodup_append.mpr ⟨R.nd1,by simp,fun x hx y hy e=>?_⟩
  simp at hy
  subst hy
  subst e
  exact m1 hx
 ·rw[List.map_append]
  simp only[List.map_cons,List.map_nil,List.nodup_cons,List.mem_cons,List.mem_append,List.not_mem_nil,or_false,not_or]
  refine⟨⟨n1,n2,Ne.symm m3⟩,⟨n3,Ne.symm m4⟩,List.nodup_append.mpr ⟨n4,by simp,fun x hx y hy e=>?_⟩⟩
  simp at hy
  subst hy
  subst e
  exact m5 hx
 ·intro a ha
  simp only[List.map_append,List.map_cons,List.map_nil,List.mem_cons,List.mem_append,List.not_mem_nil,or_false]at ha
  rcases ha with rfl|rfl|ha|rfl
  ·exact R.fl _ (by simp)
  ·exact R.fl _ (by simp)
  ·exact R.fl _ (List.mem_cons_of_mem _ (List.mem_cons_of_mem _ ha))
  ·exact f2
 ·intro q hq
  rcases List.mem_append.mp hq with k|k
  ·exact R.fn q k
  ·rw[List.mem_singleton.mp k];exact f1
end
end Fv
end
section
namespace Fv
open PySem PySem.Spec PyProof.Rows L2
open Mth (RN RS bAt rowW takeB)
theorem txV_at {t:Tx} {i:Nat} {b:UInt8} (h:t[i]?=some b):(txV t)[i]?=some (.int (b.toNat:Int)):=natV_at (by rw[List.getElem?_map,h];rfl)
theorem txV_len (t:Tx):(txV t).length=t.length:=by simp[txV,natV,natI]
section
variable {P:Program} {w:World} {K:PySem.W.Frag} {mg:Str->Option Value} {base:Heap} {A:Ad}
inductive spBA (A:Ad) (vs:List V) (H:Hp) (Q:VK) (E:XK):Prop
 |mk (H0:Hp) (rd:Addr) (t:Tx) (L:RdLay) (s:RS) (_:vs=[.ref rd]) (_:RdAt A H0 H rd t L s) (_:Q (.int (bAt t s.pl)) H)
theorem scBA:FnScope ["self"] ["self"] (defScope (inClass (top 55) 1)):=⟨rfl,rfl,rfl,by decide +kernel,rfl,by decide +kernel,by decide +kernel⟩
theorem ok_ba {f:Addr} {fd:FuncData} (T:Txt K w mg A) (F:Fun K "byte_ahead" "Reader.byte_ahead" (inClass (top 55) 1) f fd):FnOk P w K mg base CX0 1 f fd ["self"] (spBA A):=by
 refine F.ok scBA (fun vs H Q E h=>?_) (fun cdv AA outer s H vs Q E hr h=>?_)
 ·obtain⟨H0,rd,t,L,s,rfl,_⟩:=h
  rfl
 ·obtain⟨H0,rd,t,L,s,rfl,R,q⟩:=h
  refine⟨_,pss_cons (ps_if (pt_cmpR op_lt (pf (pv 0)) (pe_callB call_len_seq (by rfl) (T.bl "len") bt_len (pa_cons (pf (pv 0)) pa_nil)) (nomark _)) (pss_one (ps_ret (pe_ix ix_list (pf (pv 0)) (pf (pv 0)) (fun _ _=>rfl)))) pss_nil) (pss_one (ps_ret (gi T (-1)))),?_⟩
  have ht:=R.same _ _ R.txt
  iterate 2 refine rdF rfl ⟨_,R.rdr⟩ T.kRd T.nRd rfl ?_
  refine⟨L.lt,_,rfl,.inl (SqL.of ht),_,_,rfl,rfl,_,rfl,?_⟩
  rw[txV_len]
  unfold bAt at q
  cases hb:t[s.pl]? with
  |some b=>
   rw[hb]at q
   have hlt:=(List.getElem?_eq_some_iff.mp hb).1
   have e:decide ((s.pl:Int)<(t.length:Int))=true:=decide_eq_true (by omega)
   rw[e]
   refine iteT ?_
   iterate 2 refine rdF rfl ⟨_,R.rdr⟩ T.kRd T.nRd rfl ?_
   exact⟨L.lt,_,_,_,rfl,rfl,SqL.of ht,atI_nat (txV_at hb),q⟩
  |none=>
   rw[hb]at q
   have hge:=List.getElem?_eq_none_iff.mp hb
   have e:decide ((s.pl:Int)<(t.length:Int))=false:=decide_eq_false (by omega)
   rw[e]
   exact iteF q
def Way (A:Ad) (H0:Hp) (E:XK) (o:Option RS) (k:RS->Prop):Prop:=(∀s',o=some s'->k s')/\(o=none->∀H',Same H0 H'->E (.ref A.cNp) none H')
inductive spTake (A:Ad) (vs:List V) (H:Hp) (Q:VK) (E:XK):Prop
 |mk (H0:Hp) (rd:Addr) (t:Tx) (L:RdLay) (s:RS) (c:Nat) (_:vs=[.ref rd,.int c]) (_:RdAt A H0 H rd t L s) (_:Way A H0 E (takeB t c s) fun s'=>∀H',RdAt A H0 H' rd t L s'->Q .non H')
theorem scTake:FnScope ["self","byte"] ["self","byte"] (defScope (inClass (top 55) 2)):=⟨rfl,rfl,rfl,by decide +kernel,rfl,by decide +kernel,by decide +kernel⟩
theorem ok_take {f:Addr} {fd:FuncData} (T:Txt K w mg A) (TE:TxE K mg A) (F:Fun K "take" "Reader.take" (inClass (top 55) 2) f fd) (gBA:MOk P w K mg base CX0 1 A.cRd "byte_ahead" ["self"] (spBA A)):FnOk P w K mg base (CX1 P w A.cNp) 2 f fd ["self","byte"] (spTake A):=by
 refine okX F scTake (fun vs H Q E h=>?_) (fun cdv AA outer s H vs Q E hr h=>?_)
 ·obtain⟨H0,rd,t,L,s,c,rfl,_⟩:=h
  rfl
 ·obtain⟨H0,rd,t,L,s,c,rfl,R,q1,q2⟩:=h
  refine⟨_,pss_cons (ps_if (pt_cmpR op_ne (pe_mm0 gBA T.kRd hr (by decide) pass0 (pv 0)) (pv 1) (nomark _)) (pss_one (ps_np leaves_def rfl TE)) pss_nil) (pss_one (ps_fldaug (pv 0) pe_int in_add)),?_⟩
  refine⟨_,rfl,rd,_,_,rfl,R.rdr,rfl,H0,rd,t,L,s,rfl,R,_,rfl,rfl,_,rfl,?_⟩
  unfold takeB at q1 q2
  by_cases e:bAt t s.pl=(c:Int)
  ·rw[if_pos e]at q1
   have e1:(!decide (V.int (bAt t s.pl)=V.int (c:Int)))=false:=by simp[e]
   rw[e1]
   refine iteF ?_
   refine⟨_,rfl,rd,_,_,_,_,rfl,R.rdr,T.kRd,T.nRd,rfl,_,_,rfl,rfl,_,_,R.rdr,(by show 4<1000;decide),?_⟩
   exact q1 _ rfl _ (R.place (pl:=s.pl+1) T.nd But.put upd_same)
  ·rw[if_neg e]at q2
   have e1:(!decide (V.int (bAt t s.pl)=V.int (c:Int)))=true:=by simp[e]
   rw[e1]
   exact iteT (q2 rfl _ R.same)
theorem tw_at (p:UInt8->Bool):∀(l:Tx) (j:Nat),(j<(l.takeWhile p).length->∃b,l[j]?=some b/\p b=true)/\(j=(l.takeWhile p).length->l[j]?=none\/∃b,l[j]?=some b/\p b=false)
 |[],j=>⟨fun h=>by simp at h,fun h=>.inl rfl⟩
 |a::l,j=>by
  by_cases ha:p a=true
  ·rw[List.takeWhile_cons,if_pos ha]
   cases j with
   |zero=>exact⟨fun _=>⟨a,rfl,ha⟩,fun h=>by simp at h⟩
   |succ j=>
    have ih:=tw_at p l j
    simp only[List.length_cons,Nat.succ_lt_succ_iff,Nat.succ.injEq,List.getElem?_cons_succ]
    exact ih
  ·rw[List.takeWhile_cons,if_neg ha]
   refine⟨fun h=>by simp at h,fun h=>?_⟩
   have h:j=0:=h
   subst h
   exact .inr ⟨a,rfl,by simpa using ha⟩
theorem cut_row (p:UInt8->Bool) (t:Tx) (pl:Nat) (h:pl<=t.length):cutV (txV t) (some (pl:Int)) (some ((pl+(rowW p t pl).length:Nat):Int))=txV (rowW p t pl):=by
 unfold cutV
 have hl:(rowW p t pl).length<=(t.drop pl).length:=List.Sublist.length_le (List.takeWhile_sublist p)
 rw[List.length_drop]at hl
 rw[HT.sIx_nat,HT.sIx_nat,txV_len,Nat.min_eq_left h,Nat.min_eq_left (by omega),Nat.add_sub_cancel_left]
 unfold txV natV natI
 rw[<-List.map_drop,<-List.map_drop,<-List.map_drop,<-List.map_take,<-List.map_take,<-List.map_take]
 congr 3
 unfold rowW
 have e:=List.takeWhile_append_dropWhile (p:=p) (l:=t.drop pl)
 generalize (t.drop pl).takeWhile p=B at *
 generalize (t.drop pl).dropWhile p=C at *
 rw[<-e,List.take_left]
inductive spRow (A:Ad) (vs:List V) (H:Hp) (Q:VK) (E:XK):Prop
 |mk (H0:Hp) (rd:Addr) (t:Tx) (L:RdLay) (s:RS) (lo hi:Nat) (p:UInt8->Bool) (_:vs=[.ref rd,.int lo,.int hi]) (_:RdAt A H0 H rd t L s) (_:s.pl<=t.length) (_:∀b,p b=true↔lo<=b.toNat/\b.toNat<=hi) (_:∀H' l,RdAt A H0 H' rd t L {s with pl:=s.pl+(rowW p t s.pl).length}->H' l=some (.lst (txV (rowW p t s.pl)))->Q (.ref l) H')
theorem scRow:FnScope ["self","lowest","highest","start"] ["self","lowest","highest"] (defScope (inClass (top 55) 3)):=⟨rfl,rfl,rfl,by decide +kernel,rfl,by decide +kernel,by decide +kernel⟩
theorem ok_row {f:Addr} {fd:FuncData} (T:Txt K w mg A) (F:Fun K "take_row" "Reader.take_row" (inClass (top 55) 3) f fd) (gBA:MOk P w K mg base CX0 1 A.cRd "byte_ahead" ["self"] (spBA A)):FnOk P w K mg base CX0 2 f fd ["self","lowest","highest"] (spRow A):=by
 refine F.ok scRow (fun vs H Q E h=>?_) (fun cdv AA outer s H vs Q E hr h=>?_)
 ·obtain⟨H0,rd,t,L,s,lo,hi,p,rfl,_⟩:=h
  rfl
 ·obtain⟨H0,rd,t,L,s,lo,hi,p,rfl,R,hpl,hp,q⟩:=h
  refine⟨_,pss_cons (ps_set (i:=3) scRow.nd rfl (Or.inl rfl) (pf (pv 0)))
   (pss_cons (ps_while PassesOwn.never (pt_chain op_le op_le (pv 1) (pe_mm0 gBA T.kRd hr (by decide) pass0 (pv 0)) (pv 2)) (pss_one (ps_fldaug (pv 0) pe_int in_add)))
   (pss_one (ps_ret (pe_slice sl_list (pf (pv 0)) (po_some (pv 3)) (po_some (pf (pv 0))))))),?_⟩
  refine rdF rfl ⟨_,R.rdr⟩ T.kRd T.nRd rfl ?_
  refine⟨fun m σ H'=>σ=[some (.ref rd),some (.int lo),some (.int hi),some (.int s.pl)]/\∃j,j<=(rowW p t s.pl).length/\m=(rowW p t s.pl).length-j/\RdAt A H0 H' rd t L {s with pl:=s.pl+j},⟨_,rfl,0,Nat.zero_le _,rfl,R⟩,?_⟩
  rintro m σ H1 ⟨rfl,j,hj,rfl,R1⟩
  refine⟨_,rfl,_,rfl,rd,_,_,rfl,R1.rdr,rfl,H0,rd,t,L,_,rfl,R1,_,_,rfl,rfl,_,rfl,?_⟩
  have hgo:=tw_at p (t.drop s.pl) j
  rw[List.getElem?_drop]at hgo
  by_cases hlt:j<(rowW p t s.pl).length
  ·obtain⟨b,hb,hpb⟩:=hgo.1 hlt
   obtain⟨p1,p2⟩:=(hp b).mp hpb
   have eb:bAt t (s.pl+j)=(b.toNat:Int):=by unfold bAt;rw[hb]
   have e1:decide ((lo:Int)<=bAt t (s.pl+j))=true:=by rw[eb];exact decide_eq_true (by omega)
   show if decide ((lo:Int)<=bAt t (s.pl+j))=true then _ else _
   rw[e1]
   refine iteT ?_
   refine⟨_,rfl,_,_,rfl,rfl,_,rfl,?_⟩
   have e2:decide (bAt t (s.pl+j)<=(hi:Int))=true:=by rw[eb];exact decide_eq_true (by omega)
   show if decide (bAt t (s.pl+j)<=(hi:Int))=true then _ else _
   rw[e2]
   refine iteT ?_
   refine⟨fun σ' H'=>σ'=[some (.ref rd),some (.int lo),some (.int hi),some (.int s.pl)]/\RdAt A H0 H' rd t L {s with pl:=s.pl+(j+1)},?_,?_⟩
   ·rintro σ' H' ⟨rfl,R'⟩
    exact⟨(rowW p t s.pl).length-(j+1),by omega,rfl,j+1,hlt,rfl,R'⟩
   ·refine⟨_,rfl,rd,_,_,_,_,rfl,R1.rdr,T.kRd,T.nRd,rfl,_,_,rfl,rfl,_,_,R1.rdr,(by show 4<1000;decide),rfl,?_⟩
    exact R1.place (pl:=s.pl+(j+1)) T.nd But.put upd_same
  ·have ej:j=(rowW p t s.pl).length:=by omega
   have fin:(tRet (tSl (rSlL K) (tF K (tVar 0) "text") (tPart (tVar 3)) (tPart (tF K (tVar 0) "place")))) {nx:=fun _ H'=>Q .non H',rt:=Q} [some (.ref rd),some (.int lo),some (.int hi),some (.int s.pl)] H1:=by
    refine rdF rfl ⟨_,R1.rdr⟩ T.kRd T.nRd rfl ?_
    refine⟨_,rfl,_,rfl,?_⟩
    refine rdF rfl ⟨_,R1.rdr⟩ T.kRd T.nRd rfl ?_
    refine⟨_,rfl,L.lt,_,rfl,SqL.of (R1.same _ _ R1.txt),fun l hl=>?_⟩
    have ec:=cut_row p t s.pl hpl
    rw[<-ej]at ec
    have R2:=R1.keep (same_new (o:=.lst (cutV (txV t) (some (s.pl:Int)) (some ((s.pl+j:Nat):Int)))) hl)
    subst ej
    refine q _ l R2 ?_
    rw[<-ec]
    exact upd_same
   rcases hgo.2 ej with hb|⟨b,hb,hpb⟩
   ·have eb:bAt t (s.pl+j)=-1:=by unfold bAt;rw[hb]
    have e1:decide ((lo:Int)<=bAt t (s.pl+j))=false:=by rw[eb];exact decide_eq_false (by omega)
    show if decide ((lo:Int)<=bAt t (s.pl+j))=true then _ else _
    rw[e1]
    exact iteF ⟨_,rfl,iteF fin⟩
   ·have eb:bAt t (s.pl+j)=(b.toNat:Int):=by unfold bAt;rw[hb]
    have hnp:¬(lo<=b.toNat/\b.toNat<=hi):=fun z=>by rw[(hp b).mpr z]at hpb;cases hpb
    by_cases h1:lo<=b.toNat
    ·have e1:decide ((lo:Int)<=bAt t (s.pl+j))=true:=by rw[eb];exact decide_eq_true (by omega)
     show if decide ((lo:Int)<=bAt t (s.pl+j))=true then _ else _
     rw[e1]
     refine iteT ?_
     refine⟨_,rfl,_,_,rfl,rfl,_,rfl,?_⟩
     have e2:decide (bAt t (s.pl+j)<=(hi:Int))=false:=by rw[eb];exact decide_eq_false (by omega)
     show if decide (bAt t (s.pl+j)<=(hi:Int))=true then _ else _
     rw[e2]
     exact iteF fin
    ·have e1:decide ((lo:Int)<=bAt t (s.pl+j))=false:=by rw[eb];exact decide_eq_false (by omega)
     show if decide ((lo:Int)<=bAt t (s.pl+j))=true then _ else _
     rw[e1]
     exact iteF ⟨_,rfl,iteF fin⟩
end
end Fv
end
section
namespace Fv
open PySem PySem.Spec PyProof.Rows L2
open Mth (RN RS bAt rowW takeB)
open Vacfaa (isSmall isDigit isName)
theorem str_ext {x y:Str} (h:TL.tl x=TL.tl y):x=y:=by
 obtain⟨a⟩:=x
 obtain⟨b⟩:=y
 have h:a.toList=b.toList:=h
 rw[Array.toList_inj.mp h]
theorem tl_name (w:Tx):TL.tl (nameS w)=w.map UInt8.toNat:=by simp[TL.tl,nameS]
theorem name_inj {a b:Tx} (h:nameS a=nameS b):a=b:=by
 have:=congrArg TL.tl h
 rw[tl_name,tl_name]at this
 exact(List.map_inj_right (fun x y e=>UInt8.toNat_inj.mp e)).mp this
theorem name_len (w:Tx):(nameS w).length=w.length:=by simp[nameS,Str.length]
def chS (b:UInt8):Str:=⟨#[b.toNat]⟩
theorem joinL_nil:∀ps:List (List Nat),TL.joinL [] ps=ps.flatten
 |[]=>rfl
 |[p]=>by simp[TL.joinL]
 |p::q::r=>by
  have ih:=joinL_nil (q::r)
  show p++([]++TL.joinL [] (q::r))=_
  rw[ih]
  simp
theorem join_name (w:Tx):Str.join "" (w.map chS)=nameS w:=by
 refine str_ext ?_
 rw[TL.tl_join,tl_name]
 have e:TL.tl ("":Str)=[]:=rfl
 rw[e,joinL_nil,List.map_map]
 have e2:(TL.tl∘chS)=fun b=>[b.toNat]:=by
  funext b
  rfl
 rw[e2]
 induction w with
 |nil=>rfl
 |cons a w ih=>simp only[List.map_cons,List.flatten_cons,ih];rfl
theorem small_nat {b:UInt8}:isSmall b=true↔97<=b.toNat/\b.toNat<=122:=by
 unfold isSmall
 rw[Bool.and_eq_true,decide_eq_true_iff,decide_eq_true_iff,UInt8.le_iff_toNat_le,UInt8.le_iff_toNat_le]
 exact Iff.rfl
theorem digit_nat {b:UInt8}:isDigit b=true↔48<=b.toNat/\b.toNat<=57:=by
 unfold isDigit
 rw[Bool.and_eq_true,decide_eq_true_iff,decide_eq_true_iff,UInt8.le_iff_toNat_le,UInt8.le_iff_toNat_le]
 exact Iff.rfl
theorem letters_at:∀k:Fin 26,(("abcdefghijklmnopqrstuvwxyz":Str).cps.toList)[k.val]?=some (97+k.val):=by decide +kernel
theorem letters_len:("abcdefghijklmnopqrstuvwxyz":Str).length=26:=by decide +kernel
theorem letter_of {b:UInt8} (h:isSmall b=true):atI ("abcdefghijklmnopqrstuvwxyz":Str).cps.toList ((b.toNat:Int)-97)=some b.toNat:=by
 obtain⟨h1,h2⟩:=small_nat.mp h
 obtain⟨k,hk⟩:∃k,b.toNat=97+k:=⟨b.toNat-97,by omega⟩
 have e:((b.toNat:Int)-97)=(k:Int):=by omega
 rw[e,hk]
 exact atI_nat (letters_at ⟨k,by omega⟩)
theorem row_small {t:Tx} {pl:Nat} {b:UInt8} {i:Nat} {p:UInt8->Bool} (h:(rowW p t pl)[i]?=some b):p b=true:=by
 have:=List.mem_of_getElem? h
 unfold rowW at this
 exact List.all_eq_true.mp (Mth.all_takeWhile p _) b this
theorem row_len (p:UInt8->Bool) (t:Tx) (pl:Nat):(rowW p t pl).length<=t.length:=by
 have hl:(rowW p t pl).length<=(t.drop pl).length:=List.Sublist.length_le (List.takeWhile_sublist p)
 rw[List.length_drop]at hl
 omega
theorem txV_get {t:Tx} {i:Nat} {x:V} (h:(txV t)[i]?=some x):∃b,t[i]?=some b/\x=.int (b.toNat:Int):=by
 unfold txV natV natI at h
 rw[List.getElem?_map,List.getElem?_map,List.getElem?_map]at h
 cases e:t[i]? with
 |none=>rw[e]at h;cases h
 |some b=>rw[e]at h;exact⟨b,rfl,(Option.some.inj h).symm⟩
theorem take_more {α:Type} {l:List α} {i:Nat} {x:α} (h:l[i]?=some x):l.take (i+1)=l.take i++[x]:=by rw[List.take_add_one,h];rfl
theorem yes_of {σ:L2.St} {H:Hp} {F:Bool->Hp->Prop} (h:F true H):tYes σ H F:=h
section
variable {P:Program} {w:World} {K:PySem.W.Frag} {mg:Str->Option Value} {base:Heap} {A:Ad}
inductive spLet (A:Ad) (vs:List V) (H:Hp) (Q:VK) (E:XK):Prop
 |mk (H0:Hp) (rd:Addr) (t:Tx) (L:RdLay) (s:RS) (_:vs=[.ref rd]) (_:RdAt A H0 H rd t L s) (_:s.pl<=t.length) (_:t.length<=2000) (_:∀H',RdAt A H0 H' rd t L {s with pl:=s.pl+(rowW isSmall t s.pl).length}->Q (.str (nameS (rowW isSmall t s.pl))) H')
theorem scLet:FnScope ["self","byte"] ["self"] (defScope (inClass (top 55) 4)):=⟨rfl,rfl,rfl,by decide +kernel,rfl,by decide +kernel,by decide +kernel⟩
theorem ok_let {f:Addr} {fd:FuncData} (T:Txt K w mg A) (F:Fun K "take_letters" "Reader.take_letters" (inClass (top 55) 4) f fd) (gRo:MOk P w K mg base CX0 2 A.cRd "take_row" ["self","lowest","highest"] (spRow A)):FnOk P w K mg base CX0 3 f fd ["self"] (spLet A):=by
 refine F.ok scLet (fun vs H Q E h=>?_) (fun cdv AA outer s H vs Q E hr h=>?_)
 ·obtain⟨H0,rd,t,L,s,rfl,_⟩:=h
  rfl
 ·obtain⟨H0,rd,t,L,s,rfl,R,hpl,htl,q⟩:=h
  obtain⟨tl,hlets⟩:=T.lets
  refine⟨_,pss_one (ps_ret (pe_join pe_str (pe_lc (own:=[("byte",1)]) rfl scLet.nd (pi_list (pe_mm gRo T.kRd hr (by decide) pass0 (pv 0) (pa_cons (gi T 97) (pa_cons (gi T 122) pa_nil)))) (blkOk_by rfl)
   (fun s H C cl fp=>pg_name (i:=1) scLet.nd rfl (Or.inl rfl)) (fun s H C cl fp=>pts_nil) (fun s H C cl fp=>pe_ix ix_str (pe_glob (v:=.str "abcdefghijklmnopqrstuvwxyz") rfl hlets ⟨tl,rfl⟩) (pe_op op_sub (pv 1) (gi T 97)) (fun _ _=>rfl))))),?_⟩
  refine⟨⟨_,rfl⟩,_,rfl,rd,_,_,rfl,R.rdr,rfl,H0,rd,t,L,s,97,122,isSmall,rfl,R,hpl,fun b=>small_nat,fun H1 l R1 hl=>?_⟩
  refine⟨l,rfl,⟨_,SqL.of hl⟩,fun D hD=>?_⟩
  refine lc_list (K:=K) (a:=l) (xs:=txV (rowW isSmall t s.pl)) (fun i H'=>Same H1 H'/\H' D=some (.lst (((rowW isSmall t s.pl).take i).map fun b=>V.str (chS b))))
   ⟨same_new hD,upd_same⟩ (fun i H' _ z=>SqL.of (z.1 _ _ hl)) ?_ ?_
  ·rintro i x H2 hx ⟨s2,h3⟩
   obtain⟨b,hb,rfl⟩:=txV_get hx
   refine⟨rfl,?_⟩
   refine yes_of ?_
   rw[if_pos rfl]
   refine⟨_,rfl,_,_,rfl,rfl,_,_,_,rfl,rfl,(by rw[letters_len];decide),letter_of (row_small hb),_,h3,?_,?_,?_⟩
   ·rw[List.length_map,List.length_take]
    exact Nat.lt_of_le_of_lt (Nat.le_trans (Nat.min_le_right _ _) (Nat.le_trans (row_len _ _ _) htl)) (by decide)
   ·exact fun c o e=>by rw[upd_ne (ne_of_none e hD)];exact s2 c o e
   ·rw[take_more hb,List.map_append]
    exact upd_same
  ·rintro H2 ⟨s2,h3⟩
   have R2:=R1.keep s2
   rw[txV_len,List.take_length]at h3
   refine⟨_,D,(rowW isSmall t s.pl).map chS,rfl,rfl,.inl (SqL.of (by rw[h3,List.map_map];rfl)),?_,?_⟩
   ·have e:((rowW isSmall t s.pl).map chS).map (·.length)=(rowW isSmall t s.pl).map fun _=>1:=by
     rw[List.map_map]
     rfl
    rw[e]
    have e2:((rowW isSmall t s.pl).map fun _=>1).sum=(rowW isSmall t s.pl).length:=by
     generalize rowW isSmall t s.pl=z
     induction z with
     |nil=>rfl
     |cons a z ih=>rw[List.map_cons,List.sum_cons,ih,List.length_cons,Nat.add_comm]
    rw[e2]
    have:=row_len isSmall t s.pl
    have e3:("":Str).length=0:=rfl
    rw[e3]
    omega
   ·rw[TL.join_eq,join_name]
    exact q H2 R2
theorem kw_res (x:Tx):kwF (nameS x)=(Mth.kindW x).map fun k=>V.int k:=by
 have hs:∀(w:String),(nameS x==(Str.ofString w))=decide (x=Vacfaa.ascii w)\/nameS (Vacfaa.ascii w)≠Str.ofString w:=fun w=>by
  by_cases h:nameS (Vacfaa.ascii w)=Str.ofString w
  ·left
   rw[<-h]
   by_cases e:x=Vacfaa.ascii w
   ·rw[e];simp
   ·have:nameS x≠nameS (Vacfaa.ascii w):=fun z=>e (name_inj z)
    simp[e,this]
  ·exact .inr h
 have k1:=(hs "fun").resolve_right (by decide +kernel)
 have k2:=(hs "let").resolve_right (by decide +kernel)
 have k3:=(hs "if").resolve_right (by decide +kernel)
 have k4:=(hs "pair").resolve_right (by decide +kernel)
 have k5:=(hs "fst").resolve_right (by decide +kernel)
 have k6:=(hs "snd").resolve_right (by decide +kernel)
 have k7:=(hs "new").resolve_right (by decide +kernel)
 have k8:=(hs "get").resolve_right (by decide +kernel)
 have k9:=(hs "set").resolve_right (by decide +kernel)
 have k10:=(hs "add").resolve_right (by decide +kernel)
 unfold kwF Mth.kindW
 simp only[List.lookup,k1,k2,k3,k4,k5,k6,k7,k8,k9,k10]
 by_cases e1:x=Vacfaa.ascii "fun"
 ·subst e1;rfl
 by_cases e2:x=Vacfaa.ascii "let"
 ·subst e2;rfl
 by_cases e3:x=Vacfaa.ascii "if"
 ·subst e3;rfl
 by_cases e4:x=Vacfaa.ascii "pair"
 ·subst e4;rfl
 by_cases e5:x=Vacfaa.ascii "fst"
 ·subst e5;rfl
 by_cases e6:x=Vacfaa.ascii "snd"
 ·subst e6;rfl
 by_cases e7:x=Vacfaa.ascii "new"
 ·subst e7;rfl
 by_cases e8:x=Vacfaa.ascii "get"
 ·subst e8;rfl
 by_cases e9:x=Vacfaa.ascii "set"
 ·subst e9;rfl
 by_cases e10:x=Vacfaa.ascii "add"
 ·subst e10;rfl
 simp[e1,e2,e3,e4,e5,e6,e7,e8,e9,e10]
end
theorem isName_iff {x:Tx} (hs:x.all isSmall=true):isName x=true↔x≠[]/\x.length<=4/\Mth.kindW x=none:=by
 have hr:(Vacfaa.RESERVED.contains x=false)↔Mth.kindW x=none:=by
  constructor
  ·exact Mth.kindW_res
  ·intro h
   cases hc:Vacfaa.RESERVED.contains x with
   |false=>rfl
   |true=>
    exfalso
    have hm:x∈Vacfaa.RESERVED:=List.contains_iff_mem.mp hc
    simp only[Vacfaa.RESERVED,List.map_cons,List.map_nil,List.mem_cons,List.not_mem_nil,or_false]at hm
    rcases hm with rfl|rfl|rfl|rfl|rfl|rfl|rfl|rfl|rfl|rfl<;>exact absurd h (by decide +kernel)
 unfold isName
 rw[Bool.and_eq_true,Bool.and_eq_true,Bool.and_eq_true,hs]
 simp only[Bool.not_eq_true',List.isEmpty_eq_false_iff,decide_eq_true_eq,true_and,ne_eq]
 rw[hr]
 exact Iff.rfl
section
variable {P:Program} {w:World} {K:PySem.W.Frag} {mg:Str->Option Value} {base:Heap} {A:Ad}
inductive spName (A:Ad) (vs:List V) (H:Hp) (Q:VK) (E:XK):Prop
 |mk (H0:Hp) (rd:Addr) (t:Tx) (L:RdLay) (s:RS) (_:vs=[.ref rd]) (_:RdAt A H0 H rd t L s) (_:s.pl<=t.length) (_:t.length<=2000) (_:isName (rowW isSmall t s.pl)=true->∀H',RdAt A H0 H' rd t L {s with pl:=s.pl+(rowW isSmall t s.pl).length}->Q (.str (nameS (rowW isSmall t s.pl))) H') (_:isName (rowW isSmall t s.pl)=false->∀H',Same H0 H'->E (.ref A.cNp) none H')
theorem scName:FnScope ["self","name"] ["self"] (defScope (inClass (top 55) 5)):=⟨rfl,rfl,rfl,by decide +kernel,rfl,by decide +kernel,by decide +kernel⟩
theorem ok_name {f:Addr} {fd:FuncData} (T:Txt K w mg A) (TE:TxE K mg A) (F:Fun K "take_name" "Reader.take_name" (inClass (top 55) 5) f fd) (gLe:MOk P w K mg base CX0 3 A.cRd "take_letters" ["self"] (spLet A)):FnOk P w K mg base (CX1 P w A.cNp) 4 f fd ["self"] (spName A):=by
 refine okX F scName (fun vs H Q E h=>?_) (fun cdv AA outer s H vs Q E hr h=>?_)
 ·obtain⟨H0,rd,t,L,s,rfl,_⟩:=h
  rfl
 ·obtain⟨H0,rd,t,L,s,rfl,R,hpl,htl,q1,q2⟩:=h
  refine⟨_,pss_cons (ps_set (i:=1) scName.nd rfl (Or.inl rfl) (pe_mm0 gLe T.kRd hr (by decide) pass0 (pv 0)))
   (pss_cons (ps_if (pw_or (pt_cmpR op_eq (pv 1) pe_str (nomark _)) (pw_or (pt_cmpR op_gt (pe_callB call_len_str (by rfl) (T.bl "len") bt_len (pa_cons (pv 1) pa_nil)) (gi T 4) (nomark _)) (pw_or1 (pt_cmp (pc_min (pv 1) (gkw T)))))).pt (pss_one (ps_np leaves_def rfl TE)) pss_nil)
   (pss_one (ps_ret (pv 1)))),?_⟩
  refine⟨_,rfl,rd,_,_,rfl,R.rdr,rfl,H0,rd,t,L,s,rfl,R,hpl,htl,fun H1 R1=>?_⟩
  have hall:(rowW isSmall t s.pl).all isSmall=true:=Mth.all_takeWhile isSmall _
  have hrl:=row_len isSmall t s.pl
  have hiff:=isName_iff hall
  have hkw:=kw_res (rowW isSmall t s.pl)
  generalize rowW isSmall t s.pl=x at *
  refine⟨_,rfl,rfl,_,rfl,?_⟩
  by_cases e1:x=[]
  ·have d1:decide (V.str (nameS x)=V.str "")=true:=by rw[e1];rfl
   rw[d1]
   refine iteT ?_
   refine iteT (q2 ?_ _ R1.same)
   rw[e1]
   rfl
  have d1:decide (V.str (nameS x)=V.str "")=false:=by
   refine decide_eq_false fun z=>e1 ?_
   have z:nameS x="":=by injection z
   have:=congrArg TL.tl z
   rw[tl_name]at this
   exact List.map_eq_nil_iff.mp this
  rw[d1]
  refine iteF ?_
  refine⟨_,rfl,nameS x,rfl,(by rw[name_len];exact Nat.le_trans hrl (Nat.le_trans htl (by decide))),_,_,rfl,rfl,_,rfl,?_⟩
  rw[name_len]
  by_cases e2:x.length<=4
  ·have d2:decide ((4:Int)<(x.length:Int))=false:=decide_eq_false (by omega)
   rw[d2]
   refine iteF ?_
   refine⟨_,rfl,A.kw,nameS x,kwF,rfl,rfl,T.kw.2,_,rfl,?_⟩
   cases e3:Mth.kindW x with
   |none=>
    rw[hkw,e3]
    refine iteF ?_
    exact⟨_,rfl,q1 (hiff.mpr ⟨e1,e2,e3⟩) H1 R1⟩
   |some k=>
    rw[hkw,e3]
    refine iteT (q2 ?_ _ R1.same)
    cases hn:isName x with
    |false=>rfl
    |true=>
     have:=(hiff.mp hn).2.2
     rw[e3]at this
     cases this
  ·have d2:decide ((4:Int)<(x.length:Int))=true:=decide_eq_true (by omega)
   rw[d2]
   refine iteT ?_
   refine iteT (q2 ?_ _ R1.same)
   cases hn:isName x with
   |false=>rfl
   |true=>exact absurd (hiff.mp hn).2.1 e2
inductive spBName (A:Ad) (vs:List V) (H:Hp) (Q:VK) (E:XK):Prop
 |mk (H0:Hp) (rd:Addr) (t:Tx) (L:RdLay) (s:RS) (_:vs=[.ref rd]) (_:RdAt A H0 H rd t L s) (_:s.pl<=t.length) (_:t.length<=2000) (_:isName (rowW isSmall t s.pl)=true/\rowW isSmall t s.pl≠Vacfaa.INPUT->∀H',RdAt A H0 H' rd t L {s with pl:=s.pl+(rowW isSmall t s.pl).length}->Q (.str (nameS (rowW isSmall t s.pl))) H') (_:¬(isName (rowW isSmall t s.pl)=true/\rowW isSmall t s.pl≠Vacfaa.INPUT)->∀H',Same H0 H'->E (.ref A.cNp) none H')
theorem scBName:FnScope ["self","name"] ["self"] (defScope (inClass (top 55) 13)):=⟨rfl,rfl,rfl,by decide +kernel,rfl,by decide +kernel,by decide +kernel⟩
theorem name_in:nameS Vacfaa.INPUT=("in":Str):=by decide +kernel
theorem name_in_iff (x:Tx):decide (V.str (nameS x)=V.str "in")=decide (x=Vacfaa.INPUT):=by
 by_cases e:x=Vacfaa.INPUT
 ·rw[e,name_in];simp
 ·have:¬ V.str (nameS x)=V.str "in":=fun z=>e (name_inj (by rw[name_in];injection z))
  rw[decide_eq_false this,decide_eq_false e]
theorem ok_bname {f:Addr} {fd:FuncData} (T:Txt K w mg A) (TE:TxE K mg A) (F:Fun K "take_binder_name" "Reader.take_binder_name" (inClass (top 55) 13) f fd) (gNa:MOk P w K mg base (CX1 P w A.cNp) 4 A.cRd "take_name" ["self"] (spName A)):FnOk P w K mg base (CX1 P w A.cNp) 5 f fd ["self"] (spBName A):=by
 refine okX F scBName (fun vs H Q E h=>?_) (fun cdv AA outer s H vs Q E hr h=>?_)
 ·obtain⟨H0,rd,t,L,s,rfl,_⟩:=h
  rfl
 ·obtain⟨H0,rd,t,L,s,rfl,R,hpl,htl,q1,q2⟩:=h
  obtain⟨ti,hin⟩:=T.inn
  refine⟨_,pss_cons (ps_set (i:=1) scBName.nd rfl (Or.inl rfl) (pe_mm0 gNa T.kRd hr (by decide) (passes1 leaves_def) (pv 0)))
   (pss_cons (ps_if (pt_cmpR op_eq (pv 1) (pe_glob (v:=.str "in") rfl hin ⟨ti,rfl⟩) (nomark _)) (pss_one (ps_np leaves_def rfl TE)) pss_nil)
   (pss_one (ps_ret (pv 1)))),?_⟩
  refine⟨_,rfl,rd,_,_,rfl,R.rdr,rfl,H0,rd,t,L,s,rfl,R,hpl,htl,fun hn H1 R1=>?_,fun hn=>q2 fun z=>by rw[hn]at z;cases z.1⟩
  refine⟨_,rfl,rfl,_,rfl,?_⟩
  rw[name_in_iff]
  by_cases e:rowW isSmall t s.pl=Vacfaa.INPUT
  ·rw[decide_eq_true e]
   exact iteT (q2 (fun z=>z.2 e) _ R1.same)
  ·rw[decide_eq_false e]
   exact iteF ⟨_,rfl,q1 ⟨hn,e⟩ H1 R1⟩
inductive spNum (A:Ad) (vs:List V) (H:Hp) (Q:VK) (E:XK):Prop
 |mk (H0:Hp) (rd:Addr) (t:Tx) (L:RdLay) (s:RS) (_:vs=[.ref rd]) (_:RdAt A H0 H rd t L s) (_:s.pl<=t.length) (_:t.length<=2000) (_:Mth.numOk (rowW isDigit t s.pl)=true->∀H',RdAt A H0 H' rd t L {s with pl:=s.pl+(rowW isDigit t s.pl).length}->Q (.int (Vacfaa.valueOf (rowW isDigit t s.pl):Nat)) H') (_:Mth.numOk (rowW isDigit t s.pl)=false->∀H',Same H0 H'->E (.ref A.cNp) none H')
theorem scNum:FnScope ["self","digits","number","digit"] ["self"] (defScope (inClass (top 55) 6)):=⟨rfl,rfl,rfl,by decide +kernel,rfl,by decide +kernel,by decide +kernel⟩
theorem value_snoc (t:Tx) (b:UInt8):Vacfaa.valueOf (t++[b])=Vacfaa.valueOf t*10+(b.toNat-48):=by
 unfold Vacfaa.valueOf
 rw[List.foldl_append]
 rfl
theorem value_lt:∀(t:Tx),t.length<=2->(∀b∈t,isDigit b=true)->Vacfaa.valueOf t<=99:=by
 intro t h hd
 have hb:∀b∈t,b.toNat-48<=9:=fun b hb=>by have:=digit_nat.mp (hd b hb);omega
 match t,h,hb with
 |[],_,_=>decide
 |[a],_,hb=>
  have:=hb a (by simp)
  show(0*10+(a.toNat-48))<=99
  omega
 |[a,b],_,hb=>
  have h1:=hb a (by simp)
  have h2:=hb b (by simp)
  show((0*10+(a.toNat-48))*10+(b.toNat-48))<=99
  omega
 |_::_::_::_,h,_=>simp at h
theorem ok_num {f:Addr} {fd:FuncData} (T:Txt K w mg A) (TE:TxE K mg A) (F:Fun K "take_number" "Reader.take_number" (inClass (top 55) 6) f fd) (gRo:MOk P w K mg base CX0 2 A.cRd "take_row" ["self","lowest","highest"] (spRow A)):FnOk P w K mg base (CX1 P w A.cNp) 3 f fd ["self"] (spNum A):=by
 refine okX F scNum (fun vs H Q E h=>?_) (fun cdv AA outer s H vs Q E hr h=>?_)
 ·obtain⟨H0,rd,t,L,s,rfl,_⟩:=h
  rfl
 ·obtain⟨H0,rd,t,L,s,rfl,R,hpl,htl,q1,q2⟩:=h
  refine⟨_,pss_cons (ps_set (i:=1) scNum.nd rfl (Or.inl rfl) (pe_mm gRo T.kRd hr (by decide) pass0 (pv 0) (pa_cons (gi T 48) (pa_cons (gi T 57) pa_nil))))
   (pss_cons (ps_if (pw_or (pt_cmpR op_gt (pe_callB call_len_seq (by rfl) (T.bl "len") bt_len (pa_cons (pv 1) pa_nil)) (gi T 2) (nomark _)) (pw_or1 (pw_and (pt_cmpR op_gt (pe_callB call_len_seq (by rfl) (T.bl "len") bt_len (pa_cons (pv 1) pa_nil)) pe_int (nomark _)) (pw_and1 (pt_cmpR op_eq (pe_ix ix_list (pv 1) pe_int (fun _ _=>rfl)) (gi T 48) (nomark _)))).pt)).pt (pss_one (ps_np leaves_def rfl TE)) pss_nil)
   (pss_cons (ps_set (i:=2) scNum.nd rfl (Or.inl rfl) pe_int)
   (pss_cons (ps_for PassesOwn.leaving rfl (pi_list (pv 1)) (pg_name (i:=3) scNum.nd rfl (Or.inl rfl)) (pss_one (ps_set (i:=2) scNum.nd rfl (Or.inl rfl) (pe_op op_sub (pe_op op_add (pe_op op_mul (pv 2) pe_int) (pv 3)) (gi T 48)))))
   (pss_one (ps_ret (pv 2)))))),?_⟩
  refine⟨_,rfl,rd,_,_,rfl,R.rdr,rfl,H0,rd,t,L,s,48,57,isDigit,rfl,R,hpl,fun b=>digit_nat,fun H1 l R1 hl=>?_⟩
  have hall:∀b∈rowW isDigit t s.pl,isDigit b=true:=List.all_eq_true.mp (Mth.all_takeWhile isDigit _)
  generalize rowW isDigit t s.pl=x at *
  have bad:Mth.numOk x=false->E (.ref A.cNp) none H1:=fun z=>q2 z _ R1.same
  refine⟨_,rfl,l,_,rfl,.inl (SqL.of hl),_,_,rfl,rfl,_,rfl,?_⟩
  rw[txV_len]
  by_cases e1:x.length<=2
  ·have d1:decide ((2:Int)<(x.length:Int))=false:=decide_eq_false (by omega)
   rw[d1]
   refine iteF ?_
   have good:Mth.numOk x=true->(tSeq (tAsg (tC (.int 0)) (gName 2)) (tSeq (tFor (iList K (tVar 1)) (gName 3) (tAsg (tOp (rI0 fun i j=>.int (i-j)) (tOp (rI0 fun i j=>.int (i+j)) (tOp (rI CMul fun i j=>.int (i*j)) (tVar 2) (tC (.int 10))) (tVar 3)) (tC (.int 48))) (gName 2))) (tRet (tVar 2))))
     {nx:=fun _ H'=>Q .non H',rt:=Q} [some (.ref rd),some (.ref l),none,none] H1:=by
    intro hok
    refine⟨_,rfl,l,rfl,⟨_,SqL.of hl⟩,for_list (K:=K) (a:=l) (xs:=txV x) (fun i σ H'=>H'=H1/\∃v,σ=[some (.ref rd),some (.ref l),some (.int (Vacfaa.valueOf (x.take i):Nat)),v]) ⟨rfl,none,rfl⟩ (fun i σ H' _ z=>by rw[z.1];exact SqL.of hl) ?_ ?_⟩
    ·rintro i y σ H' hy ⟨rfl,v,rfl⟩
     obtain⟨b,hb,rfl⟩:=txV_get hy
     have hbd:=digit_nat.mp (hall b (List.mem_of_getElem? hb))
     have hv:=value_lt (x.take i) (by rw[List.length_take];omega) fun c hc=>hall c (List.mem_of_mem_take hc)
     refine⟨_,rfl,_,_,rfl,rfl,.inl ⟨?_,?_⟩,_,rfl,_,_,rfl,rfl,_,_,rfl,rfl,?_⟩
     ·have:(0:Int)<=(Vacfaa.valueOf (x.take i):Nat):=Int.natCast_nonneg _
      omega
     ·have:((Vacfaa.valueOf (x.take i):Nat):Int)<=99:=by omega
      omega
     ·refine⟨rfl,some (.int (b.toNat:Int)),?_⟩
      rw[take_more hb,value_snoc]
      have e:((Vacfaa.valueOf (x.take i):Nat):Int)*10+(b.toNat:Int)-48=((Vacfaa.valueOf (x.take i)*10+(b.toNat-48):Nat):Int):=by omega
      rw[<-e]
      rfl
    ·rintro σ H' ⟨rfl,v,rfl⟩
     refine⟨_,rfl,?_⟩
     rw[txV_len,List.take_length]
     exact q1 hok _ R1
   refine⟨_,rfl,l,_,rfl,.inl (SqL.of hl),_,_,rfl,rfl,_,rfl,?_⟩
   rw[txV_len]
   by_cases e2:1<x.length
   ·have d2:decide ((1:Int)<(x.length:Int))=true:=decide_eq_true (by omega)
    rw[d2]
    refine iteT ?_
    obtain⟨b,hb⟩:∃b,x[0]?=some b:=Mth.some_at (by omega)
    refine⟨_,rfl,l,_,0,_,rfl,rfl,SqL.of hl,atI_nat (j:=0) (txV_at hb),rfl,_,rfl,?_⟩
    have hh:x.head?=some b:=by rw[List.head?_eq_getElem?];exact hb
    by_cases e3:b=48
    ·have d3:decide (V.int (b.toNat:Int)=V.int 48)=true:=by rw[e3];rfl
     rw[d3]
     refine iteT (bad ?_)
     unfold Mth.numOk
     rw[hh,e3,decide_eq_true e2]
     simp
    ·have d3:decide (V.int (b.toNat:Int)=V.int 48)=false:=by
      refine decide_eq_false fun z=>e3 ?_
      have z:(b.toNat:Int)=((48:Nat):Int):=by injection z
      exact(Mth.u8_eq (by decide)).mp z
     rw[d3]
     refine iteF (good ?_)
     unfold Mth.numOk
     rw[hh,decide_eq_true e1]
     simp[e3]
   ·have d2:decide ((1:Int)<(x.length:Int))=false:=decide_eq_false (by omega)
    rw[d2]
    refine iteF ?_
    refine iteF (good ?_)
    unfold Mth.numOk
    rw[decide_eq_true e1,decide_eq_false e2]
    rfl
  ·have d1:decide ((2:Int)<(x.length:Int))=true:=decide_eq_true (by omega)
   rw[d1]
   refine iteT ?_
   refine iteT (bad ?_)
   unfold Mth.numOk
   rw[decide_eq_false e1]
   rfl
end
end Fv
end
section
namespace Fv
open PySem PySem.Spec PyProof.Rows L2
open Mth (RN RS bAt rowW takeB WfR addNode addPart newRN binderR isB bindsL)
open Vacfaa (isSmall isDigit isName)
section
variable {P:Program} {w:World} {K:PySem.W.Frag} {mg:Str->Option Value} {base:Heap} {A:Ad}
inductive spNdI (A:Ad) (vs:List V) (H:Hp) (Q:VK) (E:XK):Prop
 |mk (p dx:Addr) (k d b:Int) (_:vs=[.ref p,.int k,.int d,.int b]) (_:H p=some (.ins A.cNd dx [])) (_:∀H' lp,InsAt A.cNd H' p (fNd k d b b 0 "" (-1) lp)->H lp=none->H' lp=some (.lst [])->But p H H'->Q .non H')
theorem scNd:FnScope ["self","kind","depth","begin"] ["self","kind","depth","begin"] (defScope (inClass (top 20) 0)):=⟨rfl,rfl,rfl,by decide +kernel,rfl,by decide +kernel,by decide +kernel⟩
theorem ok_Nd {f:Addr} {fd:FuncData} (T:Txt K w mg A) (F:Fun K "__init__" "Node.__init__" (inClass (top 20) 0) f fd):FnOk P w K mg base CX0 1 f fd ["self","kind","depth","begin"] (spNdI A):=by
 refine F.ok scNd (fun vs H Q E h=>?_) (fun cdv AA outer s H vs Q E hr h=>?_)
 ·obtain⟨p,dx,k,d,b,rfl,_⟩:=h
  rfl
 ·obtain⟨p,dx,k,d,b,rfl,hp,q⟩:=h
  refine⟨_,pss_cons (ps_fld (pv 0) (pv 1) rfl) (pss_cons (ps_fld (pv 0) (pv 2) rfl) (pss_cons (ps_fld (pv 0) (pv 3) rfl) (pss_cons (ps_fld (pv 0) (pv 3) rfl) (pss_cons (ps_fld (pv 0) pe_int rfl) (pss_cons (ps_fld (pv 0) pe_str rfl)
   (pss_cons (ps_fld (pv 0) (gi T (-1)) rfl) (pss_one (ps_fld (pv 0) (pe_lst pa_nil) rfl)))))))),?_⟩
  refine⟨_,rfl,_,rfl,p,_,dx,[],rfl,hp,T.kNd,T.nNd,by decide,?_⟩
  refine⟨_,rfl,_,rfl,p,_,dx,_,rfl,upd_same,T.kNd,T.nNd,(by show 1<1000;decide),?_⟩
  refine⟨_,rfl,_,rfl,p,_,dx,_,rfl,upd_same,T.kNd,T.nNd,(by show 2<1000;decide),?_⟩
  refine⟨_,rfl,_,rfl,p,_,dx,_,rfl,upd_same,T.kNd,T.nNd,(by show 3<1000;decide),?_⟩
  refine⟨_,rfl,p,_,dx,_,rfl,upd_same,T.kNd,T.nNd,(by show 4<1000;decide),?_⟩
  refine⟨_,rfl,p,_,dx,_,rfl,upd_same,T.kNd,T.nNd,(by show 5<1000;decide),?_⟩
  refine⟨_,rfl,p,_,dx,_,rfl,upd_same,T.kNd,T.nNd,(by show 6<1000;decide),?_⟩
  rw[upd_upd,upd_upd,upd_upd,upd_upd,upd_upd,upd_upd]
  refine⟨Nat.zero_le _,fun lp hl=>?_⟩
  have ne:lp≠p:=fun e=>by rw[e,upd_same]at hl;cases hl
  have hl0:H lp=none:=by rw[upd_ne ne]at hl;exact hl
  refine⟨_,rfl,p,_,dx,_,rfl,(by rw[upd_ne (Ne.symm ne)];exact upd_same),T.kNd,T.nNd,(by show 7<1000;decide),?_⟩
  exact q _ lp ⟨dx,upd_same⟩ hl0 (by rw[upd_ne ne];exact upd_same) ((But.put.trans (But.new hl)).trans But.put)
def spRdI (A:Ad):Sp:=fun vs H Q _=>∃(p dx lt:Addr),vs=[.ref p,.ref lt]/\H p=some (.ins A.cRd dx [])/\∀H' ln la,H' p=some (.ins A.cRd dx (fRd lt 0 ln la))->H ln=none->H la=none->ln≠la->H' ln=some (.lst [])->H' la=some (.lst [])->But p H H'->Q .non H'
theorem scRd:FnScope ["self","text"] ["self","text"] (defScope (inClass (top 55) 0)):=⟨rfl,rfl,rfl,by decide +kernel,rfl,by decide +kernel,by decide +kernel⟩
theorem ok_Rd {f:Addr} {fd:FuncData} (T:Txt K w mg A) (F:Fun K "__init__" "Reader.__init__" (inClass (top 55) 0) f fd):FnOk P w K mg base CX0 1 f fd ["self","text"] (spRdI A):=by
 refine F.ok scRd (fun vs H Q E h=>?_) (fun cdv AA outer s H vs Q E hr h=>?_)
 ·obtain⟨p,dx,lt,rfl,_⟩:=h
  rfl
 ·obtain⟨p,dx,lt,rfl,hp,q⟩:=h
  refine⟨_,pss_cons (ps_fld (pv 0) (pv 1) rfl) (pss_cons (ps_fld (pv 0) pe_int rfl) (pss_cons (ps_fld (pv 0) (pe_lst pa_nil) rfl) (pss_one (ps_fld (pv 0) (pe_lst pa_nil) rfl)))),?_⟩
  refine⟨_,rfl,_,rfl,p,_,dx,[],rfl,hp,T.kRd,T.nRd,by decide,?_⟩
  refine⟨_,rfl,p,_,dx,_,rfl,upd_same,T.kRd,T.nRd,(by show 1<1000;decide),?_⟩
  rw[upd_upd]
  refine⟨Nat.zero_le _,fun ln hl=>?_⟩
  have ne:ln≠p:=fun e=>by rw[e,upd_same]at hl;cases hl
  have hl0:H ln=none:=by rw[upd_ne ne]at hl;exact hl
  refine⟨_,rfl,p,_,dx,_,rfl,(by rw[upd_ne (Ne.symm ne)];exact upd_same),T.kRd,T.nRd,(by show 2<1000;decide),?_⟩
  have b1:But p H (upd (upd (upd H p (.ins A.cRd dx (putF "place" (.int 0) (putF "text" (.ref lt) [])))) ln (.lst [])) p (.ins A.cRd dx (putF "nodes" (.ref ln) (putF "place" (.int 0) (putF "text" (.ref lt) []))))):=(But.put.trans (But.new hl)).trans But.put
  have g1:(upd (upd (upd H p (.ins A.cRd dx (putF "place" (.int 0) (putF "text" (.ref lt) [])))) ln (.lst [])) p (.ins A.cRd dx (putF "nodes" (.ref ln) (putF "place" (.int 0) (putF "text" (.ref lt) []))))) ln=some (.lst []):=by rw[upd_ne ne];exact upd_same
  have u1:(upd (upd (upd H p (.ins A.cRd dx (putF "place" (.int 0) (putF "text" (.ref lt) [])))) ln (.lst [])) p (.ins A.cRd dx (putF "nodes" (.ref ln) (putF "place" (.int 0) (putF "text" (.ref lt) []))))) p=some (.ins A.cRd dx (putF "nodes" (.ref ln) (putF "place" (.int 0) (putF "text" (.ref lt) [])))):=upd_same
  revert b1 g1 u1
  generalize upd (upd (upd H p (.ins A.cRd dx (putF "place" (.int 0) (putF "text" (.ref lt) [])))) ln (.lst [])) p (.ins A.cRd dx (putF "nodes" (.ref ln) (putF "place" (.int 0) (putF "text" (.ref lt) []))))=H1
  intro b1 g1 u1
  refine⟨Nat.zero_le _,fun la hla=>?_⟩
  have ne2:la≠p:=fun e=>by rw[e,u1]at hla;cases hla
  have hla0:H la=none:=by
   cases z:H la with
   |none=>rfl
   |some o=>rw[b1 la o z ne2]at hla;cases hla
  refine⟨_,rfl,p,_,dx,_,rfl,(by rw[upd_ne (Ne.symm ne2)];exact u1),T.kRd,T.nRd,(by show 3<1000;decide),?_⟩
  have nla:ln≠la:=ne_of_none g1 hla
  exact q _ ln la upd_same hl0 hla0 nla (by rw[upd_ne ne,upd_ne nla];exact g1) (by rw[upd_ne ne2];exact upd_same) (b1.trans ((But.new hla).trans But.put))
inductive spAdd (A:Ad) (vs:List V) (H:Hp) (Q:VK) (E:XK):Prop
 |mk (H0:Hp) (rd:Addr) (t:Tx) (L:RdLay) (s:RS) (k b:Nat) (_:vs=[.ref rd,.int k,.int b]) (_:RdAt A H0 H rd t L s) (_:WfR t s) (_:∀s',addNode k b s=some s'->∀H' p,RdAt A H0 H' rd t {L with ns:=L.ns++[p]} s'->Q (.ref p.1) H') (_:addNode k b s=none->∀H',Same H0 H'->E (.ref A.cNp) none H')
theorem scAdd:FnScope ["self","kind","begin","node"] ["self","kind","begin"] (defScope (inClass (top 55) 7)):=⟨rfl,rfl,rfl,by decide +kernel,rfl,by decide +kernel,by decide +kernel⟩
theorem natV_len (l:List Nat):(natV l).length=l.length:=by simp[natV,natI]
theorem RdAt.node {H0 H:Hp} {rd:Addr} {t:Tx} {L:RdLay} {s:RS} (R:RdAt A H0 H rd t L s) {i:Nat} (h:i<s.ns.length):∃n p,s.ns[i]?=some n/\L.ns[i]?=some p/\InsAt A.cNd H p.1 (fRN n p.2)/\H p.2=some (.lst (natV n.parts)):=by
 obtain⟨n,hn⟩:=Mth.some_at h
 obtain⟨p,h1,h2,h3⟩:=R.each i n hn
 exact⟨n,p,hn,h1,h2,h3⟩
theorem RdAt.freshN {H0 H:Hp} {rd:Addr} {t:Tx} {L:RdLay} {s:RS} (R:RdAt A H0 H rd t L s) {a:Addr} (h:H a=none):a ∉ L.ns.map (·.1)/\a ∉ L.ln::L.la::L.ns.map (·.2):=by
 have each:∀p∈L.ns,H p.1≠none/\H p.2≠none:=fun p hp=>by
  obtain⟨i,hi⟩:=List.getElem?_of_mem hp
  obtain⟨n,p',_,h1,⟨dx,h2⟩,h3⟩:=R.node (i:=i) (by rw[<-R.len];exact(List.getElem?_eq_some_iff.mp hi).1)
  rw[hi]at h1
  cases h1
  exact⟨by rw[h2];simp,by rw[h3];simp⟩
 refine⟨fun hm=>?_,fun hm=>?_⟩
 ·obtain⟨p,hp,rfl⟩:=List.mem_map.mp hm
  exact(each p hp).1 h
 ·simp only[List.mem_cons,List.mem_map]at hm
  rcases hm with rfl|rfl|⟨p,hp,rfl⟩
  ·rw[R.nodes]at h;cases h
  ·rw[R.around]at h;cases h
  ·exact(each p hp).2 h
theorem ok_add {f:Addr} {fd:FuncData} (T:Txt K w mg A) (TE:TxE K mg A) (F:Fun K "add_node" "Reader.add_node" (inClass (top 55) 7) f fd) (gNd:KOk P w K mg base CX0 1 A.cNd "Node" ["self","kind","depth","begin"] (spNdI A)):FnOk P w K mg base (CX1 P w A.cNp) 3 f fd ["self","kind","begin"] (spAdd A):=by
 refine okX F scAdd (fun vs H Q E h=>?_) (fun cdv AA outer sh H vs Q E hr h=>?_)
 ·obtain⟨H0,rd,t,L,s,k,b,rfl,_⟩:=h
  rfl
 ·obtain⟨H0,rd,t,L,s,k,b,rfl,R,W,q1,q2⟩:=h
  have tail:∃t2,PSs (cxOf (CX1 P w A.cNp) P w K mg base ["self","kind","begin","node"] "Reader.add_node" (defScope (inClass (top 55) 7)) f cdv AA outer sh H E) ((defBody (inClass (top 55) 7)).drop 2) t2 /\
    ∀(H1:Hp) (s1:RS),RdAt A H0 H1 rd t L s1->s1.ar=s.ar->s1.ns.length<=30->(∀H' p,RdAt A H0 H' rd t {L with ns:=L.ns++[p]} {s1 with ns:=s1.ns++[newRN k s.ar.length b]}->Q (.ref p.1) H')->t2 {nx:=fun _ H'=>Q .non H',rt:=Q} [some (.ref rd),some (.int k),some (.int b),none] H1:=by
   refine⟨_,pss_cons (ps_set (i:=3) scAdd.nd rfl (Or.inl rfl) (pe_kk gNd hr (by decide) rfl pass0 (pa_cons (pv 1) (pa_cons (pe_callB call_len_seq (by rfl) (T.bl "len") bt_len (pa_cons (pf (pv 0)) pa_nil)) (pa_cons (pv 2) pa_nil)))))
    (pss_cons (ps_expr (pe_bm PySem.F.plainAttrs_list PySem.F.slot_list_append PySem.F.type_list_append mt_append (pf (pv 0)) (pa_cons (pv 3) pa_nil))) (pss_one (ps_ret (pv 3)))),?_⟩
   intro H1 s1 R1 ea h30 q
   refine⟨_,rfl,?_⟩
   refine rdF rfl ⟨_,R1.rdr⟩ T.kRd T.nRd rfl ?_
   refine⟨L.la,_,rfl,.inl (SqL.of R1.around),_,rfl,?_⟩
   intro x dx nx nd ne
   refine⟨x,dx,_,_,_,rfl,upd_same,fun H2 lp hi hl0 hl hb=>⟨rfl,?_⟩⟩
   have s2:Same H1 H2:=But.made nx nd hb
   have R2:=R1.keep s2
   refine rdF rfl ⟨_,R2.rdr⟩ T.kRd T.nRd rfl ?_
   refine⟨.inl ⟨rfl,_,SqL.of R2.nodes⟩,_,rfl,L.ln,_,_,rfl,rfl,R2.nodes,?_,?_⟩
   ·rw[List.length_map,R1.len]
    exact Nat.lt_of_le_of_lt h30 (by decide)
   refine⟨_,rfl,?_⟩
   have f1:H1 lp=none:=free_made hl0
   refine q _ (x,lp) (R2.push (p:=(x,lp)) (n:=newRN k s.ar.length b) ?_ hl (R1.same.free nx) (R1.same.free f1) (R1.freshN nx).1 (R1.freshN f1).2 But.put upd_same)
   rw[natV_len,ea]at hi
   exact hi
  obtain⟨t2,p2,g2⟩:=tail
  refine⟨_,pss_cons (ps_if (pw_or (pt_cmpR op_eq (pe_callB call_len_seq (by rfl) (T.bl "len") bt_len (pa_cons (pf (pv 0)) pa_nil)) (gi T 30) (nomark _)) (pw_or1 (pt_cmpR op_gt (pe_callB call_len_seq (by rfl) (T.bl "len") bt_len (pa_cons (pf (pv 0)) pa_nil)) (gi T 8) (nomark _)))).pt (pss_one (ps_np leaves_def rfl TE)) pss_nil)
   (pss_cons (ps_if (pt_truth (pf (pv 0)) (fun _=>rfl)) (pss_one (ps_expr (pe_bm PySem.F.plainAttrs_list PySem.F.slot_list_append PySem.F.type_list_append mt_append (pf (pe_ix ix_list (pf (pv 0)) (pe_ix ix_list (pf (pv 0)) (pe_un un_neg pe_int) (fun _ _=>rfl)) (fun _ _=>rfl))) (pa_cons (pe_callB call_len_seq (by rfl) (T.bl "len") bt_len (pa_cons (pf (pv 0)) pa_nil)) pa_nil)))) pss_nil) p2),?_⟩
  refine rdF rfl ⟨_,R.rdr⟩ T.kRd T.nRd rfl ?_
  refine⟨L.ln,_,rfl,.inl (SqL.of R.nodes),rfl,_,rfl,?_⟩
  rw[List.length_map,R.len]
  by_cases e1:s.ns.length=30
  ·have d1:decide (V.int (s.ns.length:Int)=V.int 30)=true:=by rw[e1];rfl
   rw[d1]
   refine iteT ?_
   exact iteT (q2 (Mth.add_no (.inl e1)) _ R.same)
  have d1:decide (V.int (s.ns.length:Int)=V.int 30)=false:=decide_eq_false fun z=>e1 (by injection z with z;omega)
  rw[d1]
  refine iteF ?_
  refine rdF rfl ⟨_,R.rdr⟩ T.kRd T.nRd rfl ?_
  refine⟨L.la,_,rfl,.inl (SqL.of R.around),_,_,rfl,rfl,_,rfl,?_⟩
  rw[natV_len]
  by_cases e2:8<s.ar.length
  ·have d2:decide ((8:Int)<(s.ar.length:Int))=true:=decide_eq_true (by omega)
   rw[d2]
   exact iteT (q2 (Mth.add_no (.inr e2)) _ R.same)
  have d2:decide ((8:Int)<(s.ar.length:Int))=false:=decide_eq_false (by omega)
  rw[d2]
  refine iteF ?_
  have hok:=Mth.add_ok (k:=k) (b:=b) (s:=s) (by omega)
  have q1:=q1 _ hok
  refine rdF rfl ⟨_,R.rdr⟩ T.kRd T.nRd rfl ?_
  refine⟨_,.inl ⟨_,SqL.of R.around,rfl⟩,?_⟩
  cases hl:s.ar.getLast? with
  |none=>
   have he:s.ar=[]:=List.getLast?_eq_none_iff.mp hl
   have d3:(!(natV s.ar).isEmpty)=false:=by rw[he];rfl
   rw[d3]
   refine iteF ?_
   have eA:addPart s.ns s.ar=s.ns:=by unfold addPart;rw[hl]
   rw[eA]at q1
   exact g2 H s R rfl W.n30 q1
  |some l=>
   have hmem:l∈s.ar:=List.mem_of_getLast? hl
   have d3:(!(natV s.ar).isEmpty)=true:=by
    cases h:s.ar with
    |nil=>rw[h]at hmem;cases hmem
    |cons=>rfl
   rw[d3]
   refine iteT ?_
   obtain⟨n,p,hn,hp,⟨dxn,hni⟩,hlp⟩:=R.node (W.ar l hmem)
   obtain⟨ar0,ear⟩:∃ar0,s.ar=ar0++[l]:=List.getLast?_eq_some_iff.mp hl
   have hla:H L.la=some (.lst (natV ar0++[.int l])):=by
    rw[R.around,ear]
    simp[natV,natI]
   have eA:addPart s.ns s.ar=s.ns.modify l fun n=>{n with parts:=n.parts++[s.ns.length]}:=by unfold addPart;rw[hl]
   rw[eA]at q1
   refine rdU ?_
   iterate 2 refine rdF rfl ⟨_,R.rdr⟩ T.kRd T.nRd rfl ?_
   refine⟨1,rfl,L.la,_,-1,_,rfl,rfl,SqL.of hla,atI_last _ _,L.ln,_,_,.ref p.1,rfl,rfl,SqL.of R.nodes,atI_nat (j:=l) (by rw[List.getElem?_map,hp];rfl),p.1,A.cNd,dxn,_,_,rfl,hni,T.kNd,T.nNd,rfl,.inl ⟨rfl,_,SqL.of hlp⟩,?_⟩
   refine rdF rfl ⟨_,R.rdr⟩ T.kRd T.nRd rfl ?_
   refine⟨L.ln,_,rfl,.inl (SqL.of R.nodes),p.2,_,_,rfl,rfl,hlp,?_,?_⟩
   ·rw[natV_len]
    exact Nat.lt_of_le_of_lt (Nat.le_trans (W.pr n (List.mem_of_getElem? hn)) W.n30) (by decide)
   rw[List.length_map,R.len]
   refine g2 _ _ (R.setP (k:=s.ns.length) hp hn But.put ?_) rfl (by simp;exact W.n30) q1
   rw[upd_same]
   simp[natV,natI]
end
theorem for_rev {K:PySem.W.Frag} {a:Addr} {xs:List V} {g:TG} {tb:TS} {D:Ends} {σ:L2.St} {H:Hp} (Pv:Nat->L2.St->Hp->Prop) (h0:Pv 0 σ H) (hl:∀i σ H,i<=xs.length->Pv i σ H->SqL K H a xs)
  (hs:∀i x σ H,i<xs.length->xs[xs.length-1-i]?=some x->Pv i σ H->g x σ H fun σ2 H2=>tb {D with nx:=Pv (i+1),ct:=Pv (i+1),bk:=D.nx} σ2 H2) (hd:∀σ H,Pv xs.length σ H->D.nx σ H) :
  ∃W:Nat->Nat->L2.St->Hp->Prop,(∃m,W 0 m σ H)/\∀i m σ H,W i m σ H ->
   ((Itv K a xs.length).stop i H/\D.nx σ H)\/((Itv K a xs.length).go i H/\∃N:L2.St->Hp->Prop,(∀σ' H',N σ' H'->∃m',m'<m/\W (i+1) m' σ' H')/\∀x H',(Itv K a xs.length).yld i H x H'->g x σ H' fun σ2 H2=>tb {D with nx:=N,ct:=N,bk:=D.nx} σ2 H2):=by
 refine⟨fun i m σ H=>m=xs.length-i/\i<=xs.length/\Pv i σ H,⟨xs.length,by simp,Nat.zero_le _,h0⟩,?_⟩
 rintro i m σ H ⟨rfl,hi,p⟩
 have q:=hl i σ H hi p
 by_cases hlt:i<xs.length
 ·obtain⟨x,hx⟩:=Mth.some_at (l:=xs) (i:=xs.length-1-i) (by omega)
  refine .inr ⟨⟨hlt,xs,x,q,hx⟩,Pv (i+1),fun σ' H' p'=>⟨xs.length-(i+1),by omega,rfl,hlt,p'⟩,fun x H' y=>?_⟩
  obtain⟨e,y⟩:=y
  subst e
  exact hs i x σ _ hlt (y xs q) p
 ·have e:i=xs.length:=by omega
  subst e
  exact .inl ⟨Nat.le_refl _,hd σ H p⟩
section
variable {P:Program} {w:World} {K:PySem.W.Frag} {mg:Str->Option Value} {base:Heap} {A:Ad}
abbrev pkL:List Int:=[0,0,1,2,2,3,2,1,1,1,1,2,2]
theorem pk_all:∀k:Fin 13,pkL[k.val]?=some (Mth.nparts k.val:Int):=by decide
theorem pk_at {k:Nat} (h:k<=12):(pkL.map V.int)[k]?=some (.int (Mth.nparts k)):=by
 rw[List.getElem?_map,pk_all ⟨k,by omega⟩]
 rfl
theorem pk_in (A:Ad):(("PARTS_OF_KIND",A.pk,pkL):Str×Addr×List Int)∈glTups A:=by simp[glTups]
def spBinds (A:Ad):Sp:=fun vs H Q _=>∃(a lp:Addr) (n:RN),vs=[.ref a]/\InsAt A.cNd H a (fRN n lp)/\H lp=some (.lst (natV n.parts))/\Q (.bl (bindsL n)) H
theorem scBinds:FnScope ["node"] ["node"] (defScope (top 56)):=⟨rfl,rfl,rfl,by decide +kernel,rfl,by decide +kernel,by decide +kernel⟩
theorem ok_binds {f:Addr} {fd:FuncData} (T:Txt K w mg A) (F:Fun K "binds_last_part" "binds_last_part" (top 56) f fd):FnOk P w K mg base CX0 1 f fd ["node"] (spBinds A):=by
 refine F.ok scBinds (fun vs H Q E h=>?_) (fun cdv AA outer s H vs Q E hr h=>?_)
 ·obtain⟨a,lp,n,rfl,_⟩:=h
  rfl
 ·obtain⟨a,lp,n,rfl,hn,hl,q⟩:=h
  refine⟨_,pss_one (ps_ret (pe_or (pe_cmpR op_eq (pf (pv 0)) (gi T 2) (nomark _)) (pe_one (pe_cmpR op_eq (pe_callB call_len_seq (by rfl) (T.bl "len") bt_len (pa_cons (pf (pv 0)) pa_nil)) (pe_ix ix_tup (gt T A.pk pkL (pk_in A)) (gi T 4) (fun _ _=>rfl)) (nomark _))))),?_⟩
  refine rdF rfl hn T.kNd T.nNd rfl ?_
  refine⟨rfl,_,rfl,?_⟩
  unfold bindsL at q
  by_cases e:n.kind=2
  ·have d:decide (V.int (n.kind:Int)=V.int 2)=true:=by rw[e];rfl
   rw[d]
   refine iteT ?_
   rw[decide_eq_true e]at q
   exact q
  ·have d:decide (V.int (n.kind:Int)=V.int 2)=false:=decide_eq_false fun z=>e (by injection z with z;omega)
   rw[d]
   refine iteF ?_
   rw[decide_eq_false e,Bool.false_or]at q
   refine rdF rfl hn T.kNd T.nNd rfl ?_
   refine⟨lp,_,rfl,.inl (SqL.of hl),A.pk,_,4,.int 2,rfl,rfl,T.sq (pk_in A) _,atI_nat (j:=4) rfl,rfl,?_⟩
   rw[natV_len]
   have d2:decide (V.int (n.parts.length:Int)=V.int 2)=decide (n.parts.length=2):=by
    by_cases e2:n.parts.length=2
    ·rw[e2];rfl
    ·rw[decide_eq_false e2,decide_eq_false fun z=>e2 (by injection z with z;omega)]
   rw[d2]
   exact q
inductive spBinder (A:Ad) (vs:List V) (H:Hp) (Q:VK) (E:XK):Prop
 |mk (H0:Hp) (rd:Addr) (t:Tx) (L:RdLay) (s:RS) (x:Tx) (_:vs=[.ref rd,.str (nameS x)]) (_:RdAt A H0 H rd t L s) (_:∀l∈s.ar,l<s.ns.length) (_:∀l,binderR s x=some l->Q (.int (l:Nat)) H) (_:binderR s x=none->∀H',Same H0 H'->E (.ref A.cNp) none H')
theorem scBinder:FnScope ["self","name","label"] ["self","name"] (defScope (inClass (top 55) 8)):=⟨rfl,rfl,rfl,by decide +kernel,rfl,by decide +kernel,by decide +kernel⟩
theorem natV_get {l:List Nat} {i:Nat} {x:V} (h:(natV l)[i]?=some x):∃n:Nat,l[i]?=some n/\x=.int n:=by
 unfold natV natI at h
 rw[List.getElem?_map,List.getElem?_map]at h
 cases e:l[i]? with
 |none=>rw[e]at h;cases h
 |some b=>rw[e]at h;exact⟨b,rfl,(Option.some.inj h).symm⟩
theorem ok_binder {f:Addr} {fd:FuncData} (T:Txt K w mg A) (TE:TxE K mg A) (F:Fun K "binder_of" "Reader.binder_of" (inClass (top 55) 8) f fd) (gBl:DOk P w K mg base CX0 1 "binds_last_part" ["node"] (spBinds A)):FnOk P w K mg base (CX1 P w A.cNp) 2 f fd ["self","name"] (spBinder A):=by
 refine okX F scBinder (fun vs H Q E h=>?_) (fun cdv AA outer sh H vs Q E hr h=>?_)
 ·obtain⟨H0,rd,t,L,s,x,rfl,_⟩:=h
  rfl
 ·obtain⟨H0,rd,t,L,s,x,rfl,R,hw,q1,q2⟩:=h
  refine⟨_,pss_cons (ps_for PassesOwn.leaving rfl (pi_reversed (by rfl) (T.bl "reversed") (pa_cons (pf (pv 0)) pa_nil)) (pg_name (i:=2) scBinder.nd rfl (Or.inl rfl))
   (pss_one (ps_if (pw_and (pt_cmpR op_eq (pf (pe_ix ix_list (pf (pv 0)) (pv 2) (fun _ _=>rfl))) (pv 1) (nomark _)) (pw_and1 (pt_val (pe_dd gBl hr (by decide) (by rfl) pass0 (pa_cons (pe_ix ix_list (pf (pv 0)) (pv 2) (fun _ _=>rfl)) pa_nil))))).pt (pss_one (ps_ret (pv 2))) pss_nil)))
   (pss_one (ps_np leaves_def rfl TE)),?_⟩
  refine rdF rfl ⟨_,R.rdr⟩ T.kRd T.nRd rfl ?_
  refine⟨L.la,natV s.ar,rfl,SqL.of R.around,?_⟩
  refine for_rev (K:=K) (a:=L.la) (xs:=natV s.ar) (fun i σ H'=>H'=H/\(∃v,σ=[some (.ref rd),some (.str (nameS x)),v])/\∀m∈s.ar.reverse.take i,isB s.ns x m=false) ⟨rfl,⟨none,rfl⟩,fun m hm=>by simp at hm⟩ (fun i σ H' _ z=>by rw[z.1];exact SqL.of R.around) ?_ ?_
  ·rintro i y σ H' hi hy ⟨rfl,⟨v,rfl⟩,hno⟩
   rw[natV_len]at hi hy
   obtain⟨l,hl,rfl⟩:=natV_get hy
   have hrl:s.ar.reverse[i]?=some l:=by rw[List.getElem?_reverse hi];exact hl
   obtain⟨n,p,hn,hp,⟨dxn,hni⟩,hlp⟩:=R.node (hw l (List.mem_of_getElem? hl))
   have eB:isB s.ns x l=(decide (n.name=x)&&bindsL n):=by unfold isB;rw[hn]
   have step:isB s.ns x l=false->H'=H'/\(∃v,([some (.ref rd),some (.str (nameS x)),some (.int l)]:L2.St)=[some (.ref rd),some (.str (nameS x)),v])/\∀m∈s.ar.reverse.take (i+1),isB s.ns x m=false:=fun hb=>by
    refine⟨rfl,⟨_,rfl⟩,fun m hm=>?_⟩
    rw[take_more hrl]at hm
    rcases List.mem_append.mp hm with h|h
    ·exact hno m h
    ·rw[List.mem_singleton.mp h];exact hb
   refine rdU ?_
   refine rdF rfl ⟨_,R.rdr⟩ T.kRd T.nRd rfl ?_
   refine⟨_,rfl,L.ln,_,_,.ref p.1,rfl,rfl,SqL.of R.nodes,atI_nat (j:=l) (by rw[List.getElem?_map,hp];rfl),p.1,A.cNd,dxn,_,_,rfl,hni,T.kNd,T.nNd,rfl,_,rfl,rfl,_,rfl,?_⟩
   by_cases e:n.name=x
   ·have d:decide (V.str (nameS n.name)=V.str (nameS x))=true:=by rw[e];simp
    rw[d]
    refine iteT ?_
    refine rdF rfl ⟨_,R.rdr⟩ T.kRd T.nRd rfl ?_
    refine⟨_,rfl,L.ln,_,_,.ref p.1,rfl,rfl,SqL.of R.nodes,atI_nat (j:=l) (by rw[List.getElem?_map,hp];rfl),p.1,p.2,n,rfl,⟨dxn,hni⟩,hlp,_,rfl,?_⟩
    cases hb:bindsL n with
    |false=>exact iteF (step (by rw[eB,hb,Bool.and_false]))
    |true=>
     refine iteT ?_
     refine⟨_,rfl,q1 l ?_⟩
     unfold binderR
     have hsp:s.ar.reverse=s.ar.reverse.take i++l::s.ar.reverse.drop (i+1):=by
      rw[show l::s.ar.reverse.drop (i+1)=[l]++s.ar.reverse.drop (i+1)from rfl,<-List.append_assoc,<-take_more hrl,List.take_append_drop]
     rw[hsp,List.find?_append,List.find?_eq_none.mpr fun m hm=>by rw[hno m hm];simp,Option.none_or,List.find?_cons,eB,hb,decide_eq_true e]
     rfl
   ·have d:decide (V.str (nameS n.name)=V.str (nameS x))=false:=decide_eq_false fun z=>e (name_inj (by injection z))
    rw[d]
    refine iteF ?_
    exact iteF (step (by rw[eB,decide_eq_false e,Bool.false_and]))
  ·rintro σ H' ⟨rfl,⟨v,rfl⟩,hno⟩
   refine q2 ?_ _ R.same
   rw[natV_len,show s.ar.length=s.ar.reverse.length by simp,List.take_length]at hno
   unfold binderR
   exact List.find?_eq_none.mpr fun m hm=>by rw[hno m hm];simp
end
end Fv
end
section
namespace Fv
open PySem PySem.Spec PyProof.Rows L2
open Mth (RN RS bAt rowW takeB WfR addNode addPart newRN binderR isB bindsL setLast set_last mod_app addPart_len)
open Vacfaa (isSmall isDigit isName)
section
variable {P:Program} {w:World} {K:PySem.W.Frag} {mg:Str->Option Value} {base:Heap} {A:Ad}
theorem RdAt.lastN {H0 H:Hp} {rd:Addr} {t:Tx} {L:RdLay} {p:Addr×Addr} {s:RS} {B:List RN} {x:RN} (R:RdAt A H0 H rd t {L with ns:=L.ns++[p]} s) (e:s.ns=B++[x]):∃dx,H p.1=some (.ins A.cNd dx (fRN x p.2))/\B.length=L.ns.length:=by
 have hl:B.length=L.ns.length:=by
  have:=R.len
  rw[e]at this
  simp at this
  exact this.symm
 obtain⟨p',h1,⟨dx,h2⟩,h3⟩:=R.each B.length x (by rw[e];exact get_last _ _ rfl)
 have h1:(L.ns++[p])[B.length]?=some p':=h1
 rw[get_last _ _ hl]at h1
 cases h1
 exact⟨dx,h2,hl⟩
theorem RdAt.setLast (nC:A.cls.Nodup) {H0 H H':Hp} {rd:Addr} {t:Tx} {L:RdLay} {p:Addr×Addr} {s:RS} {B:List RN} {x:RN} (R:RdAt A H0 H rd t {L with ns:=L.ns++[p]} s) (e:s.ns=B++[x]) (g:RN->RN) (hg:(g x).parts=x.parts) (b:But p.1 H H') (h:InsAt A.cNd H' p.1 (fRN (g x) p.2)) :
  RdAt A H0 H' rd t {L with ns:=L.ns++[p]} {s with ns:=B++[g x]}:=by
 obtain⟨dx,h2,hl⟩:=R.lastN e
 have R2:=R.setN nC (i:=B.length) (p:=p) (n:=x) (g:=g) (get_last _ _ hl) (by rw[e];exact get_last _ _ rfl) h2 hg b h
 have e2:s.ns.modify B.length g=B++[g x]:=by rw[e];exact mod_app g x [] B
 rw[e2]at R2
 exact R2
inductive spWay (A:Ad) (mir:Tx->RS->Option RS) (vs:List V) (H:Hp) (Q:VK) (E:XK):Prop
 |mk (H0:Hp) (rd:Addr) (t:Tx) (L:RdLay) (s:RS) (_:vs=[.ref rd]) (_:RdAt A H0 H rd t L s) (_:WfR t s) (_:∀s',mir t s=some s'->∀H' L',RdAt A H0 H' rd t L' s'->Q .non H') (_:mir t s=none->∀H',Same H0 H'->E (.ref A.cNp) none H')
theorem scRNum:FnScope ["self","node"] ["self"] (defScope (inClass (top 55) 10)):=⟨rfl,rfl,rfl,by decide +kernel,rfl,by decide +kernel,by decide +kernel⟩
theorem ok_rnum {f:Addr} {fd:FuncData} (T:Txt K w mg A) (F:Fun K "read_number" "Reader.read_number" (inClass (top 55) 10) f fd) (gAd:MOk P w K mg base (CX1 P w A.cNp) 3 A.cRd "add_node" ["self","kind","begin"] (spAdd A)) (gNu:MOk P w K mg base (CX1 P w A.cNp) 3 A.cRd "take_number" ["self"] (spNum A)) :
  FnOk P w K mg base (CX1 P w A.cNp) 4 f fd ["self"] (spWay A Mth.readNum):=by
 refine okX F scRNum (fun vs H Q E h=>?_) (fun cdv AA outer sh H vs Q E hr h=>?_)
 ·obtain⟨H0,rd,t,L,s,rfl,_⟩:=h
  rfl
 ·obtain⟨H0,rd,t,L,s,rfl,R,W,q1,q2⟩:=h
  refine⟨_,pss_cons (ps_set (i:=1) scRNum.nd rfl (Or.inl rfl) (pe_mm gAd T.kRd hr (by decide) (passes1 leaves_def) (pv 0) (pa_cons (gi T 0) (pa_cons (pf (pv 0)) pa_nil))))
   (pss_cons (ps_fld (pv 1) (pe_mm0 gNu T.kRd hr (by decide) (passes1 leaves_def) (pv 0)) rfl) (pss_one (ps_fld (pv 1) (pf (pv 0)) rfl))),?_⟩
  refine⟨_,rfl,rd,_,_,rfl,R.rdr,rfl,?_⟩
  refine rdF rfl ⟨_,R.rdr⟩ T.kRd T.nRd rfl ?_
  unfold Mth.readNum at q1 q2
  refine⟨H0,rd,t,L,s,0,s.pl,rfl,R,W,fun s1 h1 H1 p R1=>?_,fun hn=>q2 (by rw[hn];rfl)⟩
  obtain⟨W1,e1,e2,e3,e4,e5⟩:=Mth.wf_add W (by decide) h1
  rw[h1]at q1 q2
  simp only[Option.bind_some]at q1 q2
  refine⟨_,rfl,rd,_,_,rfl,R1.rdr,rfl,H0,rd,t,_,s1,rfl,R1,W1.pl,W1.tl,fun hok H2 R2=>?_,fun hbad=>q2 (by rw[if_neg (by rw[hbad];simp)])⟩
  rw[if_pos hok,e5,set_last]at q1
  obtain⟨dx,hp,hBl⟩:=R2.lastN e5
  refine⟨_,rfl,p.1,A.cNd,dx,_,rfl,hp,T.kNd,T.nNd,(by show 8<1000;decide),?_⟩
  have R3:=R2.setLast T.nd e5 (fun n=>{n with num:=Vacfaa.valueOf (rowW isDigit t s1.pl)}) rfl But.put ⟨dx,upd_same (o:=.ins A.cNd dx (putF "number" (.int (Vacfaa.valueOf (rowW isDigit t s1.pl):Nat)) (fRN (newRN 0 s.ar.length s.pl) p.2)))⟩
  refine rdF rfl ⟨_,R3.rdr⟩ T.kRd T.nRd rfl ?_
  refine⟨_,rfl,p.1,A.cNd,dx,_,rfl,upd_same,T.kNd,T.nNd,(by show 8<1000;decide),?_⟩
  have R4:=R3.setLast T.nd rfl (fun n=>{n with beh:=s1.pl+(rowW isDigit t s1.pl).length}) rfl But.put ⟨dx,upd_same (o:=.ins A.cNd dx (putF "behind" (.int ((s1.pl+(rowW isDigit t s1.pl).length:Nat):Int)) (putF "number" (.int (Vacfaa.valueOf (rowW isDigit t s1.pl):Nat)) (fRN (newRN 0 s.ar.length s.pl) p.2))))⟩
  exact q1 _ rfl _ _ R4
theorem scRName:FnScope ["self","node"] ["self"] (defScope (inClass (top 55) 11)):=⟨rfl,rfl,rfl,by decide +kernel,rfl,by decide +kernel,by decide +kernel⟩
theorem ok_rname {f:Addr} {fd:FuncData} (T:Txt K w mg A) (F:Fun K "read_name" "Reader.read_name" (inClass (top 55) 11) f fd) (gAd:MOk P w K mg base (CX1 P w A.cNp) 3 A.cRd "add_node" ["self","kind","begin"] (spAdd A)) (gNa:MOk P w K mg base (CX1 P w A.cNp) 4 A.cRd "take_name" ["self"] (spName A))
  (gBi:MOk P w K mg base (CX1 P w A.cNp) 2 A.cRd "binder_of" ["self","name"] (spBinder A)):FnOk P w K mg base (CX1 P w A.cNp) 5 f fd ["self"] (spWay A Mth.readName):=by
 refine okX F scRName (fun vs H Q E h=>?_) (fun cdv AA outer sh H vs Q E hr h=>?_)
 ·obtain⟨H0,rd,t,L,s,rfl,_⟩:=h
  rfl
 ·obtain⟨H0,rd,t,L,s,rfl,R,W,q1,q2⟩:=h
  obtain⟨ti,hin⟩:=T.inn
  refine⟨_,pss_cons (ps_set (i:=1) scRName.nd rfl (Or.inl rfl) (pe_mm gAd T.kRd hr (by decide) (passes1 leaves_def) (pv 0) (pa_cons (gi T 1) (pa_cons (pf (pv 0)) pa_nil))))
   (pss_cons (ps_fld (pv 1) (pe_mm0 gNa T.kRd hr (by decide) (passes1 leaves_def) (pv 0)) rfl) (pss_cons (ps_fld (pv 1) (pf (pv 0)) rfl)
   (pss_one (ps_if (pt_cmpR op_ne (pf (pv 1)) (pe_glob (v:=.str "in") rfl hin ⟨ti,rfl⟩) (nomark _)) (pss_one (ps_fld (pv 1) (pe_mm gBi T.kRd hr (by decide) (passes1 leaves_def) (pv 0) (pa_cons (pf (pv 1)) pa_nil)) rfl)) pss_nil)))),?_⟩
  refine⟨_,rfl,rd,_,_,rfl,R.rdr,rfl,?_⟩
  refine rdF rfl ⟨_,R.rdr⟩ T.kRd T.nRd rfl ?_
  unfold Mth.readName at q1 q2
  refine⟨H0,rd,t,L,s,1,s.pl,rfl,R,W,fun s1 h1 H1 p R1=>?_,fun hn=>q2 (by rw[hn];rfl)⟩
  obtain⟨W1,e1,e2,e3,e4,e5⟩:=Mth.wf_add W (by decide) h1
  rw[h1]at q1 q2
  simp only[Option.bind_some]at q1 q2
  refine⟨_,rfl,rd,_,_,rfl,R1.rdr,rfl,H0,rd,t,_,s1,rfl,R1,W1.pl,W1.tl,fun hok H2 R2=>?_,fun hbad=>q2 (by rw[if_neg (by rw[hbad];simp)])⟩
  rw[if_pos hok]at q1 q2
  have en:Mth.nameIn t s1=⟨s1.pl+(rowW isSmall t s1.pl).length,addPart s.ns s.ar++[{newRN 1 s.ar.length s.pl with name:=rowW isSmall t s1.pl,beh:=s1.pl+(rowW isSmall t s1.pl).length}],s1.ar⟩:=by
   unfold Mth.nameIn
   rw[e5,set_last]
  obtain⟨dx,hp,hBl⟩:=R2.lastN e5
  refine⟨_,rfl,p.1,A.cNd,dx,_,rfl,hp,T.kNd,T.nNd,(by show 8<1000;decide),?_⟩
  have R3:=R2.setLast T.nd e5 (fun n=>{n with name:=rowW isSmall t s1.pl}) rfl But.put ⟨dx,upd_same (o:=.ins A.cNd dx (putF "name" (.str (nameS (rowW isSmall t s1.pl))) (fRN (newRN 1 s.ar.length s.pl) p.2)))⟩
  refine rdF rfl ⟨_,R3.rdr⟩ T.kRd T.nRd rfl ?_
  refine⟨_,rfl,p.1,A.cNd,dx,_,rfl,upd_same,T.kNd,T.nNd,(by show 8<1000;decide),?_⟩
  have R4:=R3.setLast T.nd rfl (fun n=>{n with beh:=s1.pl+(rowW isSmall t s1.pl).length}) rfl But.put ⟨dx,upd_same (o:=.ins A.cNd dx (putF "behind" (.int ((s1.pl+(rowW isSmall t s1.pl).length:Nat):Int)) (putF "name" (.str (nameS (rowW isSmall t s1.pl))) (fRN (newRN 1 s.ar.length s.pl) p.2))))⟩
  have hR4:∀{HH:Hp} {LL:RdLay},RdAt A H0 HH rd t LL ⟨s1.pl+(rowW isSmall t s1.pl).length,addPart s.ns s.ar++[{newRN 1 s.ar.length s.pl with name:=rowW isSmall t s1.pl,beh:=s1.pl+(rowW isSmall t s1.pl).length}],s1.ar⟩->RdAt A H0 HH rd t LL (Mth.nameIn t s1):=fun h=>by rw[en];exact h
  have R4:=hR4 R4
  obtain⟨dx4,hp4,_⟩:=R4.lastN (B:=addPart s.ns s.ar) (x:={newRN 1 s.ar.length s.pl with name:=rowW isSmall t s1.pl,beh:=s1.pl+(rowW isSmall t s1.pl).length}) (by rw[en])
  refine rdF rfl ⟨dx4,hp4⟩ T.kNd T.nNd rfl ?_
  refine⟨rfl,_,rfl,?_⟩
  rw[show(!decide (V.str (nameS (rowW isSmall t s1.pl))=V.str "in"))=(!decide (rowW isSmall t s1.pl=Vacfaa.INPUT)) by rw[name_in_iff]]
  by_cases e:rowW isSmall t s1.pl=Vacfaa.INPUT
  ·rw[if_pos e]at q1
   rw[decide_eq_true e]
   exact iteF (q1 _ rfl _ _ R4)
  ·rw[if_neg e]at q1 q2
   rw[decide_eq_false e]
   refine iteT ?_
   refine⟨_,rfl,rd,_,_,rfl,R4.rdr,rfl,?_⟩
   refine rdF rfl ⟨dx4,hp4⟩ T.kNd T.nNd rfl ?_
   refine⟨H0,rd,t,_,_,rowW isSmall t s1.pl,rfl,R4,?_,fun l hl=>?_,fun hn=>q2 (by rw[hn];rfl)⟩
   ·intro l hl
    rw[en]at hl ⊢
    have:=W1.ar l hl
    rw[e5]at this
    simpa using this
   ·rw[hl]at q1
    refine⟨_,rfl,p.1,A.cNd,dx4,_,rfl,hp4,T.kNd,T.nNd,(by show 8<1000;decide),?_⟩
    have R5:=R4.setLast T.nd (by rw[en]) (fun n=>{n with bi:=some l}) rfl But.put ⟨dx4,upd_same (o:=.ins A.cNd dx4 (putF "binder" (.int (l:Nat)) (fRN {newRN 1 s.ar.length s.pl with name:=rowW isSmall t s1.pl,beh:=s1.pl+(rowW isSmall t s1.pl).length} p.2)))⟩
    have q1:=fun H'=>q1 _ rfl H' {L with ns:=L.ns++[p]}
    rw[en]at q1;simp only[set_last]at q1
    rw[en]at R5
    exact q1 _ R5
end
end Fv
end
section
namespace Fv
open PySem PySem.Spec PyProof.Rows L2
open Mth (RN RS bAt rowW takeB WfR addNode addPart newRN binderR isB bindsL setLast set_last mod_app addPart_len kindW openLast)
open Vacfaa (isSmall isDigit isName)
section
variable {P:Program} {w:World} {K:PySem.W.Frag} {mg:Str->Option Value} {base:Heap} {A:Ad}
theorem scBr:FnScope ["self","begin","start","word","node"] ["self"] (defScope (inClass (top 55) 12)):=⟨rfl,rfl,rfl,by decide +kernel,rfl,by decide +kernel,by decide +kernel⟩
theorem ok_br {f:Addr} {fd:FuncData} (T:Txt K w mg A) (F:Fun K "begin_bracket" "Reader.begin_bracket" (inClass (top 55) 12) f fd) (gTa:MOk P w K mg base (CX1 P w A.cNp) 2 A.cRd "take" ["self","byte"] (spTake A)) (gLe:MOk P w K mg base CX0 3 A.cRd "take_letters" ["self"] (spLet A))
  (gAd:MOk P w K mg base (CX1 P w A.cNp) 3 A.cRd "add_node" ["self","kind","begin"] (spAdd A)) (gBN:MOk P w K mg base (CX1 P w A.cNp) 5 A.cRd "take_binder_name" ["self"] (spBName A)):FnOk P w K mg base (CX1 P w A.cNp) 6 f fd ["self"] (spWay A Mth.beginBr):=by
 refine okX F scBr (fun vs H Q E h=>?_) (fun cdv AA outer sh H vs Q E hr h=>?_)
 ·obtain⟨H0,rd,t,L,s,rfl,_⟩:=h
  rfl
 ·obtain⟨H0,rd,t,L,s,rfl,R,W,q1,q2⟩:=h
  have tail5:∃t5,PSs (cxOf (CX1 P w A.cNp) P w K mg base ["self","begin","start","word","node"] "Reader.begin_bracket" (defScope (inClass (top 55) 12)) f cdv AA outer sh H E) ((defBody (inClass (top 55) 12)).drop 7) t5 /\
    ∀(H1:Hp) (L1:RdLay) (s1:RS) (v1 v2 v3 v4:Option V),RdAt A H0 H1 rd t L1 s1->s1.ar.length<=9->0<s1.ns.length->(∀H' L',RdAt A H0 H' rd t L' (openLast s1)->Q .non H')->t5 {nx:=fun _ H'=>Q .non H',rt:=Q} [some (.ref rd),v1,v2,v3,v4] H1:=by
   refine⟨_,pss_one (ps_expr (pe_bm PySem.F.plainAttrs_list PySem.F.slot_list_append PySem.F.type_list_append mt_append (pf (pv 0)) (pa_cons (pe_op op_sub (pe_callB call_len_seq (by rfl) (T.bl "len") bt_len (pa_cons (pf (pv 0)) pa_nil)) pe_int) pa_nil))),?_⟩
   intro H1 L1 s1 v1 v2 v3 v4 R1 h9 hpos q
   refine rdF rfl ⟨_,R1.rdr⟩ T.kRd T.nRd rfl ?_
   refine⟨.inl ⟨rfl,_,SqL.of R1.around⟩,?_⟩
   refine rdF rfl ⟨_,R1.rdr⟩ T.kRd T.nRd rfl ?_
   refine⟨L1.ln,_,rfl,.inl (SqL.of R1.nodes),_,_,rfl,rfl,L1.la,_,_,rfl,rfl,R1.around,(by rw[natV_len];exact Nat.lt_of_le_of_lt h9 (by decide)),?_⟩
   rw[List.length_map,R1.len]
   have e:((s1.ns.length:Int)-1)=((s1.ns.length-1:Nat):Int):=by omega
   show Q .non (upd H1 L1.la (.lst (natV s1.ar++[.int ((s1.ns.length:Int)-1)])))
   rw[e]
   refine q _ L1 (R1.setA But.put ?_)
   rw[upd_same]
   simp[natV,natI]
  obtain⟨t5,p5,g5⟩:=tail5
  have tail3:∃t3,PSs (cxOf (CX1 P w A.cNp) P w K mg base ["self","begin","start","word","node"] "Reader.begin_bracket" (defScope (inClass (top 55) 12)) f cdv AA outer sh H E) ((defBody (inClass (top 55) 12)).drop 5) t3 /\
    ∀(H1:Hp) (s1:RS) (x:Tx) (v2:Option V),RdAt A H0 H1 rd t L s1->WfR t s1->(∀s',((addNode ((kindW x).getD 3) s.pl s1).bind fun s2=>(if(kindW x).getD 3=2\/(kindW x).getD 3=4 then Mth.bindName t s2 else some s2).map openLast)=some s'->∀H' L',RdAt A H0 H' rd t L' s'->Q .non H') ->
     (((addNode ((kindW x).getD 3) s.pl s1).bind fun s2=>(if(kindW x).getD 3=2\/(kindW x).getD 3=4 then Mth.bindName t s2 else some s2).map openLast)=none->∀H',Same H0 H'->E (.ref A.cNp) none H') ->
     t3 {nx:=fun _ H'=>Q .non H',rt:=Q} [some (.ref rd),some (.int s.pl),v2,some (.str (nameS x)),none] H1:=by
   refine⟨_,pss_cons (ps_set (i:=4) scBr.nd rfl (Or.inl rfl) (pe_mm gAd T.kRd hr (by decide) (passes1 leaves_def) (pv 0) (pa_cons (pe_mget2 (gkw T) (pv 3) (gi T 3) ⟨rfl,rfl,rfl,rfl⟩) (pa_cons (pv 1) pa_nil))))
    (pss_cons (ps_if (pw_or (pt_cmpR op_eq (pf (pv 4)) (gi T 2) (nomark _)) (pw_or1 (pt_cmpR op_eq (pf (pv 4)) (gi T 4) (nomark _)))).pt (pss_cons (ps_expr (pe_mm gTa T.kRd hr (by decide) (passes1 leaves_def) (pv 0) (pa_cons (gi T 32) pa_nil))) (pss_one (ps_fld (pv 4) (pe_mm0 gBN T.kRd hr (by decide) (passes1 leaves_def) (pv 0)) rfl))) pss_nil) p5),?_⟩
   intro H1 s1 x v2 R1 W1 q1 q2
   refine⟨_,rfl,rd,_,_,rfl,R1.rdr,rfl,A.kw,kwF,rfl,T.kw.2,_,rfl,_,rfl,?_⟩
   have ek:(kwF (nameS x)).getD (.int 3)=.int (((kindW x).getD 3:Nat):Int):=by
    rw[kw_res]
    cases kindW x with
    |none=>rfl
    |some k=>rfl
   rw[ek]
   have hk12:(kindW x).getD 3<=12:=by
    cases h:kindW x with
    |none=>decide
    |some k=>exact(Mth.kindW_word h).2.2.1
   generalize (kindW x).getD 3=k at *
   refine⟨_,rfl,H0,rd,t,L,s1,k,s.pl,rfl,R1,W1,fun s2 h2 H2 p R2=>?_,fun hn=>q2 (by rw[hn];rfl)⟩
   obtain⟨W2,e1,e2,e3,e4,e5⟩:=Mth.wf_add W1 hk12 h2
   rw[h2]at q1 q2
   simp only[Option.bind_some]at q1 q2
   obtain⟨dx,hp,hBl⟩:=R2.lastN e5
   have hno:¬(k=2\/k=4)->t5 {nx:=fun _ H'=>Q .non H',rt:=Q} [some (.ref rd),some (.int s.pl),v2,some (.str (nameS x)),some (.ref p.1)] H2:=fun h=>by
    rw[if_neg h]at q1
    exact g5 H2 _ s2 _ _ _ _ R2 (by rw[e2];omega) (by omega) fun H' L' R'=>q1 _ rfl H' L' R'
   have hyes:(k=2\/k=4)->(tSeq (tDrop (tMeth A.cRd "take" (spTake A) [] E (tVar 0) (tCons (tC (.int 32)) tNil))) (sFld K (tVar 4) (tMeth A.cRd "take_binder_name" (spBName A) [] E (tVar 0) tNil) "name")) {nx:=t5 {nx:=fun _ H'=>Q .non H',rt:=Q},rt:=Q} [some (.ref rd),some (.int s.pl),v2,some (.str (nameS x)),some (.ref p.1)] H2:=fun h=>by
    rw[if_pos h]at q1 q2
    unfold Mth.bindName at q1 q2
    refine⟨_,rfl,rd,_,_,rfl,R2.rdr,rfl,H0,rd,t,_,s2,32,rfl,R2,fun s3 h3 H3 R3=>?_,fun hn=>q2 (by rw[hn];rfl)⟩
    rw[h3]at q1 q2
    simp only[Option.bind_some]at q1 q2
    obtain⟨rfl,hp3⟩:=Mth.takeB_some h3
    refine⟨_,rfl,rd,_,_,rfl,R3.rdr,rfl,H0,rd,t,_,_,rfl,R3,hp3,W2.tl,fun hok H4 R4=>?_,fun hbad=>q2 (by rw[if_neg hbad];rfl)⟩
    rw[if_pos hok]at q1
    simp only[Option.map_some]at q1
    rw[e5,set_last]at q1
    obtain⟨dx4,hp4,_⟩:=R4.lastN (B:=addPart s1.ns s1.ar) (x:=newRN k s1.ar.length s.pl) e5
    refine⟨_,rfl,p.1,A.cNd,dx4,_,rfl,hp4,T.kNd,T.nNd,(by show 8<1000;decide),?_⟩
    have R5:=R4.setLast T.nd e5 (fun n=>{n with name:=rowW isSmall t (s2.pl+1)}) rfl But.put ⟨dx4,upd_same (o:=.ins A.cNd dx4 (putF "name" (.str (nameS (rowW isSmall t (s2.pl+1)))) (fRN (newRN k s1.ar.length s.pl) p.2)))⟩
    exact g5 _ _ _ _ _ _ _ R5 (by show s2.ar.length<=9;rw[e2];omega) (by simp) fun H' L' R'=>q1 _ rfl H' L' R'
   refine rdEq rfl ⟨dx,hp⟩ T.kNd T.nNd rfl ?_
   by_cases k2:k=2
   ·have d:decide ((k:Int)=2)=true:=by rw[k2];rfl
    show if decide ((k:Int)=2)=true then _ else _
    rw[d]
    refine iteT ?_
    exact iteT (hyes (.inl k2))
   ·have d:decide ((k:Int)=2)=false:=decide_eq_false fun z=>k2 (by omega)
    show if decide ((k:Int)=2)=true then _ else _
    rw[d]
    refine iteF ?_
    refine rdEq rfl ⟨dx,hp⟩ T.kNd T.nNd rfl ?_
    by_cases k4:k=4
    ·have d4:decide ((k:Int)=4)=true:=by rw[k4];rfl
     show if decide ((k:Int)=4)=true then _ else _
     rw[d4]
     exact iteT (hyes (.inr k4))
    ·have d4:decide ((k:Int)=4)=false:=decide_eq_false fun z=>k4 (by omega)
     show if decide ((k:Int)=4)=true then _ else _
     rw[d4]
     exact iteF (hno (by omega))
  obtain⟨t3,p3,g3⟩:=tail3
  refine⟨_,pss_cons (ps_set (i:=1) scBr.nd rfl (Or.inl rfl) (pf (pv 0))) (pss_cons (ps_expr (pe_mm gTa T.kRd hr (by decide) (passes1 leaves_def) (pv 0) (pa_cons (gi T 40) pa_nil))) (pss_cons (ps_set (i:=2) scBr.nd rfl (Or.inl rfl) (pf (pv 0)))
   (pss_cons (ps_set (i:=3) scBr.nd rfl (Or.inl rfl) (pe_mm0 gLe T.kRd hr (by decide) pass0 (pv 0))) (pss_cons (ps_if (pt_cmp (pc_mnotin (pv 3) (gkw T))) (pss_one (ps_fld (pv 0) (pv 2) rfl)) pss_nil) p3)))),?_⟩
  unfold Mth.beginBr at q1 q2
  refine rdF rfl ⟨_,R.rdr⟩ T.kRd T.nRd rfl ?_
  refine⟨_,rfl,rd,_,_,rfl,R.rdr,rfl,H0,rd,t,L,s,40,rfl,R,fun s1 h1 H1 R1=>?_,fun hn=>q2 (by rw[hn];rfl)⟩
  rw[h1]at q1 q2
  simp only[Option.bind_some]at q1 q2
  obtain⟨rfl,hp1⟩:=Mth.takeB_some h1
  refine rdF rfl ⟨_,R1.rdr⟩ T.kRd T.nRd rfl ?_
  refine⟨_,rfl,rd,_,_,rfl,R1.rdr,rfl,H0,rd,t,L,_,rfl,R1,hp1,W.tl,fun H2 R2=>?_⟩
  have hrow:=Mth.row_pl (t:=t) (s:={s with pl:=s.pl+1}) isSmall hp1
  refine⟨_,rfl,A.kw,_,kwF,rfl,rfl,T.kw.2,_,rfl,?_⟩
  rw[kw_res]
  cases hk:kindW (rowW isSmall t (s.pl+1))with
  |some k=>
   refine iteF ?_
   rw[hk]at q1 q2
   refine g3 H2 _ _ _ R2 (Mth.wf_place W hrow) ?_ ?_
   ·rw[hk];exact q1
   ·rw[hk];exact q2
  |none=>
   refine iteT ?_
   rw[hk]at q1 q2
   refine⟨_,rfl,_,rfl,rd,_,_,_,rfl,R2.rdr,T.kRd,T.nRd,(by show 4<1000;decide),?_⟩
   refine g3 _ _ _ _ (R2.place (pl:=s.pl+1) T.nd But.put upd_same) (Mth.wf_place W hp1) ?_ ?_
   ·rw[hk];exact q1
   ·rw[hk];exact q2
end
end Fv
end
section
namespace Fv
open PySem PySem.Spec PyProof.Rows L2
open Mth (RN RS bAt rowW takeB WfR)
open Vacfaa (isSmall isDigit isName)
def NodesX (A:Ad) (X:Addr->Prop) (H:Hp) (ln:Addr) (ns:List RN):Prop:=¬X ln/\∃as:List Addr,H ln=some (.lst (as.map V.ref))/\as.length=ns.length/\∀(i:Nat) (n:RN),ns[i]?=some n->∃a lp,as[i]?=some a/\InsAt A.cNd H a (fRN n lp)/\H lp=some (.lst (natV n.parts))/\¬X lp
theorem NodesX.at {A:Ad} {X:Addr->Prop} {H:Hp} {ln:Addr} {ns:List RN} (N:NodesX A X H ln ns):NodesAt A H ln ns:=by
 obtain⟨_,as,h1,h2,h3⟩:=N
 refine⟨as,h1,h2,fun i n hn=>?_⟩
 obtain⟨a,lp,k1,k2,k3,_⟩:=h3 i n hn
 exact⟨a,lp,k1,k2,k3⟩
theorem NodesX.same {A:Ad} {X:Addr->Prop} {H H':Hp} {ln:Addr} {ns:List RN} (N:NodesX A X H ln ns) (s:Same H H'):NodesX A X H' ln ns:=by
 obtain⟨h0,as,h1,h2,h3⟩:=N
 refine⟨h0,as,s _ _ h1,h2,fun i n hn=>?_⟩
 obtain⟨a,lp,k1,k2,k3,k4⟩:=h3 i n hn
 exact⟨a,lp,k1,k2.same s,s _ _ k3,k4⟩
theorem NodesX.imp {A:Ad} {X Y:Addr->Prop} {H:Hp} {ln:Addr} {ns:List RN} (N:NodesX A X H ln ns) (h:∀x,Y x->X x):NodesX A Y H ln ns:=by
 obtain⟨h0,as,h1,h2,h3⟩:=N
 refine⟨fun z=>h0 (h _ z),as,h1,h2,fun i n hn=>?_⟩
 obtain⟨a,lp,k1,k2,k3,k4⟩:=h3 i n hn
 exact⟨a,lp,k1,k2,k3,fun z=>k4 (h _ z)⟩
section
variable {P:Program} {w:World} {K:PySem.W.Frag} {mg:Str->Option Value} {base:Heap} {A:Ad}
theorem scBE:FnScope ["self","byte"] ["self"] (defScope (inClass (top 55) 9)):=⟨rfl,rfl,rfl,by decide +kernel,rfl,by decide +kernel,by decide +kernel⟩
theorem ok_be {f:Addr} {fd:FuncData} (T:Txt K w mg A) (F:Fun K "begin_expression" "Reader.begin_expression" (inClass (top 55) 9) f fd) (gBA:MOk P w K mg base CX0 1 A.cRd "byte_ahead" ["self"] (spBA A)) (gBr:MOk P w K mg base (CX1 P w A.cNp) 6 A.cRd "begin_bracket" ["self"] (spWay A Mth.beginBr))
  (gNu:MOk P w K mg base (CX1 P w A.cNp) 4 A.cRd "read_number" ["self"] (spWay A Mth.readNum)) (gNa:MOk P w K mg base (CX1 P w A.cNp) 5 A.cRd "read_name" ["self"] (spWay A Mth.readName)):FnOk P w K mg base (CX1 P w A.cNp) 7 f fd ["self"] (spWay A Mth.beginE):=by
 refine okX F scBE (fun vs H Q E h=>?_) (fun cdv AA outer sh H vs Q E hr h=>?_)
 ·obtain⟨H0,rd,t,L,s,rfl,_⟩:=h
  rfl
 ·obtain⟨H0,rd,t,L,s,rfl,R,W,q1,q2⟩:=h
  refine⟨_,pss_cons (ps_set (i:=1) scBE.nd rfl (Or.inl rfl) (pe_mm0 gBA T.kRd hr (by decide) pass0 (pv 0)))
   (pss_one (ps_if (pt_cmpR op_eq (pv 1) (gi T 40) (nomark _)) (pss_one (ps_expr (pe_mm0 gBr T.kRd hr (by decide) (passes1 leaves_def) (pv 0))))
    (pss_one (ps_if (pt_chain op_le op_le (gi T 48) (pv 1) (gi T 57)) (pss_one (ps_expr (pe_mm0 gNu T.kRd hr (by decide) (passes1 leaves_def) (pv 0)))) (pss_one (ps_expr (pe_mm0 gNa T.kRd hr (by decide) (passes1 leaves_def) (pv 0)))))))),?_⟩
  refine⟨_,rfl,rd,_,_,rfl,R.rdr,rfl,H0,rd,t,L,s,rfl,R,?_⟩
  refine⟨_,rfl,rfl,_,rfl,?_⟩
  unfold Mth.beginE at q1 q2
  by_cases e1:bAt t s.pl=40
  ·have d1:decide (V.int (bAt t s.pl)=V.int 40)=true:=by rw[e1];rfl
   rw[d1]
   rw[if_pos e1]at q1 q2
   refine iteT ?_
   exact⟨_,rfl,rd,_,_,rfl,R.rdr,rfl,H0,rd,t,L,s,rfl,R,W,q1,q2⟩
  have d1:decide (V.int (bAt t s.pl)=V.int 40)=false:=decide_eq_false fun z=>e1 (by injection z)
  rw[d1]
  rw[if_neg e1]at q1 q2
  refine iteF ?_
  have num:(48<=bAt t s.pl/\bAt t s.pl<=57)->(tDrop (tMeth A.cRd "read_number" (spWay A Mth.readNum) [] E (tVar 0) tNil)) {nx:=fun _ H'=>Q .non H',rt:=Q} [some (.ref rd),some (.int (bAt t s.pl))] H:=fun h=>by
   rw[if_pos h]at q1 q2
   exact⟨_,rfl,rd,_,_,rfl,R.rdr,rfl,H0,rd,t,L,s,rfl,R,W,q1,q2⟩
  have nam:¬(48<=bAt t s.pl/\bAt t s.pl<=57)->(tDrop (tMeth A.cRd "read_name" (spWay A Mth.readName) [] E (tVar 0) tNil)) {nx:=fun _ H'=>Q .non H',rt:=Q} [some (.ref rd),some (.int (bAt t s.pl))] H:=fun h=>by
   rw[if_neg h]at q1 q2
   exact⟨_,rfl,rd,_,_,rfl,R.rdr,rfl,H0,rd,t,L,s,rfl,R,W,q1,q2⟩
  refine⟨_,rfl,_,_,rfl,rfl,_,rfl,?_⟩
  by_cases e2:48<=bAt t s.pl
  ·have d2:decide ((48:Int)<=bAt t s.pl)=true:=decide_eq_true e2
   rw[d2]
   refine iteT ?_
   refine⟨_,_,rfl,rfl,_,rfl,?_⟩
   by_cases e3:bAt t s.pl<=57
   ·rw[decide_eq_true e3]
    exact iteT (num ⟨e2,e3⟩)
   ·rw[decide_eq_false e3]
    exact iteF (nam fun z=>e3 z.2)
  ·have d2:decide ((48:Int)<=bAt t s.pl)=false:=decide_eq_false e2
   rw[d2]
   exact iteF ⟨_,rfl,iteF (nam fun z=>e2 z.1)⟩
theorem scGR:FnScope ["self","node"] ["self"] (defScope (inClass (top 55) 14)):=⟨rfl,rfl,rfl,by decide +kernel,rfl,by decide +kernel,by decide +kernel⟩
inductive spGoR (A:Ad) (vs:List V) (H:Hp) (Q:VK) (E:XK):Prop
 |mk (H0:Hp) (rd:Addr) (t:Tx) (L:RdLay) (s:RS) (_:vs=[.ref rd]) (_:RdAt A H0 H rd t L s) (_:WfR t s) (_:s.ar≠[]) (_:∀s',Mth.goR t s=some s'->∀H' L',RdAt A H0 H' rd t L' s'->Q .non H') (_:Mth.goR t s=none->∀H',Same H0 H'->E (.ref A.cNp) none H')
theorem ok_gr {f:Addr} {fd:FuncData} (T:Txt K w mg A) (F:Fun K "go_on" "Reader.go_on" (inClass (top 55) 14) f fd) (gTa:MOk P w K mg base (CX1 P w A.cNp) 2 A.cRd "take" ["self","byte"] (spTake A)) (gBE:MOk P w K mg base (CX1 P w A.cNp) 7 A.cRd "begin_expression" ["self"] (spWay A Mth.beginE)) :
  FnOk P w K mg base (CX1 P w A.cNp) 8 f fd ["self"] (spGoR A):=by
 refine okX F scGR (fun vs H Q E h=>?_) (fun cdv AA outer sh H vs Q E hr h=>?_)
 ·obtain⟨H0,rd,t,L,s,rfl,_⟩:=h
  rfl
 ·obtain⟨H0,rd,t,L,s,rfl,R,W,hne,q1,q2⟩:=h
  refine⟨_,pss_cons (ps_set (i:=1) scGR.nd rfl (Or.inl rfl) (pe_ix ix_list (pf (pv 0)) (pe_ix ix_list (pf (pv 0)) (pe_un un_neg pe_int) (fun _ _=>rfl)) (fun _ _=>rfl)))
   (pss_one (ps_if (pt_cmpR op_eq (pe_callB call_len_seq (by rfl) (T.bl "len") bt_len (pa_cons (pf (pv 1)) pa_nil)) (pe_ix ix_tup (gt T A.pk pkL (pk_in A)) (pf (pv 1)) (fun _ _=>rfl)) (nomark _))
    (pss_cons (ps_expr (pe_mm gTa T.kRd hr (by decide) (passes1 leaves_def) (pv 0) (pa_cons (gi T 41) pa_nil))) (pss_cons (ps_fld (pv 1) (pf (pv 0)) rfl) (pss_one (ps_expr (pe_bm0 PySem.F.plainAttrs_list PySem.F.slot_list_pop PySem.F.type_list_pop mt_pop (pf (pv 0)))))))
    (pss_cons (ps_if (pw_or (pt_cmpR op_ne (pf (pv 1)) (gi T 3) (nomark _)) (pw_or1 (pt_cmpR op_gt (pe_callB call_len_seq (by rfl) (T.bl "len") bt_len (pa_cons (pf (pv 1)) pa_nil)) pe_int (nomark _)))).pt (pss_one (ps_expr (pe_mm gTa T.kRd hr (by decide) (passes1 leaves_def) (pv 0) (pa_cons (gi T 32) pa_nil)))) pss_nil)
    (pss_one (ps_expr (pe_mm0 gBE T.kRd hr (by decide) (passes1 leaves_def) (pv 0))))))),?_⟩
  unfold Mth.goR at q1 q2
  cases hl:s.ar.getLast? with
  |none=>exact absurd (List.getLast?_eq_none_iff.mp hl) hne
  |some l=>
   rw[hl]at q1 q2
   simp only at q1 q2
   have hmem:l∈s.ar:=List.mem_of_getLast? hl
   obtain⟨n,p,hn,hp,⟨dxn,hni⟩,hlp⟩:=R.node (W.ar l hmem)
   rw[hn]at q1 q2
   simp only at q1 q2
   obtain⟨ar0,ear⟩:=List.getLast?_eq_some_iff.mp hl
   have hla:H L.la=some (.lst (natV ar0++[.int l])):=by
    rw[R.around,ear]
    simp[natV,natI]
   have hk12:=W.k12 n (List.mem_of_getElem? hn)
   iterate 2 refine rdF rfl ⟨_,R.rdr⟩ T.kRd T.nRd rfl ?_
   refine⟨1,rfl,L.la,_,-1,_,rfl,rfl,SqL.of hla,atI_last _ _,L.ln,_,_,.ref p.1,rfl,rfl,SqL.of R.nodes,atI_nat (j:=l) (by rw[List.getElem?_map,hp];rfl),?_⟩
   refine rdF rfl ⟨dxn,hni⟩ T.kNd T.nNd rfl ?_
   refine⟨p.2,_,rfl,.inl (SqL.of hlp),?_⟩
   refine rdF rfl ⟨dxn,hni⟩ T.kNd T.nNd rfl ?_
   refine⟨A.pk,_,_,_,rfl,rfl,T.sq (pk_in A) _,atI_nat (pk_at hk12),rfl,_,rfl,?_⟩
   rw[natV_len]
   by_cases e1:n.parts.length=Mth.nparts n.kind
   ·have d1:decide (V.int (n.parts.length:Int)=V.int (Mth.nparts n.kind:Int))=true:=by rw[e1];simp
    rw[d1]
    rw[if_pos e1]at q1 q2
    refine iteT ?_
    refine⟨_,rfl,rd,_,_,rfl,R.rdr,rfl,H0,rd,t,L,s,41,rfl,R,fun s1 h1 H1 R1=>?_,fun hno=>q2 (by rw[hno];rfl)⟩
    rw[h1]at q1
    obtain⟨rfl,hp1⟩:=Mth.takeB_some h1
    obtain⟨n1,p1,hn1,hpp,⟨dx1,hni1⟩,hlp1⟩:=R1.node (i:=l) (W.ar l hmem)
    have en:n=n1:=Option.some.inj (hn.symm.trans hn1)
    subst en
    have ep:p=p1:=Option.some.inj (hp.symm.trans hpp)
    subst ep
    refine rdF rfl ⟨_,R1.rdr⟩ T.kRd T.nRd rfl ?_
    refine⟨_,rfl,p.1,A.cNd,dx1,_,rfl,hni1,T.kNd,T.nNd,(by show 8<1000;decide),?_⟩
    have R2:=R1.setN T.nd (g:=fun n=>{n with beh:=s.pl+1}) hp hn1 hni1 rfl But.put ⟨dx1,upd_same (o:=.ins A.cNd dx1 (putF "behind" (.int ((s.pl+1:Nat):Int)) (fRN n p.2)))⟩
    refine rdF rfl ⟨_,R2.rdr⟩ T.kRd T.nRd rfl ?_
    have hla2:=R2.around
    have hla2:_=some (HO.lst (natV ar0++[.int l])):=hla2.trans (by show some (HO.lst (natV s.ar))=_;rw[ear];simp[natV,natI])
    refine⟨.inl ⟨rfl,_,SqL.of hla2⟩,L.la,_,.int l,rfl,rfl,hla2,(by simp),?_⟩
    rw[List.dropLast_concat]
    have ed:s.ar.dropLast=ar0:=by rw[ear,List.dropLast_concat]
    have R3:=R2.setA (ar:=ar0) But.put upd_same
    refine q1 _ rfl _ L ?_
    show RdAt A H0 _ rd t L ⟨s.pl+1,s.ns.modify l _,s.ar.dropLast⟩
    rw[ed]
    exact R3
   ·have d1:decide (V.int (n.parts.length:Int)=V.int (Mth.nparts n.kind:Int))=false:=decide_eq_false fun z=>e1 (by injection z with z;omega)
    rw[d1]
    rw[if_neg e1]at q1 q2
    refine iteF ?_
    have fin:∀(H1:Hp) (s1:RS),RdAt A H0 H1 rd t L s1->WfR t s1->(if n.kind≠3\/0<n.parts.length then takeB t 32 s else some s)=some s1->(tDrop (tMeth A.cRd "begin_expression" (spWay A Mth.beginE) [] E (tVar 0) tNil)) {nx:=fun _ H'=>Q .non H',rt:=Q} [some (.ref rd),some (.ref p.1)] H1:=fun H1 s1 R1 W1 h1=>by
     rw[h1]at q1 q2
     exact⟨_,rfl,rd,_,_,rfl,R1.rdr,rfl,H0,rd,t,L,s1,rfl,R1,W1,q1,q2⟩
    have blank:(n.kind≠3\/0<n.parts.length)->(tDrop (tMeth A.cRd "take" (spTake A) [] E (tVar 0) (tCons (tC (.int 32)) tNil))) {nx:=(tDrop (tMeth A.cRd "begin_expression" (spWay A Mth.beginE) [] E (tVar 0) tNil)) {nx:=fun _ H'=>Q .non H',rt:=Q},rt:=Q} [some (.ref rd),some (.ref p.1)] H:=fun hc=>by
     refine⟨_,rfl,rd,_,_,rfl,R.rdr,rfl,H0,rd,t,L,s,32,rfl,R,fun s1 h1 H1 R1=>?_,fun hno=>q2 (by rw[if_pos hc,hno];rfl)⟩
     obtain⟨rfl,hp1⟩:=Mth.takeB_some h1
     exact fin H1 _ R1 (Mth.wf_place W hp1) (by rw[if_pos hc];exact h1)
    refine rdNe rfl ⟨dxn,hni⟩ T.kNd T.nNd rfl ?_
    by_cases k3:n.kind=3
    ·have d3:(!decide ((n.kind:Int)=3))=false:=by rw[k3];rfl
     show if(!decide ((n.kind:Int)=3))=true then _ else _
     rw[d3]
     refine iteF ?_
     refine rdF rfl ⟨dxn,hni⟩ T.kNd T.nNd rfl ?_
     refine⟨p.2,_,rfl,.inl (SqL.of hlp),_,_,rfl,rfl,_,rfl,?_⟩
     rw[natV_len]
     by_cases hz:0<n.parts.length
     ·have d4:decide ((0:Int)<(n.parts.length:Int))=true:=decide_eq_true (by omega)
      rw[d4]
      exact iteT (blank (.inr hz))
     ·have d4:decide ((0:Int)<(n.parts.length:Int))=false:=decide_eq_false (by omega)
      rw[d4]
      exact iteF (fin H s R W (by rw[if_neg (by omega)]))
    ·have d3:(!decide ((n.kind:Int)=3))=true:=by rw[decide_eq_false fun z=>k3 (by omega)];rfl
     show if(!decide ((n.kind:Int)=3))=true then _ else _
     rw[d3]
     refine iteT ?_
     exact iteT (blank (.inl k3))
def spRead (A:Ad):Sp:=fun vs H Q E=>∃(lt:Addr) (t:Tx),vs=[.ref lt]/\H lt=some (.lst (txV t))/\t.length<=2000/\(∀p,Vacfaa.programOf t=some p->∀H' ln,Same H H'->NodesX A (fun x=>H x≠none) H' ln ((Mth.ann [] 0 0 p).map Mth.rnOf)->Q (.ref ln) H')/\(Vacfaa.programOf t=none->∀H',Same H H'->E (.ref A.cNp) none H')
theorem scRead:FnScope ["text","reader"] ["text"] (defScope (top 57)):=⟨rfl,rfl,rfl,by decide +kernel,rfl,by decide +kernel,by decide +kernel⟩
theorem iter_one {t:Tx} {k:Nat} {o:Option RS} {s:RS} (h:Mth.iterR t k o=some s) (s':Option RS) (h2:Mth.goR t s=s'):Mth.iterR t (k+1) o=s':=by
 rw[Mth.iterR_add t k 1,h]
 exact h2
theorem go_done {t:Tx} {s:RS} (h:s.ar=[]):∀k,Mth.iterR t k (some s)=some s
 |0=>rfl
 |k+1=>by
  show Mth.iterR t k (Mth.goR t s)=some s
  have e:Mth.goR t s=some s:=by unfold Mth.goR;rw[h];rfl
  rw[e]
  exact go_done h k
theorem read_one {t:Tx} {k1 k2:Nat} {o:Option RS} {s:RS} {o2:Option RS} (h1:Mth.iterR t k1 o=some s) (hs:s.ar=[]) (h2:Mth.iterR t k2 o=o2) (ho:∀s2,o2=some s2->s2.ar=[]):o2=some s:=by
 rcases Nat.le_total k1 k2 with h|h
 ·obtain⟨j,rfl⟩:=Nat.le.dest h
  rw[Mth.iterR_add,h1,go_done hs]at h2
  exact h2.symm
 ·obtain⟨j,rfl⟩:=Nat.le.dest h
  rw[Mth.iterR_add,h2]at h1
  cases o2 with
  |none=>rw[Mth.iterR_none]at h1;cases h1
  |some s2=>rw[go_done (ho s2 rfl)]at h1;exact h1
theorem ok_read {f:Addr} {fd:FuncData} (T:Txt K w mg A) (TE:TxE K mg A) (F:Fun K "read_nodes" "read_nodes" (top 57) f fd) (gRd:KOk P w K mg base CX0 1 A.cRd "Reader" ["self","text"] (spRdI A)) (gBE:MOk P w K mg base (CX1 P w A.cNp) 7 A.cRd "begin_expression" ["self"] (spWay A Mth.beginE))
  (gGo:MOk P w K mg base (CX1 P w A.cNp) 8 A.cRd "go_on" ["self"] (spGoR A)):FnOk P w K mg base (CX1 P w A.cNp) 9 f fd ["text"] (spRead A):=by
 refine okX F scRead (fun vs H Q E h=>?_) (fun cdv AA outer sh H vs Q E hr h=>?_)
 ·obtain⟨lt,t,rfl,_⟩:=h
  rfl
 ·obtain⟨lt,t,rfl,ht,htl,q1,q2⟩:=h
  refine⟨_,pss_cons (ps_set (i:=1) scRead.nd rfl (Or.inl rfl) (pe_kk gRd hr (by decide) rfl pass0 (pa_cons (pv 0) pa_nil)))
   (pss_cons (ps_expr (pe_mm0 gBE T.kRd hr (by decide) (passes1 leaves_def) (pv 1)))
   (pss_cons (ps_while PassesOwn.leaving (pt_truth (pf (pv 1)) (fun _=>rfl)) (pss_one (ps_expr (pe_mm0 gGo T.kRd hr (by decide) (passes1 leaves_def) (pv 1)))))
   (pss_cons (ps_if (pt_cmpR op_lt (pf (pv 1)) (pe_callB call_len_seq (by rfl) (T.bl "len") bt_len (pa_cons (pv 0) pa_nil)) (nomark _)) (pss_one (ps_np leaves_def rfl TE)) pss_nil)
   (pss_one (ps_ret (pf (pv 1))))))),?_⟩
  refine⟨_,rfl,?_⟩
  intro rd dx nx nd ne
  refine⟨rd,dx,lt,rfl,upd_same,fun H1 ln la hr1 f1 f2 nla h1 h2 hb=>⟨rfl,?_⟩⟩
  have s1:Same H H1:=But.made nx nd hb
  have R1:RdAt A H H1 rd t ⟨dx,lt,ln,la,[]⟩ Mth.s0R:=by
   refine⟨s1,hr1,ht,h1,h2,fun i n h=>by simp[Mth.s0R]at h,rfl,List.nodup_nil,?_,nx,?_,fun p hp=>(nomatch hp)⟩
   ·simp[nla]
   ·intro a ha
    simp only[List.map_nil,List.mem_cons,List.not_mem_nil,or_false]at ha
    rcases ha with rfl|rfl
    ·exact free_made f1
    ·exact free_made f2
  have W1:WfR t Mth.s0R:=⟨fun l hl=>(nomatch hl),by decide,by decide,fun n hn=>(nomatch hn),Nat.zero_le _,htl,fun n hn=>(nomatch hn)⟩
  obtain⟨re1,re2⟩:=Mth.read_end t
  have bad:∀k,Mth.iterR t k (Mth.beginE t Mth.s0R)=none->∀H',Same H H'->E (.ref A.cNp) none H':=fun k hk=>by
   refine q2 ?_
   cases hp:Vacfaa.programOf t with
   |none=>rfl
   |some p=>
    obtain⟨k',hk'⟩:=re1 p hp
    have:=read_one hk' rfl hk (fun s2 z=>by cases z)
    cases this
  refine⟨_,rfl,rd,_,_,rfl,R1.rdr,rfl,H,rd,t,_,_,rfl,R1,W1,fun s2 h2 H2 L2 R2=>?_,fun hn=>bad 0 hn⟩
  obtain⟨W2,_⟩:=Mth.wf_begin W1 h2
  refine⟨fun m σ H'=>σ=[some (.ref lt),some (.ref rd)]/\∃L' s' k,RdAt A H H' rd t L' s'/\WfR t s'/\Mth.iterR t k (Mth.beginE t Mth.s0R)=some s'/\t.length-s'.pl=m,⟨_,rfl,L2,s2,0,R2,W2,h2,rfl⟩,?_⟩
  rintro m σ H3 ⟨rfl,L3,s3,k,R3,W3,hk,rfl⟩
  refine rdF rfl ⟨_,R3.rdr⟩ T.kRd T.nRd rfl ?_
  refine⟨_,.inl ⟨_,SqL.of R3.around,rfl⟩,?_⟩
  by_cases hne:s3.ar=[]
  ·have d:(!(natV s3.ar).isEmpty)=false:=by rw[hne];rfl
   rw[d]
   refine iteF ?_
   refine rdF rfl ⟨_,R3.rdr⟩ T.kRd T.nRd rfl ?_
   refine⟨_,rfl,lt,_,rfl,.inl (SqL.of (R3.same _ _ ht)),_,_,rfl,rfl,_,rfl,?_⟩
   rw[txV_len]
   by_cases hlt:s3.pl<t.length
   ·have d2:decide ((s3.pl:Int)<(t.length:Int))=true:=decide_eq_true (by omega)
    rw[d2]
    refine iteT (q2 ?_ _ R3.same)
    cases hp:Vacfaa.programOf t with
    |none=>rfl
    |some p=>
     obtain⟨k',hk'⟩:=re1 p hp
     have:=read_one hk' rfl hk (fun s2 z=>by cases z;exact hne)
     cases this
     exact absurd hlt (Nat.lt_irrefl _)
   ·have d2:decide ((s3.pl:Int)<(t.length:Int))=false:=decide_eq_false (by omega)
    rw[d2]
    refine iteF ?_
    refine rdF rfl ⟨_,R3.rdr⟩ T.kRd T.nRd rfl ?_
    cases hp:Vacfaa.programOf t with
    |none=>
     obtain⟨k',hk'|⟨s',hk',hs',hl'⟩⟩:=re2 hp
     ·have:=read_one hk hne hk' (fun s2 z=>by cases z)
      cases this
     ·have:=read_one hk hne hk' (fun s2 z=>by cases z;exact hs')
      cases this
      exact absurd hl' hlt
    |some p=>
     obtain⟨k',hk'⟩:=re1 p hp
     have:=read_one hk' rfl hk (fun s2 z=>by cases z;exact hne)
     cases this
     refine q1 p hp H3 L3.ln R3.same ⟨fun z=>z (R3.fl _ (by simp)),L3.ns.map (·.1),by rw[R3.nodes,List.map_map];rfl,by rw[List.length_map];exact R3.len,fun i n hn=>?_⟩
     obtain⟨pp,g1,g2,g3⟩:=R3.each i n hn
     exact⟨pp.1,pp.2,by rw[List.getElem?_map,g1];rfl,g2,g3,fun z=>z (R3.fl _ (List.mem_cons_of_mem _ (List.mem_cons_of_mem _ (List.mem_map.mpr ⟨pp,List.mem_of_getElem? g1,rfl⟩))))⟩
  ·have d:(!(natV s3.ar).isEmpty)=true:=by
    cases h:s3.ar with
    |nil=>exact absurd h hne
    |cons=>rfl
   rw[d]
   refine iteT ?_
   refine⟨fun σ' H'=>σ'=[some (.ref lt),some (.ref rd)]/\∃L' s',RdAt A H H' rd t L' s'/\Mth.goR t s3=some s',?_,?_⟩
   ·rintro σ' H' ⟨rfl,L',s',R',hg⟩
    obtain⟨W',hlt⟩:=Mth.wf_go W3 hne hg
    have:=W'.pl
    exact⟨t.length-s'.pl,by omega,rfl,L',s',k+1,R',W',iter_one hk _ hg,rfl⟩
   ·refine⟨_,rfl,rd,_,_,rfl,R3.rdr,rfl,H,rd,t,L3,s3,rfl,R3,W3,hne,fun s' hg H' L' R'=>⟨rfl,L',s',R',hg⟩,fun hn=>bad (k+1) (iter_one hk _ hn)⟩
end
end Fv
end
section
namespace Fv
open PySem PySem.Spec PyProof.Rows L2
open Mth (RN RS MS nsOf sz Prg)
open Vacfaa (runOf madeOf toldRun textOf)
abbrev Ex:=Vacfaa.Expr
theorem tab_ns (p:Ex):tabR (nsOf p)=Mth.tabOf p:=by
 funext l
 unfold tabR Mth.tabOf nsOf
 rw[List.getElem?_map]
 cases (Mth.ann [] 0 0 p)[l]?<;>rfl
theorem tabN_of {p:Ex} (PR:Prg p):TabN (nsOf p):=by
 refine⟨by rw[Mth.ns_len];exact Mth.sz_pos p,Mth.scN p,?_,Mth.sc_zero p⟩
 rw[tab_ns,Mth.ns_len]
 exact Mth.tab_ok PR
theorem run_is {p:Ex} (PR:Prg p) {inp k:Nat} (hf:(runS (nsOf p) inp k).fin≠none):(runS (nsOf p) inp k).m=Mth.erM (madeOf (runOf p inp))/\(runS (nsOf p) inp k).fin=some (toldRun (runOf p inp)):=by
 obtain⟨k',S,h1,h2,h3⟩:=Mth.run_ends PR inp
 have e:runS (nsOf p) inp k=S:=by
  have h0:runS (nsOf p) inp k=Mth.iterM (Mth.tabOf p) inp k (Mth.comeTo 0 [] [] Mth.startS):=by unfold runS;rw[tab_ns]
  rw[h0]at hf ⊢
  exact Mth.end_one rfl h1 hf (by rw[h3];simp)
 rw[e]
 exact⟨h2,h3⟩
def DeskAt (A:Ad) (H:Hp) (dk:Addr) (p:Ex) (inp:Nat):Prop:=Prg p/\(textOf p).length<=2000/\∃lt ln,InsAt A.cDk H dk (fDk lt ln inp)/\H lt=some (.lst (txV (textOf p)))/\NodesAt A H ln (nsOf p)
theorem DeskAt.same {A:Ad} {H H':Hp} {dk:Addr} {p:Ex} {inp:Nat} (D:DeskAt A H dk p inp) (s:Same H H'):DeskAt A H' dk p inp:=by
 obtain⟨PR,hT,lt,ln,h1,h2,h3⟩:=D
 exact⟨PR,hT,lt,ln,h1.same s,s _ _ h2,h3.same s⟩
def Tells (H:Hp) (Q:VK) (ans:List Int):Prop:=∀H' l,Same H H'->H l=none->H' l=some (.lst (ans.map V.int))->Q (.ref l) H'
theorem but_free {p l:Addr} {H H':Hp} {o:HO} (b:But p H H') (hp:H' p=some o) (h:H' l=none):H l=none:=by
 cases e:H l with
 |none=>rfl
 |some u=>
  have n:l≠p:=fun z=>by rw[z,hp]at h;cases h
  rw[b l u e n]at h
  cases h
def DeskX (A:Ad) (X:Addr->Prop) (H:Hp) (dk:Addr) (p:Ex) (inp:Nat):Prop:=Prg p/\(textOf p).length<=2000/\∃lt ln,InsAt A.cDk H dk (fDk lt ln inp)/\H lt=some (.lst (txV (textOf p)))/\¬X lt/\NodesX A X H ln (nsOf p)
theorem DeskX.at {A:Ad} {X:Addr->Prop} {H:Hp} {dk:Addr} {p:Ex} {inp:Nat} (D:DeskX A X H dk p inp):DeskAt A H dk p inp:=by
 obtain⟨PR,hT,lt,ln,h1,h2,_,h3⟩:=D
 exact⟨PR,hT,lt,ln,h1,h2,h3.at⟩
theorem DeskX.same {A:Ad} {X:Addr->Prop} {H H':Hp} {dk:Addr} {p:Ex} {inp:Nat} (D:DeskX A X H dk p inp) (s:Same H H'):DeskX A X H' dk p inp:=by
 obtain⟨PR,hT,lt,ln,h1,h2,hx,h3⟩:=D
 exact⟨PR,hT,lt,ln,h1.same s,s _ _ h2,hx,h3.same s⟩
def Ans (A:Ad) (X:Addr->Prop) (dk:Addr) (H:Hp) (Q:VK) (p:Ex) (inp:Nat) (ans:List Int):Prop:=∀H' l,DeskX A X H' dk p inp->But dk H H'->H l=none->H' l=some (.lst (ans.map V.int))->Q (.ref l) H'
theorem Ans.tells {A:Ad} {X:Addr->Prop} {dk:Addr} {H:Hp} {Q:VK} {p:Ex} {inp:Nat} {ans:List Int} (h:Ans A X dk H Q p inp ans) (D:DeskX A X H dk p inp):Tells H Q ans:=fun H' l s f e=>h H' l (D.same s) (fun b o z _=>s b o z) f e
section
variable {P:Program} {w:World} {K:PySem.W.Frag} {mg:Str->Option Value} {base:Heap} {A:Ad}
def spRun (P:Program) (w:World) (A:Ad):Sp:=fun vs H Q _=>∃(dk:Addr) (p:Ex) (inp:Nat),vs=[.ref dk]/\DeskAt A H dk p inp/\∀H' r ln L S,RunAt P w A H H' r ln inp L S->S.m=Mth.erM (madeOf (runOf p inp))->S.fin=some (toldRun (runOf p inp))->(S.m.heap.length<=300/\S.m.calls.length<=301/\S.m.flows.length<=300/\(∀c∈S.m.calls,c.ctx.length<=3)/\∀f∈S.m.flows,f.ctx.length<=3)->Q (.ref r) H'
theorem scRun:FnScope ["self"] ["self"] (defScope (inClass (top 65) 1)):=⟨rfl,rfl,rfl,by decide +kernel,rfl,by decide +kernel,by decide +kernel⟩
theorem ok_run {f:Addr} {fd:FuncData} (T:Txt K w mg A) (F:Fun K "run" "Desk.run" (inClass (top 65) 1) f fd) (gRu:DOk P w K mg base CX0 7 "run_program" ["nodes","given"] (spRunP P w A)):FnOk P w K mg base CX0 8 f fd ["self"] (spRun P w A):=by
 refine F.ok scRun (fun vs H Q E h=>?_) (fun cdv AA outer s H vs Q E hr h=>?_)
 ·obtain⟨dk,p,inp,rfl,_⟩:=h
  rfl
 ·obtain⟨dk,p,inp,rfl,⟨PR,hT,lt,ln,hd,ht,hn⟩,q⟩:=h
  refine⟨_,pss_one (ps_ret (pe_dd gRu hr (by decide) rfl pass0 (pa_cons (pf (pv 0)) (pa_cons (pf (pv 0)) pa_nil)))),?_⟩
  iterate 2 refine rdF rfl hd T.kDk T.nDk rfl ?_
  refine⟨ln,inp,nsOf p,rfl,hn,tabN_of PR,fun H' r L k R hok hf=>?_⟩
  obtain⟨e1,e2⟩:=run_is PR hf
  obtain⟨sc,ok⟩:=hok
  refine q H' r ln L _ R e1 e2 ?_
  have h1:=ok.st
  have h2:=ok.vf
  have h3:=ok.vh
  have h4:=ok.ca
  refine⟨by omega,?_,by omega,ok.cx,ok.fx⟩
  split at h4<;>omega
def spHas (A:Ad):Sp:=fun vs H Q _=>∃(dk:Addr) (p:Ex) (inp:Nat) (l:Int),vs=[.ref dk,.int l]/\DeskAt A H dk p inp/\Q (.bl (decide (0<=l/\l<sz p))) H
theorem scHas:FnScope ["self","label"] ["self","label"] (defScope (inClass (top 65) 2)):=⟨rfl,rfl,rfl,by decide +kernel,rfl,by decide +kernel,by decide +kernel⟩
theorem nodes_len {H:Hp} {ln:Addr} {ns:List RN} (N:NodesAt A H ln ns):∃as:List Addr,H ln=some (.lst (as.map V.ref))/\as.length=ns.length:=let⟨as,h1,h2,_⟩:=N.ex;⟨as,h1,h2⟩
theorem ok_has {f:Addr} {fd:FuncData} (T:Txt K w mg A) (F:Fun K "has_node" "Desk.has_node" (inClass (top 65) 2) f fd):FnOk P w K mg base CX0 1 f fd ["self","label"] (spHas A):=by
 refine F.ok scHas (fun vs H Q E h=>?_) (fun cdv AA outer s H vs Q E hr h=>?_)
 ·obtain⟨dk,p,inp,l,rfl,_⟩:=h
  rfl
 ·obtain⟨dk,p,inp,l,rfl,⟨PR,hT,lt,ln,hd,ht,hn⟩,q⟩:=h
  obtain⟨as,h1,h2⟩:=nodes_len hn
  refine⟨_,pss_one (ps_ret (pe_chain op_le op_lt pe_int (pv 1) (pe_callB call_len_seq (by rfl) (T.bl "len") bt_len (pa_cons (pf (pv 0)) pa_nil)))),?_⟩
  refine⟨_,rfl,_,_,rfl,rfl,_,rfl,?_⟩
  by_cases e1:0<=l
  ·have d:decide ((0:Int)<=l)=true:=decide_eq_true e1
   rw[d]
   refine iteT ?_
   refine rdF rfl hd T.kDk T.nDk rfl ?_
   refine⟨ln,_,rfl,.inl (SqL.of h1),_,_,rfl,rfl,?_⟩
   rw[List.length_map,h2,Mth.ns_len]
   have e2:decide (0<=l/\l<(sz p:Int))=decide (l<(sz p:Int)):=by
    by_cases z:l<(sz p:Int)
    ·rw[decide_eq_true z,decide_eq_true ⟨e1,z⟩]
    ·rw[decide_eq_false z,decide_eq_false fun y=>z y.2]
   rw[e2]at q
   exact q
  ·have d:decide ((0:Int)<=l)=false:=decide_eq_false e1
   rw[d]
   refine iteF ?_
   rw[decide_eq_false fun y=>e1 y.1]at q
   exact q
def labsK (p:Ex) (k:Nat):List Nat:=(List.range (sz p)).filter fun i=>decide ((((nsOf p)[i]?).map (·.kind))=some k)
def spLabs (A:Ad):Sp:=fun vs H Q _=>∃(dk:Addr) (p:Ex) (inp k:Nat),vs=[.ref dk,.int k]/\DeskAt A H dk p inp/\Tells H Q (natI (labsK p k))
theorem scLabs:FnScope ["self","kind","label","node"] ["self","kind"] (defScope (inClass (top 65) 3)):=⟨rfl,rfl,rfl,by decide +kernel,rfl,by decide +kernel,by decide +kernel⟩
theorem ok_labs {f:Addr} {fd:FuncData} (T:Txt K w mg A) (F:Fun K "labels_of" "Desk.labels_of" (inClass (top 65) 3) f fd):FnOk P w K mg base CX0 1 f fd ["self","kind"] (spLabs A):=by
 refine F.ok scLabs (fun vs H Q E h=>?_) (fun cdv AA outer s H vs Q E hr h=>?_)
 ·obtain⟨dk,p,inp,k,rfl,_⟩:=h
  rfl
 ·obtain⟨dk,p,inp,k,rfl,⟨PR,hT,lt,ln,hd,ht,hn⟩,q⟩:=h
  obtain⟨as,h1,h2,h3⟩:=hn.ex
  refine⟨_,pss_one (ps_ret (pe_lc (own:=[("label",2),("node",3)]) (g:=gTup K 2 (gCons (gName 2) (gCons (gName 3) gNil))) (tt:=tTest (tOp rEq (tF K (tVar 3) "kind") (tVar 1))) (te:=tVar 2) rfl scLabs.nd (pi_enum (by rfl) (T.bl "enumerate") (pa_cons (pf (pv 0)) pa_nil)) (blkOk_by rfl)
   (fun s H C cl fp=>pg_tup rfl (pgs_cons (pg_name (i:=2) scLabs.nd rfl (Or.inl rfl)) (pgs_cons (pg_name (i:=3) scLabs.nd rfl (Or.inl rfl)) pgs_nil)))
   (fun s H C cl fp=>pts_one (pt_cmpR op_eq (pf (pv 3)) (pv 1) (nomark _))) (fun s H C cl fp=>pv 2))),?_⟩
  refine rdF rfl hd T.kDk T.nDk rfl ?_
  refine⟨ln,_,rfl,SqL.of h1,fun D hD=>?_⟩
  have fil:∀i,(List.range (i+1)).filter (fun i=>decide ((((nsOf p)[i]?).map (·.kind))=some k))=(List.range i).filter (fun i=>decide ((((nsOf p)[i]?).map (·.kind))=some k))++(if((nsOf p)[i]?).map (·.kind)=some k then[i]else[]):=fun i=>by
   rw[List.range_succ,List.filter_append,List.filter_cons,List.filter_nil]
   congr 1
   by_cases e:((nsOf p)[i]?).map (·.kind)=some k<;>simp[e]
  refine⟨fun i m H'=>m=as.length-i/\i<=as.length/\Same H H'/\H' D=some (.lst (natV ((List.range i).filter fun i=>decide ((((nsOf p)[i]?).map (·.kind))=some k)))),⟨_,rfl,Nat.zero_le _,same_new hD,upd_same⟩,?_⟩
  rintro i m H2 ⟨rfl,hi,s2,hD2⟩
  by_cases hlt:i<as.length
  ·obtain⟨a0,ha0⟩:=Mth.some_at hlt
   refine .inr ⟨⟨_,.ref a0,SqL.of (s2 _ _ h1),by rw[List.getElem?_map,ha0];rfl⟩,fun H'=>Same H H'/\H' D=some (.lst (natV ((List.range (i+1)).filter fun i=>decide ((((nsOf p)[i]?).map (·.kind))=some k)))),fun H' z=>⟨_,by omega,rfl,hlt,z.1,z.2⟩,?_⟩
   rintro x H3 ⟨tp,y,rfl,htp,rfl,hy⟩
   have ey:=hy _ (SqL.of (s2 _ _ h1))
   rw[List.getElem?_map,ha0]at ey
   have ey:V.ref a0=y:=Option.some.inj ey
   subst ey
   obtain⟨n,hni⟩:=Mth.some_at (l:=nsOf p) (i:=i) (by rw[<-h2];exact hlt)
   obtain⟨a,lp,k1,k2,k3⟩:=h3 i n hni
   rw[ha0]at k1
   cases k1
   have s3:Same H (upd H2 tp (.tup [.int (i:Nat),.ref a0])):=s2.trans (same_new htp)
   have hD3:(upd H2 tp (.tup [.int (i:Nat),.ref a0])) D=some (.lst (natV ((List.range i).filter fun i=>decide ((((nsOf p)[i]?).map (·.kind))=some k)))):=same_new htp _ _ hD2
   refine⟨tp,_,rfl,SqT.of upd_same,rfl,_,_,rfl,_,_,rfl,rfl,rfl,?_⟩
   refine rdF rfl (k2.same s3) T.kNd T.nNd rfl ?_
   refine⟨_,rfl,rfl,_,rfl,?_⟩
   have ed:decide (V.int (n.kind:Int)=V.int (k:Int))=decide (n.kind=k):=by
    by_cases e:n.kind=k
    ·rw[e];simp
    ·rw[decide_eq_false e,decide_eq_false fun z=>e (by injection z with z;omega)]
   rw[ed,fil,hni]
   by_cases e:n.kind=k
   ·rw[decide_eq_true e]
    refine iteT ?_
    refine⟨_,rfl,_,hD3,?_,?_,?_⟩
    ·rw[natV_len]
     refine Nat.lt_of_le_of_lt (List.length_filter_le _ _) ?_
     rw[List.length_range]
     have:=PR.few
     rw[h2,Mth.ns_len]at hlt
     exact Nat.lt_of_lt_of_le hlt (Nat.le_trans this (by decide))
    ·exact fun c o e'=>by rw[upd_ne (ne_of_none e' hD)];exact s3 c o e'
    ·rw[upd_same]
     simp[e,natV,natI]
   ·rw[decide_eq_false e]
    refine iteF ?_
    refine⟨s3,?_⟩
    rw[hD3]
    simp[e]
  ·have ei:i=as.length:=by omega
   subst ei
   refine .inl ⟨⟨_,SqL.of (s2 _ _ h1),by rw[List.length_map];exact Nat.le_refl _⟩,q H2 D s2 hD ?_⟩
   rw[hD2]
   unfold labsK
   rw[h2,Mth.ns_len]
   rfl
end
end Fv
end
section
namespace Fv
open PySem PySem.Spec PyProof.Rows L2
open Mth (RN RS MS nsOf sz Prg)
open Vacfaa (runOf madeOf toldRun textOf toldText toldOpt kindOf binderOf funsOf sitesOf nodeAt labelOf toldNats objLabel)
section
variable {P:Program} {w:World} {K:PySem.W.Frag} {mg:Str->Option Value} {base:Heap} {A:Ad}
def spText (A:Ad):Sp:=fun vs H Q _=>∃(dk:Addr) (p:Ex) (inp:Nat),vs=[.ref dk]/\DeskAt A H dk p inp/\Tells H Q (natI (toldText (textOf p)))
theorem scText:FnScope ["self"] ["self"] (defScope (inClass (top 65) 5)):=⟨rfl,rfl,rfl,by decide +kernel,rfl,by decide +kernel,by decide +kernel⟩
theorem ok_text {f:Addr} {fd:FuncData} (T:Txt K w mg A) (F:Fun K "tell_text" "Desk.tell_text" (inClass (top 65) 5) f fd):FnOk P w K mg base CX0 1 f fd ["self"] (spText A):=by
 refine F.ok scText (fun vs H Q E h=>?_) (fun cdv AA outer s H vs Q E hr h=>?_)
 ·obtain⟨dk,p,inp,rfl,_⟩:=h
  rfl
 ·obtain⟨dk,p,inp,rfl,⟨PR,hT,lt,ln,hd,ht,hn⟩,q⟩:=h
  refine⟨_,pss_one (ps_ret (pe_op op_cat (pe_lst (pa_cons (pe_callB call_len_seq (by rfl) (T.bl "len") bt_len (pa_cons (pf (pv 0)) pa_nil)) pa_nil)) (pf (pv 0)))),?_⟩
  refine rdF rfl hd T.kDk T.nDk rfl ?_
  refine⟨lt,_,rfl,.inl (SqL.of ht),(by show 1<=sizeLine;decide),fun l1 g1=>?_⟩
  have s1:Same H (upd H l1 (.lst [.int (txV (textOf p)).length])):=same_new g1
  refine rdF rfl (hd.same s1) T.kDk T.nDk rfl ?_
  refine⟨l1,lt,_,_,rfl,rfl,upd_same,s1 _ _ ht,?_,fun l2 g2=>?_⟩
  ·rw[txV_len]
   exact Nat.le_trans (Nat.add_le_add_left hT 1) (by decide)
  ·refine q _ l2 (s1.trans (same_new g2)) (s1.free g2) ?_
   rw[upd_same,txV_len]
   simp[toldText,natI,txV,natV]
inductive spGiven (A:Ad) (vs:List V) (H:Hp) (Q:VK) (E:XK):Prop
 |mk (X:Addr->Prop) (dk:Addr) (p:Ex) (inp:Nat) (g:Int) (_:vs=[.ref dk,.int g]) (_:DeskX A X H dk p inp) (_:g<0\/10<=g->Ans A X dk H Q p inp [-2]) (_:¬(g<0\/10<=g)->Ans A X dk H Q p g.toNat [(inp:Int)])
theorem scGiven:FnScope ["self","given","before"] ["self","given"] (defScope (inClass (top 65) 6)):=⟨rfl,rfl,rfl,by decide +kernel,rfl,by decide +kernel,by decide +kernel⟩
theorem cls_dk (nC:A.cls.Nodup):A.cDk≠A.cNd:=by
 simp only[Ad.cls,List.nodup_cons,List.mem_cons,List.not_mem_nil,or_false,not_or]at nC
 obtain⟨⟨_,_,_,_,_,_,h⟩,_⟩:=nC
 exact fun e=>h e.symm
theorem nodes_but {H H':Hp} {dk ln dx:Addr} {ns:List RN} {fs:List (Str×V)} (nC:A.cls.Nodup) (N:NodesAt A H ln ns) (hd:H dk=some (.ins A.cDk dx fs)) (b:But dk H H'):NodesAt A H' ln ns:=by
 obtain⟨as,h1,h2,h3⟩:=N.ex
 refine⟨as,b _ _ h1 (ne_of h1 hd (by intro z;cases z)),h2,fun i n hn=>?_⟩
 obtain⟨a,lp,k1,k2,k3⟩:=h3 i n hn
 exact⟨a,lp,k1,b.ins hd (by intro dx z;injection z with z1;exact cls_dk nC z1.symm) k2,b _ _ k3 (ne_of k3 hd (by intro z;cases z))⟩
theorem nodesX_but {X:Addr->Prop} {H H':Hp} {dk ln dx:Addr} {ns:List RN} {fs:List (Str×V)} (nC:A.cls.Nodup) (N:NodesX A X H ln ns) (hd:H dk=some (.ins A.cDk dx fs)) (b:But dk H H'):NodesX A X H' ln ns:=by
 obtain⟨h0,as,h1,h2,h3⟩:=N
 refine⟨h0,as,b _ _ h1 (ne_of h1 hd (by intro z;cases z)),h2,fun i n hn=>?_⟩
 obtain⟨a,lp,k1,k2,k3,k4⟩:=h3 i n hn
 exact⟨a,lp,k1,b.ins hd (by intro dx z;injection z with z1;exact cls_dk nC z1.symm) k2,b _ _ k3 (ne_of k3 hd (by intro z;cases z)),k4⟩
theorem ok_given {f:Addr} {fd:FuncData} (T:Txt K w mg A) (F:Fun K "take_given" "Desk.take_given" (inClass (top 65) 6) f fd):FnOk P w K mg base CX0 1 f fd ["self","given"] (spGiven A):=by
 refine F.ok scGiven (fun vs H Q E h=>?_) (fun cdv AA outer s H vs Q E hr h=>?_)
 ·obtain⟨X,dk,p,inp,g,rfl,_⟩:=h
  rfl
 ·obtain⟨X,dk,p,inp,g,rfl,D,q1,q2⟩:=h
  obtain⟨PR,hT,lt,ln,⟨dx,hd⟩,ht,hxt,hn⟩:=id D
  refine⟨_,pss_cons (ps_if (pt_not (pt_chain op_le op_le pe_int (pv 1) (gi T 9))) (pss_one (ps_ret (pe_lst (pa_cons (gi T (-2)) pa_nil)))) pss_nil)
   (pss_cons (ps_set (i:=2) scGiven.nd rfl (Or.inl rfl) (pf (pv 0))) (pss_cons (ps_fld (pv 0) (pv 1) rfl) (pss_one (ps_ret (pe_lst (pa_cons (pv 2) pa_nil)))))),?_⟩
  have bad:(g<0\/10<=g)->(tRet (tLst (tCons (tC (.int (-2))) tNil))) {nx:=(tSeq (tAsg (tF K (tVar 0) "given") (gName 2)) (tSeq (sFld K (tVar 0) (tVar 1) "given") (tRet (tLst (tCons (tVar 2) tNil))))) {nx:=fun _ H'=>Q .non H',rt:=Q},rt:=Q} [some (.ref dk),some (.int g),none] H:=fun h=>by
   refine⟨(by show 1<=sizeLine;decide),fun l hl=>?_⟩
   exact(q1 h).tells D _ l (same_new hl) hl upd_same
  have good:¬(g<0\/10<=g)->(tSeq (tAsg (tF K (tVar 0) "given") (gName 2)) (tSeq (sFld K (tVar 0) (tVar 1) "given") (tRet (tLst (tCons (tVar 2) tNil))))) {nx:=fun _ H'=>Q .non H',rt:=Q} [some (.ref dk),some (.int g),none] H:=fun h=>by
   refine rdF rfl ⟨dx,hd⟩ T.kDk T.nDk rfl ?_
   refine⟨_,rfl,_,rfl,dk,A.cDk,dx,_,rfl,hd,T.kDk,T.nDk,(by show 3<1000;decide),?_⟩
   refine⟨_,rfl,(by show 1<=sizeLine;decide),fun l hl=>?_⟩
   have eg:g=((g.toNat:Nat):Int):=by omega
   have hfs:putF "given" (.int g) (fDk lt ln inp)=fDk lt ln (g.toNat:Nat):=by rw[<-eg];rfl
   have b1:But dk H (upd H dk (.ins A.cDk dx (putF "given" (.int g) (fDk lt ln inp)))):=But.put
   have D2:DeskX A X (upd H dk (.ins A.cDk dx (putF "given" (.int g) (fDk lt ln inp)))) dk p g.toNat:=⟨PR,hT,lt,ln,⟨dx,by rw[upd_same,hfs]⟩,b1 _ _ ht (ne_of ht hd (by intro z;cases z)),hxt,nodesX_but T.nd hn hd b1⟩
   exact q2 h _ l (D2.same (same_new hl)) (b1.trans fun b o e _=>same_new hl b o e) (but_free b1 upd_same hl) upd_same
  refine⟨_,rfl,_,_,rfl,rfl,_,rfl,?_⟩
  by_cases e1:0<=g
  ·have d:decide ((0:Int)<=g)=true:=decide_eq_true e1
   rw[d]
   refine iteT ?_
   refine⟨_,_,rfl,rfl,_,rfl,?_⟩
   by_cases e2:g<=9
   ·rw[decide_eq_true e2]
    exact iteF (good (by omega))
   ·rw[decide_eq_false e2]
    exact iteT (bad (by omega))
  ·have d:decide ((0:Int)<=g)=false:=decide_eq_false e1
   rw[d]
   exact iteF ⟨_,rfl,iteT (bad (by omega))⟩
def spTRun (A:Ad):Sp:=fun vs H Q _=>∃(dk:Addr) (p:Ex) (inp:Nat),vs=[.ref dk]/\DeskAt A H dk p inp/\Tells H Q (natI (toldRun (runOf p inp)))
theorem scTRun:FnScope ["self"] ["self"] (defScope (inClass (top 65) 7)):=⟨rfl,rfl,rfl,by decide +kernel,rfl,by decide +kernel,by decide +kernel⟩
theorem ok_trun {f:Addr} {fd:FuncData} (T:Txt K w mg A) (F:Fun K "tell_run" "Desk.tell_run" (inClass (top 65) 7) f fd) (gRu:MOk P w K mg base CX0 8 A.cDk "run" ["self"] (spRun P w A)):FnOk P w K mg base CX0 9 f fd ["self"] (spTRun A):=by
 refine F.ok scTRun (fun vs H Q E h=>?_) (fun cdv AA outer s H vs Q E hr h=>?_)
 ·obtain⟨dk,p,inp,rfl,_⟩:=h
  rfl
 ·obtain⟨dk,p,inp,rfl,D,q⟩:=h
  obtain⟨PR,hT,lt,ln,⟨dx,hd⟩,ht,hn⟩:=id D
  refine⟨_,pss_one (ps_ret (pf (pe_mm0 gRu T.kDk hr (by decide) pass0 (pv 0)))),?_⟩
  refine rdU ?_
  refine⟨_,rfl,dk,_,_,rfl,hd,rfl,dk,p,inp,rfl,D,fun H1 r ln' L S R e1 e2 _=>?_⟩
  refine⟨r,A.cRn,_,_,_,rfl,R.run,T.kRn,T.nRn,rfl,?_⟩
  refine q H1 L.le R.same R.fle ?_
  rw[R.ending,e2]
  rfl
def spNode (A:Ad):Sp:=fun vs H Q _=>∃(dk:Addr) (p:Ex) (inp:Nat) (l:Int),vs=[.ref dk,.int l]/\DeskAt A H dk p inp/\(¬(0<=l/\l<sz p)->Tells H Q [-3])/\(∀e,0<=l->(Vacfaa.nodesOf p)[l.toNat]?=some e->Tells H Q (natI (kindOf e::(toldText (textOf e)++[toldOpt (binderOf p l.toNat)]))))
theorem scNode:FnScope ["self","label","node","text"] ["self","label"] (defScope (inClass (top 65) 12)):=⟨rfl,rfl,rfl,by decide +kernel,rfl,by decide +kernel,by decide +kernel⟩
theorem node_ann {p:Ex} {i:Nat} {a:Mth.Ann} (h:(Mth.ann [] 0 0 p)[i]?=some a):(Vacfaa.nodesOf p)[i]?=some a.e:=by
 rw[<-Mth.ann_nodes p [] 0 0,List.getElem?_map,h]
 rfl
theorem ok_node {f:Addr} {fd:FuncData} (T:Txt K w mg A) (F:Fun K "tell_node" "Desk.tell_node" (inClass (top 65) 12) f fd) (gHa:MOk P w K mg base CX0 1 A.cDk "has_node" ["self","label"] (spHas A)):FnOk P w K mg base CX0 2 f fd ["self","label"] (spNode A):=by
 refine F.ok scNode (fun vs H Q E h=>?_) (fun cdv AA outer s H vs Q E hr h=>?_)
 ·obtain⟨dk,p,inp,l,rfl,_⟩:=h
  rfl
 ·obtain⟨dk,p,inp,l,rfl,D,q1,q2⟩:=h
  obtain⟨PR,hT,lt,ln,⟨dx,hd⟩,ht,hn⟩:=id D
  refine⟨_,pss_cons (ps_if (pt_not (pt_val (pe_mm gHa T.kDk hr (by decide) pass0 (pv 0) (pa_cons (pv 1) pa_nil)))) (pss_one (ps_ret (pe_lst (pa_cons (gi T (-3)) pa_nil)))) pss_nil)
   (pss_cons (ps_set (i:=2) scNode.nd rfl (Or.inl rfl) (pe_ix ix_list (pf (pv 0)) (pv 1) (fun _ _=>rfl)))
   (pss_cons (ps_set (i:=3) scNode.nd rfl (Or.inl rfl) (pe_slice sl_list (pf (pv 0)) (po_some (pf (pv 2))) (po_some (pf (pv 2)))))
   (pss_one (ps_ret (pe_op op_cat (pe_op op_cat (pe_lst (pa_cons (pf (pv 2)) (pa_cons (pe_callB call_len_seq (by rfl) (T.bl "len") bt_len (pa_cons (pv 3) pa_nil)) pa_nil))) (pv 3)) (pe_lst (pa_cons (pe_op op_add (pf (pv 2)) pe_int) pa_nil))))))),?_⟩
  refine⟨_,rfl,dk,_,_,rfl,hd,rfl,_,rfl,dk,p,inp,l,rfl,D,_,rfl,?_⟩
  by_cases e:0<=l/\l<sz p
  ·rw[decide_eq_true e]
   refine iteF ?_
   obtain⟨j,rfl⟩:∃j:Nat,l=(j:Int):=⟨l.toNat,by omega⟩
   have hj:j<sz p:=by omega
   obtain⟨a,ha⟩:=Mth.some_at (l:=Mth.ann [] 0 0 p) (i:=j) (by rw[Mth.ann_len];exact hj)
   have RO:=Mth.rows_prg PR j a ha
   have hns:(nsOf p)[j]?=some (Mth.rnOf a):=by unfold nsOf;rw[List.getElem?_map,ha];rfl
   obtain⟨as,h1,h2,h3⟩:=hn.ex
   obtain⟨an,lp,k1,k2,k3⟩:=h3 j _ hns
   have q:=q2 a.e (by omega) (by rw[Int.toNat_natCast];exact node_ann ha)
   rw[Int.toNat_natCast,Mth.binder_at PR ha]at q
   refine rdF rfl ⟨dx,hd⟩ T.kDk T.nDk rfl ?_
   refine⟨_,rfl,ln,_,_,.ref an,rfl,rfl,SqL.of h1,atI_nat (by rw[List.getElem?_map,k1];rfl),?_⟩
   refine rdF rfl ⟨dx,hd⟩ T.kDk T.nDk rfl ?_
   refine rdF rfl k2 T.kNd T.nNd rfl ?_
   refine⟨_,rfl,?_⟩
   refine rdF rfl k2 T.kNd T.nNd rfl ?_
   refine⟨_,rfl,lt,_,rfl,SqL.of ht,fun l1 g1=>?_⟩
   obtain⟨r,htx⟩:=RO.txt
   have ecut:cutV (txV (textOf p)) (some ((Mth.rnOf a).beg:Int)) (some ((Mth.rnOf a).beh:Int))=txV (textOf a.e):=by
    show cutV (txV (textOf p)) (some (a.pos:Int)) (some ((a.pos+(textOf a.e).length:Nat):Int))=_
    have hlen:=congrArg List.length htx
    rw[List.length_drop,List.length_append]at hlen
    unfold cutV
    rw[HT.sIx_nat,HT.sIx_nat,txV_len]
    by_cases z:a.pos<=(textOf p).length
    ·rw[Nat.min_eq_left z,Nat.min_eq_left (by omega),Nat.add_sub_cancel_left]
     unfold txV natV natI
     rw[<-List.map_drop,<-List.map_drop,<-List.map_drop,<-List.map_take,<-List.map_take,<-List.map_take,htx,List.take_left]
    ·have hz:textOf a.e=[]:=List.length_eq_zero_iff.mp (by omega)
     rw[hz,List.drop_eq_nil_of_le (by rw[txV_len,Nat.min_eq_right (by omega)];exact Nat.le_refl _)]
     simp[txV,natV,natI]
   have hel:(textOf a.e).length<=2000:=by
    have hlen:=congrArg List.length htx
    rw[List.length_drop,List.length_append]at hlen
    omega
   rw[ecut]
   have s1:Same H (upd H l1 (.lst (txV (textOf a.e)))):=same_new g1
   refine rdF rfl (k2.same s1) T.kNd T.nNd rfl ?_
   refine⟨_,rfl,l1,_,rfl,.inl (SqL.of upd_same),(by show 2<=sizeLine;decide),fun l2 g2=>?_⟩
   rw[txV_len]
   have s2:=s1.trans (same_new (o:=.lst [.int ((Mth.rnOf a).kind:Int),.int ((textOf a.e).length:Int)]) g2)
   have h21:(upd (upd H l1 (.lst (txV (textOf a.e)))) l2 (.lst [.int ((Mth.rnOf a).kind:Int),.int ((textOf a.e).length:Int)])) l1=some (.lst (txV (textOf a.e))):=same_new g2 _ _ upd_same
   refine⟨_,rfl,l2,l1,_,_,rfl,rfl,upd_same,h21,(by rw[txV_len];exact Nat.le_trans (Nat.add_le_add_left hel 2) (by decide)),fun l3 g3=>?_⟩
   have s3:=s2.trans (same_new (o:=.lst ([.int ((Mth.rnOf a).kind:Int),.int ((textOf a.e).length:Int)]++txV (textOf a.e))) g3)
   refine rdF rfl (k2.same s3) T.kNd T.nNd rfl ?_
   refine⟨_,_,rfl,rfl,(by show 1<=sizeLine;decide),fun l4 g4=>?_⟩
   refine⟨l3,l4,_,_,rfl,rfl,same_new g4 _ _ upd_same,upd_same,?_,fun l5 g5=>?_⟩
   ·rw[List.length_append,txV_len]
    have:(2+2000)+1<=sizeLine:=by decide
    simp only[List.length_cons,List.length_nil]
    omega
   refine q _ l5 ((s3.trans (same_new g4)).trans (same_new g5)) ((s3.trans (same_new g4)).free g5) ?_
   rw[upd_same]
   have eb:biI (Mth.bndOf a.sc a.e)+1=((toldOpt (Mth.bndOf a.sc a.e):Nat):Int):=by
    cases Mth.bndOf a.sc a.e with
    |none=>rfl
    |some b=>rfl
   show some (HO.lst (([.int (Vacfaa.kindOf a.e:Nat),.int ((textOf a.e).length:Int)]++txV (textOf a.e))++[.int (biI (Mth.bndOf a.sc a.e)+1)]))=_
   rw[eb]
   simp[toldText,natI,txV,natV]
  ·rw[decide_eq_false e]
   refine iteT ?_
   refine⟨(by show 1<=sizeLine;decide),fun l1 g1=>?_⟩
   exact q1 e _ l1 (same_new g1) g1 upd_same
end
end Fv
end
section
namespace Fv
open PySem PySem.Spec PyProof.Rows L2
open Mth (RN RS MS nsOf sz Prg)
open Vacfaa (runOf madeOf toldRun textOf toldText toldOpt kindOf binderOf funsOf sitesOf nodeAt labelOf toldNats objLabel arrowsOf callsOf flowsOf Arrow Call Flow)
theorem rev_ind {α:Type} {M:List α->Prop} (h0:M []) (h1:∀l x,M l->M (l++[x])) (l:List α):M l:=by
 have:∀r:List α,M r.reverse:=fun r=>by
  induction r with
  |nil=>exact h0
  |cons a r ih=>rw[List.reverse_cons];exact h1 _ _ ih
 have h:=this l.reverse
 rw[List.reverse_reverse]at h
 exact h
theorem ed_map {α β:Type} [DecidableEq α] [DecidableEq β] {f:α->β} (inj:∀a b,f a=f b->a=b) (l:List α):(l.map f).eraseDups=l.eraseDups.map f:=by
 induction l using rev_ind with
 |h0=>rfl
 |h1 l x ih=>
  rw[List.map_append,List.map_singleton,ed_snoc,ed_snoc,ih]
  by_cases h:x∈l
  ·rw[if_pos h,if_pos (List.mem_map_of_mem h)]
  ·rw[if_neg h,if_neg,List.map_append]
   ·rfl
   ·intro z
    obtain⟨y,hy,e⟩:=List.mem_map.mp z
    rw[inj _ _ e]at hy
    exact h hy
theorem ed_len {α:Type} [DecidableEq α] (l:List α):l.eraseDups.length<=l.length:=by
 induction l using rev_ind with
 |h0=>exact Nat.le_refl _
 |h1 l x ih=>
  rw[ed_snoc,List.length_append]
  split
  ·exact Nat.le_trans ih (Nat.le_add_right _ _)
  ·rw[List.length_append]
   exact Nat.add_le_add_right ih _
theorem put_keys {κ:Type} [DecidableEq κ] (kvs:List (κ×V)) (k:κ) (v:V):(putK kvs k v).map (·.1)=if k∈kvs.map (·.1)then kvs.map (·.1)else kvs.map (·.1)++[k]:=by
 unfold putK
 have e:(kvs.any fun kv=>decide (kv.1=k))=true↔k∈kvs.map (·.1):=by
  rw[List.any_eq_true]
  constructor
  ·rintro⟨p,hp,e⟩
   exact List.mem_map.mpr ⟨p,hp,of_decide_eq_true e⟩
  ·intro h
   obtain⟨p,hp,e⟩:=List.mem_map.mp h
   exact⟨p,hp,decide_eq_true e⟩
 by_cases h:k∈kvs.map (·.1)
 ·rw[if_pos h,if_pos (e.mpr h),List.map_map]
  refine List.map_congr_left fun p _=>?_
  show(if p.1=k then(p.1,v)else p).1=p.1
  split<;>rfl
 ·rw[if_neg h,if_neg fun z=>h (e.mp z),List.map_append]
  rfl
section
variable {P:Program} {w:World} {K:PySem.W.Frag} {mg:Str->Option Value} {base:Heap} {A:Ad}
def spLab (A:Ad) (g:Ex->List Nat):Sp:=fun vs H Q _=>∃(dk:Addr) (p:Ex) (inp:Nat),vs=[.ref dk]/\DeskAt A H dk p inp/\Tells H Q (natI (toldNats (g p)))
theorem scFuns:FnScope ["self","funs"] ["self"] (defScope (inClass (top 65) 13)):=⟨rfl,rfl,rfl,by decide +kernel,rfl,by decide +kernel,by decide +kernel⟩
theorem labs_len (p:Ex) (k:Nat):(labsK p k).length<=sz p:=by
 unfold labsK
 refine Nat.le_trans (List.length_filter_le _ _) ?_
 rw[List.length_range]
 exact Nat.le_refl _
theorem ok_funs {f:Addr} {fd:FuncData} (T:Txt K w mg A) (F:Fun K "tell_funs" "Desk.tell_funs" (inClass (top 65) 13) f fd) (gLa:MOk P w K mg base CX0 1 A.cDk "labels_of" ["self","kind"] (spLabs A)):FnOk P w K mg base CX0 2 f fd ["self"] (spLab A funsOf):=by
 refine F.ok scFuns (fun vs H Q E h=>?_) (fun cdv AA outer s H vs Q E hr h=>?_)
 ·obtain⟨dk,p,inp,rfl,_⟩:=h
  rfl
 ·obtain⟨dk,p,inp,rfl,D,q⟩:=h
  obtain⟨PR,hT,lt,ln,⟨dx,hd⟩,ht,hn⟩:=id D
  refine⟨_,pss_cons (ps_set (i:=1) scFuns.nd rfl (Or.inl rfl) (pe_mm gLa T.kDk hr (by decide) pass0 (pv 0) (pa_cons (gi T 2) pa_nil)))
   (pss_one (ps_ret (pe_op op_cat (pe_lst (pa_cons (pe_callB call_len_seq (by rfl) (T.bl "len") bt_len (pa_cons (pv 1) pa_nil)) pa_nil)) (pv 1)))),?_⟩
  have hl:=labs_len p 2
  have hf:=PR.few
  refine⟨_,rfl,dk,_,_,rfl,hd,rfl,dk,p,inp,2,rfl,D,fun H1 l1 s1 f1 e1=>?_⟩
  refine⟨_,rfl,l1,_,rfl,.inl (SqL.of e1),(by show 1<=sizeLine;decide),fun l2 g2=>?_⟩
  refine⟨_,rfl,l2,l1,_,_,rfl,rfl,upd_same,same_new g2 _ _ e1,?_,fun l3 g3=>?_⟩
  ·rw[List.length_map]
   show 1+(natI (labsK p 2)).length<=sizeLine
   rw[natI,List.length_map]
   exact Nat.le_trans (Nat.add_le_add_left (Nat.le_trans hl hf) 1) (by decide)
  ·refine q _ l3 ((s1.trans (same_new g2)).trans (same_new g3)) ((s1.trans (same_new g2)).free g3) ?_
   rw[upd_same,Mth.funs_of PR]
   show some (HO.lst ([V.int ((natI (labsK p 2)).map V.int).length]++(natI (labsK p 2)).map V.int))=some (HO.lst ((natI (toldNats (labsK p 2))).map V.int))
   simp[toldNats,natI]
theorem scSites:FnScope ["self","sites"] ["self"] (defScope (inClass (top 65) 14)):=⟨rfl,rfl,rfl,by decide +kernel,rfl,by decide +kernel,by decide +kernel⟩
theorem ok_sites {f:Addr} {fd:FuncData} (T:Txt K w mg A) (F:Fun K "tell_sites" "Desk.tell_sites" (inClass (top 65) 14) f fd) (gLa:MOk P w K mg base CX0 1 A.cDk "labels_of" ["self","kind"] (spLabs A)):FnOk P w K mg base CX0 2 f fd ["self"] (spLab A sitesOf):=by
 refine F.ok scSites (fun vs H Q E h=>?_) (fun cdv AA outer s H vs Q E hr h=>?_)
 ·obtain⟨dk,p,inp,rfl,_⟩:=h
  rfl
 ·obtain⟨dk,p,inp,rfl,D,q⟩:=h
  obtain⟨PR,hT,lt,ln,⟨dx,hd⟩,ht,hn⟩:=id D
  refine⟨_,pss_cons (ps_set (i:=1) scSites.nd rfl (Or.inl rfl) (pe_mm gLa T.kDk hr (by decide) pass0 (pv 0) (pa_cons (gi T 3) pa_nil)))
   (pss_one (ps_ret (pe_op op_cat (pe_lst (pa_cons (pe_callB call_len_seq (by rfl) (T.bl "len") bt_len (pa_cons (pv 1) pa_nil)) pa_nil)) (pv 1)))),?_⟩
  have hl:=labs_len p 3
  have hf:=PR.few
  refine⟨_,rfl,dk,_,_,rfl,hd,rfl,dk,p,inp,3,rfl,D,fun H1 l1 s1 f1 e1=>?_⟩
  refine⟨_,rfl,l1,_,rfl,.inl (SqL.of e1),(by show 1<=sizeLine;decide),fun l2 g2=>?_⟩
  refine⟨_,rfl,l2,l1,_,_,rfl,rfl,upd_same,same_new g2 _ _ e1,?_,fun l3 g3=>?_⟩
  ·rw[List.length_map]
   show 1+(natI (labsK p 3)).length<=sizeLine
   rw[natI,List.length_map]
   exact Nat.le_trans (Nat.add_le_add_left (Nat.le_trans hl hf) 1) (by decide)
  ·refine q _ l3 ((s1.trans (same_new g2)).trans (same_new g3)) ((s1.trans (same_new g2)).free g3) ?_
   rw[upd_same,Mth.sites_of PR]
   show some (HO.lst ([V.int ((natI (labsK p 3)).map V.int).length]++(natI (labsK p 3)).map V.int))=some (HO.lst ((natI (toldNats (labsK p 3))).map V.int))
   simp[toldNats,natI]
def spHeap (A:Ad):Sp:=fun vs H Q _=>∃(dk:Addr) (p:Ex) (inp:Nat),vs=[.ref dk]/\DeskAt A H dk p inp/\Tells H Q (natI [(madeOf (runOf p inp)).heap.length,((madeOf (runOf p inp)).heap.map objLabel).eraseDups.length])
theorem scHeap:FnScope ["self","made"] ["self"] (defScope (inClass (top 65) 15)):=⟨rfl,rfl,rfl,by decide +kernel,rfl,by decide +kernel,by decide +kernel⟩
theorem bt_set:bootBuiltins "set"=some (.type "set"):=by decide +kernel
theorem heap_labels {p:Ex} {inp:Nat} {S:MS} (e:S.m=Mth.erM (madeOf (runOf p inp))):S.m.heap.map objLabel=(madeOf (runOf p inp)).heap.map objLabel/\S.m.heap.length=(madeOf (runOf p inp)).heap.length:=by
 rw[e]
 refine⟨?_,by simp[Mth.erM]⟩
 show((madeOf (runOf p inp)).heap.map Mth.er).map objLabel=_
 rw[List.map_map]
 exact List.map_congr_left fun o _=>Mth.er_label o
theorem ok_heap {f:Addr} {fd:FuncData} (T:Txt K w mg A) (F:Fun K "tell_heap" "Desk.tell_heap" (inClass (top 65) 15) f fd) (gRu:MOk P w K mg base CX0 8 A.cDk "run" ["self"] (spRun P w A)):FnOk P w K mg base CX0 9 f fd ["self"] (spHeap A):=by
 refine F.ok scHeap (fun vs H Q E h=>?_) (fun cdv AA outer s H vs Q E hr h=>?_)
 ·obtain⟨dk,p,inp,rfl,_⟩:=h
  rfl
 ·obtain⟨dk,p,inp,rfl,D,q⟩:=h
  obtain⟨PR,hT,lt,ln,⟨dx,hd⟩,ht,hn⟩:=id D
  refine⟨_,pss_cons (ps_set (i:=1) scHeap.nd rfl (Or.inl rfl) (pf (pe_mm0 gRu T.kDk hr (by decide) pass0 (pv 0))))
   (pss_one (ps_ret (pe_lst (pa_cons (pe_callB call_len_seq (by rfl) (T.bl "len") bt_len (pa_cons (pv 1) pa_nil)) (pa_cons (pe_callB call_lenS (by rfl) (T.bl "len") bt_len (pa_cons (pe_callTy (call_setL rfl) (by rfl) (T.bl "set") bt_set (pa_cons (pv 1) pa_nil)) pa_nil)) pa_nil))))),?_⟩
  refine rdU ?_
  refine⟨_,rfl,dk,_,_,rfl,hd,rfl,dk,p,inp,rfl,D,fun H1 r ln' L S R e1 e2 hb=>?_⟩
  refine⟨r,A.cRn,_,_,_,rfl,R.run,T.kRn,T.nRn,rfl,?_⟩
  obtain⟨hl1,hl2⟩:=heap_labels e1
  refine⟨_,rfl,L.lm,_,rfl,.inl (SqL.of R.made),_,rfl,L.lm,natI (S.m.heap.map objLabel),rfl,SqL.of R.made,?_,fun sa ss gs=>?_⟩
  ·rw[natI,List.length_map,List.length_map]
   exact Nat.lt_of_le_of_lt (Nat.add_le_add_right hb.1 1) (by decide)
  refine⟨sa,ss,_,rfl,upd_same,(by show 2<=sizeLine;decide),fun l gl=>?_⟩
  refine q _ l ((R.same.trans (same_new gs)).trans (same_new gl)) ((R.same.trans (same_new gs)).free gl) ?_
  rw[upd_same]
  have e3:(natI (S.m.heap.map objLabel)).eraseDups.length=((madeOf (runOf p inp)).heap.map objLabel).eraseDups.length:=by
   unfold natI
   rw[ed_map (f:=fun(n:Nat)=>(n:Int)) (fun a b h=>Int.ofNat.inj h),List.length_map,hl1]
  rw[e3,natV_len,List.length_map,hl2]
  rfl
end
end Fv
end
section
namespace Fv
open PySem PySem.Spec PyProof.Rows L2
open Mth (RN RS MS nsOf sz Prg)
open Vacfaa (runOf madeOf toldRun textOf toldText toldOpt kindOf binderOf funsOf sitesOf nodeAt labelOf toldNats objLabel arrowsOf callsOf flowsOf Arrow deepOf)
def arr (cs:List Vacfaa.Call):List Arrow:=(cs.map fun c=>(⟨c.site,c.fn⟩:Arrow)).eraseDups
def aK (a:Arrow):List Key:=[Sum.inl (a.site:Int),Sum.inl (a.fn:Int)]
theorem aK_inj (a b:Arrow) (h:aK a=aK b):a=b:=by
 obtain⟨s,f⟩:=a
 obtain⟨s',f'⟩:=b
 simp only[aK,List.cons.injEq,Sum.inl.injEq,and_true]at h
 rw[Int.ofNat.inj h.1,Int.ofNat.inj h.2]
theorem call_key {H:Hp} {c:Vacfaa.Call} {q:Addr} (h:NKeyAt H (callK c) q):∃b,H q=some (.tup [.int (c.site:Nat),.int (c.fn:Nat),.ref b])/\H b=some (.tup (natV c.ctx)):=by
 obtain⟨vs,h1,h2⟩:=h
 cases h2 with
 |int h2=>
  cases h2 with
  |int h2=>
   cases h2 with
   |tup h3 h2=>
    cases h2
    exact⟨_,h1,h3⟩
theorem flow_key {H:Hp} {c:Vacfaa.Flow} {q:Addr} (h:NKeyAt H (flowK c) q):∃b b2,H q=some (.tup [.int (c.label:Nat),.ref b,.ref b2])/\H b=some (.tup (natV c.ctx))/\H b2=some (.tup (natV (Vacfaa.toldAbs c.abs))):=by
 obtain⟨vs,h1,h2⟩:=h
 cases h2 with
 |int h2=>
  cases h2 with
  |tup h3 h2=>
   cases h2 with
   |tup h4 h2=>
    cases h2
    exact⟨_,_,h1,h3,h4⟩
theorem xs_at {α:Type} {k:α->List NItem} {xs:List (List NItem×Addr×Value)} {l:List α} (h:xs.map (·.1)=l.map k) {i:Nat} {n:List NItem} {q:Addr} {u:Value} (hx:xs[i]?=some (n,q,u)):∃c,l[i]?=some c/\n=k c:=by
 have e:=congrArg (fun z=>z[i]?) h
 simp only[List.getElem?_map,hx,Option.map_some]at e
 cases hl:l[i]? with
 |none=>rw[hl]at e;cases e
 |some c=>rw[hl]at e;exact⟨c,rfl,Option.some.inj e⟩
section
variable {P:Program} {w:World} {K:PySem.W.Frag} {mg:Str->Option Value} {base:Heap} {A:Ad}
inductive spArr (P:Program) (w:World) (A:Ad) (vs:List V) (H:Hp) (Q:VK) (E:XK):Prop
 |mk (H0:Hp) (r ln:Addr) (inp:Nat) (L:RLay) (S:MS) (_:vs=[.ref r]) (_:RunAt P w A H0 H r ln inp L S) (_:S.m.calls.length<=301) (_:∀H' l (as:List Addr),Same H H'->H' l=some (.lst (as.map V.ref))->as.length=(arr S.m.calls).length->(∀(i:Nat) (x:Arrow) (a:Addr),(arr S.m.calls)[i]?=some x->as[i]?=some a->H' a=some (.tup [.int (x.site:Nat),.int (x.fn:Nat)]))->Q (.ref l) H')
theorem scArr:FnScope ["run","arrows","call"] ["run"] (defScope (top 66)):=⟨rfl,rfl,rfl,by decide +kernel,rfl,by decide +kernel,by decide +kernel⟩
theorem ok_arr {f:Addr} {fd:FuncData} (T:Txt K w mg A) (F:Fun K "arrows_of" "arrows_of" (top 66) f fd):FnOk P w K mg base CX0 1 f fd ["run"] (spArr P w A):=by
 refine F.ok scArr (fun vs H Q E h=>?_) (fun cdv AA outer s H vs Q E hr h=>?_)
 ·obtain⟨H0,r,ln,inp,L,S,rfl,_⟩:=h
  rfl
 ·obtain⟨H0,r,ln,inp,L,S,rfl,R,hcl,q⟩:=h
  refine⟨_,pss_cons (ps_set (i:=1) scArr.nd rfl (Or.inl rfl) pe_dnewT)
   (pss_cons (ps_for PassesOwn.never rfl (pi_nkeys (sh:=shC) (pf (pv 0))) (pg_name (i:=2) scArr.nd rfl (Or.inl rfl)) (pss_one (ps_dput (hu_of hr) (pv 1) (pe_tup (pa_cons (pe_ix ix_tup (pv 2) pe_int (fun _ _=>rfl)) (pa_cons (pe_ix ix_tup (pv 2) pe_int (fun _ _=>rfl)) pa_nil))) pe_bl rfl)))
   (pss_one (ps_ret (pe_callTy (call_listT rfl) (by rfl) (T.bl "list") bt_list (pa_cons (pv 1) pa_nil))))),?_⟩
  intro d hd
  have s1:Same H (upd H d (.dT [])):=same_new hd
  have R1:=R.keep s1
  obtain⟨xs,ep,hx1,hx2,hx3⟩:=R1.calls
  refine rdF rfl ⟨_,R1.run⟩ T.kRn T.nRn rfl ?_
  refine⟨L.dc,xs,ep,rfl,hx1,hx3,?_⟩
  have hlen:xs.length=S.m.calls.length:=by
   have:=congrArg List.length hx2
   simpa using this
  have arrS:∀(l:List Vacfaa.Call) (c:Vacfaa.Call),arr (l++[c])=if(⟨c.site,c.fn⟩:Arrow)∈arr l then arr l else arr l++[⟨c.site,c.fn⟩]:=fun l c=>by
   unfold arr
   rw[List.map_append,List.map_singleton,ed_snoc]
   by_cases h:(⟨c.site,c.fn⟩:Arrow)∈l.map fun c=>(⟨c.site,c.fn⟩:Arrow)
   ·rw[if_pos h,if_pos (List.mem_eraseDups.mpr h)]
   ·rw[if_neg h,if_neg fun z=>h (List.mem_eraseDups.mp z)]
  refine for_nest (P:=P) (w:=w) (sh:=shC) (d:=L.dc) (xs:=xs) (ep:=ep) (fun i σ H'=>(∃v,σ=[some (.ref r),some (.ref d),v])/\Same H H'/\∃kvs,H' d=some (.dT kvs)/\kvs.map (·.1)=(arr (S.m.calls.take i)).map aK) ⟨⟨none,rfl⟩,s1,[],upd_same,rfl⟩ ?_ ?_ ?_
  ·rintro i σ H' _ ⟨_,s2,_⟩
   obtain⟨xs',ep',y1,y2,y3⟩:=R.calls
   have nd:L.dc≠d:=fun z=>by rw[z]at y1;rw[hd]at y1;cases y1
   rw[upd_ne nd]at hx1
   refine⟨s2 _ _ hx1,fun x hx=>?_⟩
   have hk:=hx3 x hx
   obtain⟨vs,k1,k2⟩:=hk
   have hT:∀(b:Addr) (ys:List V),(upd H d (.dT [])) b=some (.tup ys)->H' b=some (.tup ys):=fun b ys e=>by
    have nb:b≠d:=fun z=>by rw[z,upd_same]at e;cases e
    rw[upd_ne nb]at e
    exact s2 _ _ e
   exact(hx3 x hx).keeps hT
  ·rintro i k qa u σ H' hxi ⟨⟨v,rfl⟩,s2,kvs,hkv,hkeys⟩
   obtain⟨c,hc,rfl⟩:=xs_at hx2 hxi
   have hkey:NKeyAt H' (callK c) qa:=by
    have hk:=hx3 _ (List.mem_of_getElem? hxi)
    refine hk.keeps fun b ys e=>?_
    have nb:b≠d:=fun z=>by rw[z,upd_same]at e;cases e
    rw[upd_ne nb]at e
    exact s2 _ _ e
   obtain⟨b,hq,hb⟩:=call_key hkey
   have hkl:kvs.length<=301:=by
    have e1:=congrArg List.length hkeys
    rw[List.length_map,List.length_map]at e1
    rw[e1]
    unfold arr
    refine Nat.le_trans (ed_len _) ?_
    rw[List.length_map,List.length_take]
    exact Nat.le_trans (Nat.min_le_right _ _) hcl
   refine⟨_,rfl,_,rfl,qa,_,0,.int (c.site:Nat),rfl,rfl,SqT.of hq,atI_nat (j:=0) rfl,_,rfl,qa,_,1,.int (c.fn:Nat),rfl,rfl,SqT.of hq,atI_nat (j:=1) rfl,(by show 2<=sizeLine;decide),fun t2 g2=>?_⟩
   have s3:Same H' (upd H' t2 (.tup [.int (c.site:Nat),.int (c.fn:Nat)])):=same_new g2
   refine⟨d,_,rfl,DPut.t (k:=aK ⟨c.site,c.fn⟩) (s3 _ _ hkv) upd_same (Nat.lt_of_le_of_lt hkl (by decide)),⟨_,rfl⟩,?_,_,upd_same,?_⟩
   ·exact fun b o e=>by rw[upd_ne (ne_of_none e hd)];exact s3 _ _ (s2 b o e)
   ·rw[put_keys,hkeys,take_more hc,arrS]
    by_cases hm:(⟨c.site,c.fn⟩:Arrow)∈arr (S.m.calls.take i)
    ·rw[if_pos hm,if_pos (List.mem_map_of_mem hm)]
    ·rw[if_neg hm,if_neg,List.map_append]
     ·rfl
     ·intro z
      obtain⟨y,hy,e⟩:=List.mem_map.mp z
      rw[aK_inj _ _ e]at hy
      exact hm hy
  ·rintro σ H' ⟨⟨v,rfl⟩,s2,kvs,hkv,hkeys⟩
   rw[hlen,List.take_length]at hkeys
   refine⟨_,rfl,d,kvs,rfl,hkv,fun l as gl hal hat=>?_⟩
   have hkl:=congrArg List.length hkeys
   rw[List.length_map,List.length_map]at hkl
   refine q _ l as (s2.trans (same_new gl)) upd_same (by rw[hal,hkl]) fun i x a hx ha=>?_
   have e2:=congrArg (fun z=>z[i]?) hkeys
   simp only[List.getElem?_map,hx,Option.map_some]at e2
   cases hk:kvs[i]? with
   |none=>rw[hk]at e2;cases e2
   |some kv=>
    rw[hk]at e2
    have e2:kv.1=aK x:=Option.some.inj e2
    have:=hat i kv.1 kv.2 a (by rw[hk]) ha
    rw[e2]at this
    exact same_new gl _ _ this
def spTArr (A:Ad):Sp:=fun vs H Q _=>∃(dk:Addr) (p:Ex) (inp:Nat),vs=[.ref dk]/\DeskAt A H dk p inp/\Tells H Q (natI ((arrowsOf (runOf p inp)).length::(arrowsOf (runOf p inp)).flatMap fun a=>[a.site,a.fn]))
theorem scTArr:FnScope ["self","arrows","answer","arrow"] ["self"] (defScope (inClass (top 65) 8)):=⟨rfl,rfl,rfl,by decide +kernel,rfl,by decide +kernel,by decide +kernel⟩
theorem flat_take {α:Type} {f:α->List Nat} {l:List α} {i:Nat} {x:α} (h:l[i]?=some x):(l.take (i+1)).flatMap f=(l.take i).flatMap f++f x:=by rw[take_more h,List.flatMap_append];simp
theorem flat_len {α:Type} {f:α->List Nat} {n:Nat} (hf:∀x,(f x).length<=n):∀l:List α,(l.flatMap f).length<=n*l.length
 |[]=>by simp
 |a::l=>by
  have:=flat_len hf l
  have:=hf a
  rw[List.flatMap_cons,List.length_append,List.length_cons,Nat.mul_succ]
  omega
theorem calls_er {p:Ex} {inp:Nat} {S:MS} (e:S.m=Mth.erM (madeOf (runOf p inp))):S.m.calls=callsOf (runOf p inp)/\S.m.flows=flowsOf (runOf p inp):=by
 rw[e]
 exact⟨rfl,rfl⟩
theorem ok_tarr {f:Addr} {fd:FuncData} (T:Txt K w mg A) (F:Fun K "tell_arrows" "Desk.tell_arrows" (inClass (top 65) 8) f fd) (gRu:MOk P w K mg base CX0 8 A.cDk "run" ["self"] (spRun P w A)) (gAr:DOk P w K mg base CX0 1 "arrows_of" ["run"] (spArr P w A)):FnOk P w K mg base CX0 9 f fd ["self"] (spTArr A):=by
 refine F.ok scTArr (fun vs H Q E h=>?_) (fun cdv AA outer s H vs Q E hr h=>?_)
 ·obtain⟨dk,p,inp,rfl,_⟩:=h
  rfl
 ·obtain⟨dk,p,inp,rfl,D,q⟩:=h
  obtain⟨PR,hT,lt,ln,⟨dx,hd⟩,ht,hn⟩:=id D
  refine⟨_,pss_cons (ps_set (i:=1) scTArr.nd rfl (Or.inl rfl) (pe_dd gAr hr (by decide) rfl pass0 (pa_cons (pe_mm0 gRu T.kDk hr (by decide) pass0 (pv 0)) pa_nil)))
   (pss_cons (ps_set (i:=2) scTArr.nd rfl (Or.inl rfl) (pe_lst (pa_cons (pe_callB call_len_seq (by rfl) (T.bl "len") bt_len (pa_cons (pv 1) pa_nil)) pa_nil)))
   (pss_cons (ps_for PassesOwn.never rfl (pi_list (pv 1)) (pg_name (i:=3) scTArr.nd rfl (Or.inl rfl)) (pss_one (ps_expr (pe_bm PySem.F.plainAttrs_list PySem.F.slot_list_extend PySem.F.type_list_extend mt_extendT (pv 2) (pa_cons (pv 3) pa_nil)))))
   (pss_one (ps_ret (pv 2))))),?_⟩
  refine⟨_,rfl,dk,_,_,rfl,hd,rfl,dk,p,inp,rfl,D,fun H1 r ln' L S R e1 e2 hb=>?_⟩
  obtain⟨ec,ef⟩:=calls_er e1
  refine⟨H,r,ln',inp,L,S,rfl,R,hb.2.1,fun H2 l1 as s2 hl1 hal hat=>?_⟩
  have ea:arr S.m.calls=arrowsOf (runOf p inp):=by rw[ec];rfl
  rw[ea]at hal hat
  have hAl:(arrowsOf (runOf p inp)).length<=301:=by
   rw[<-ea]
   unfold arr
   refine Nat.le_trans (ed_len _) ?_
   rw[List.length_map]
   exact hb.2.1
  generalize arrowsOf (runOf p inp)=ars at *
  refine⟨_,rfl,l1,_,rfl,.inl (SqL.of hl1),(by show 1<=sizeLine;decide),fun l2 g2=>?_⟩
  rw[List.length_map,hal]
  refine⟨_,rfl,l1,rfl,⟨_,SqL.of (same_new g2 _ _ hl1)⟩,for_list (K:=K) (a:=l1) (xs:=as.map V.ref) (fun i σ H'=>(∃v,σ=[some (.ref dk),some (.ref l1),some (.ref l2),v])/\Same H2 H'/\H' l2=some (.lst (natV (ars.length::(ars.take i).flatMap fun a=>[a.site,a.fn])))) ⟨⟨none,rfl⟩,same_new g2,upd_same⟩ (fun i σ H' _ z=>SqL.of (z.2.1 _ _ hl1)) ?_ ?_⟩
  ·rintro i x σ H' hx ⟨⟨v,rfl⟩,s3,h3⟩
   rw[List.getElem?_map]at hx
   cases ha:as[i]? with
   |none=>rw[ha]at hx;cases hx
   |some a=>
    rw[ha]at hx
    have hx:V.ref a=x:=Option.some.inj hx
    subst hx
    obtain⟨y,hy⟩:=Mth.some_at (l:=ars) (i:=i) (by rw[<-hal];exact(List.getElem?_eq_some_iff.mp ha).1)
    have ht2:=s3 _ _ (hat i y a hy ha)
    refine⟨_,rfl,.inl ⟨rfl,_,SqL.of h3⟩,_,rfl,l2,a,_,_,rfl,rfl,h3,ht2,?_,⟨_,rfl⟩,?_,?_⟩
    ·rw[natV_len,List.length_cons]
     have h1:=flat_len (f:=fun(a:Arrow)=>[a.site,a.fn]) (n:=2) (fun x=>Nat.le_refl _) (ars.take i)
     rw[List.length_take]at h1
     have h2:(2*301+1)+2<=sizeLine:=by decide
     simp only[List.length_cons,List.length_nil]
     omega
    ·exact fun b o e=>by rw[upd_ne (ne_of_none e g2)];exact s3 b o e
    ·rw[upd_same,flat_take hy]
     simp[natV,natI]
  ·rintro σ H' ⟨⟨v,rfl⟩,s3,h3⟩
   rw[List.length_map,hal,List.take_length]at h3
   exact⟨_,rfl,q H' l2 ((R.same.trans s2).trans s3) ((R.same.trans s2).free g2) h3⟩
def spSize (A:Ad):Sp:=fun vs H Q _=>∃(dk:Addr) (p:Ex) (inp:Nat),vs=[.ref dk]/\DeskAt A H dk p inp/\Tells H Q (natI [sz p,deepOf p,(arrowsOf (runOf p inp)).length,(flowsOf (runOf p inp)).length])
theorem scSize:FnScope ["self","run","deepest","node"] ["self"] (defScope (inClass (top 65) 16)):=⟨rfl,rfl,rfl,by decide +kernel,rfl,by decide +kernel,by decide +kernel⟩
theorem bt_max:bootBuiltins "max"=some (.builtin "max"):=by decide +kernel
theorem ok_size {f:Addr} {fd:FuncData} (T:Txt K w mg A) (F:Fun K "tell_size" "Desk.tell_size" (inClass (top 65) 16) f fd) (gRu:MOk P w K mg base CX0 8 A.cDk "run" ["self"] (spRun P w A)) (gAr:DOk P w K mg base CX0 1 "arrows_of" ["run"] (spArr P w A)):FnOk P w K mg base CX0 9 f fd ["self"] (spSize A):=by
 refine F.ok scSize (fun vs H Q E h=>?_) (fun cdv AA outer s H vs Q E hr h=>?_)
 ·obtain⟨dk,p,inp,rfl,_⟩:=h
  rfl
 ·obtain⟨dk,p,inp,rfl,D,q⟩:=h
  obtain⟨PR,hT,lt,ln,⟨dx,hd⟩,ht,hn⟩:=id D
  obtain⟨as,h1,h2,h3⟩:=hn.ex
  refine⟨_,pss_cons (ps_set (i:=1) scSize.nd rfl (Or.inl rfl) (pe_mm0 gRu T.kDk hr (by decide) pass0 (pv 0)))
   (pss_cons (ps_set (i:=2) scSize.nd rfl (Or.inl rfl) (pe_callB (cr_max rfl) (by rfl) (T.bl "max") bt_max (pa_cons (pe_lc (own:=[("node",3)]) (te:=tF K (tVar 3) "depth") rfl scSize.nd (pi_list (pf (pv 0))) (blkOk_by rfl) (fun s H C cl fp=>pg_name (i:=3) scSize.nd rfl (Or.inl rfl)) (fun s H C cl fp=>pts_nil) (fun s H C cl fp=>pf (pv 3))) pa_nil)))
   (pss_one (ps_ret (pe_lst (pa_cons (pe_callB call_len_seq (by rfl) (T.bl "len") bt_len (pa_cons (pf (pv 0)) pa_nil)) (pa_cons (pv 2) (pa_cons (pe_callB call_len_seq (by rfl) (T.bl "len") bt_len (pa_cons (pe_dd gAr hr (by decide) rfl pass0 (pa_cons (pv 1) pa_nil)) pa_nil)) (pa_cons (pe_callB (call_lenN (sh:=shF)) (by rfl) (T.bl "len") bt_len (pa_cons (pf (pv 1)) pa_nil)) pa_nil)))))))),?_⟩
  refine⟨_,rfl,dk,_,_,rfl,hd,rfl,dk,p,inp,rfl,D,fun H1 r ln' L S R e1 e2 hb=>?_⟩
  obtain⟨ec,ef⟩:=calls_er e1
  have s1:=R.same
  refine rdF rfl ⟨dx,s1 _ _ hd⟩ T.kDk T.nDk rfl ?_
  refine⟨ln,rfl,⟨_,SqL.of (s1 _ _ h1)⟩,fun D2 hD=>?_⟩
  have hal:as.length=sz p:=by rw[h2,Mth.ns_len]
  have hfew:=PR.few
  refine lc_list (K:=K) (a:=ln) (xs:=as.map V.ref) (fun i H'=>Same H1 H'/\H' D2=some (.lst (((((nsOf p).take i).map fun n=>(n.dep:Int))).map V.int))) ⟨same_new hD,upd_same⟩ (fun i H' _ z=>SqL.of (z.1 _ _ (s1 _ _ h1))) ?_ ?_
  ·rintro i x H2 hx ⟨s2,h3'⟩
   rw[List.getElem?_map]at hx
   cases ha:as[i]? with
   |none=>rw[ha]at hx;cases hx
   |some a=>
    rw[ha]at hx
    have hx:V.ref a=x:=Option.some.inj hx
    subst hx
    obtain⟨n,hni⟩:=Mth.some_at (l:=nsOf p) (i:=i) (by rw[<-h2];exact(List.getElem?_eq_some_iff.mp ha).1)
    obtain⟨a',lp,k1,k2,k3⟩:=h3 i n hni
    rw[ha]at k1
    cases k1
    refine⟨rfl,?_⟩
    refine yes_of ?_
    rw[if_pos rfl]
    refine rdF rfl ((k2.same s1).same s2) T.kNd T.nNd rfl ?_
    refine⟨_,h3',?_,fun b o e=>by rw[upd_ne (ne_of_none e hD)];exact s2 b o e,?_⟩
    ·rw[List.length_map,List.length_map,List.length_take]
     have:(nsOf p).length<=30:=by rw[Mth.ns_len];exact hfew
     exact Nat.lt_of_le_of_lt (Nat.le_trans (Nat.min_le_right _ _) this) (by decide)
    ·rw[upd_same,take_more hni]
     simp
  ·rintro H2 ⟨s2,h3'⟩
   rw[List.length_map,h2,List.take_length]at h3'
   refine⟨D2,_,rfl,SqL.of h3',?_,fun m hm hmax=>?_⟩
   ·rw[List.length_map,Mth.ns_len]
    exact Mth.sz_pos p
   have em:m=(deepOf p:Int):=by
    obtain⟨n,hnm,rfl⟩:=List.mem_map.mp hm
    unfold nsOf at hnm
    obtain⟨a,ha,rfl⟩:=List.mem_map.mp hnm
    have hle:=Mth.dep_le p [] 0 0 a ha
    obtain⟨a2,ha2,he2⟩:=Mth.dep_in p [] 0 0
    have:=hmax (a2.dep:Int) (List.mem_map.mpr ⟨Mth.rnOf a2,List.mem_map.mpr ⟨a2,ha2,rfl⟩,rfl⟩)
    have e4:((Mth.rnOf a).dep:Int)=(a.dep:Int):=rfl
    rw[e4]at this ⊢
    omega
   subst em
   have R2:=R.keep s2
   refine rdF rfl ⟨dx,s2 _ _ (s1 _ _ hd)⟩ T.kDk T.nDk rfl ?_
   refine⟨ln,_,rfl,.inl (SqL.of (s2 _ _ (s1 _ _ h1))),_,rfl,_,rfl,H,r,ln',inp,L,S,rfl,R2,hb.2.1,fun H3 l3 as3 s3 hl3 hal3 hat3=>?_⟩
   refine⟨l3,_,rfl,.inl (SqL.of hl3),?_⟩
   have R3:=R2.keep s3
   refine rdF rfl ⟨_,R3.run⟩ T.kRn T.nRn rfl ?_
   refine⟨L.df,_,rfl,R3.flows,(by show 4<=sizeLine;decide),fun l4 g4=>?_⟩
   refine q _ l4 (((s1.trans s2).trans s3).trans (same_new g4)) (((s1.trans s2).trans s3).free g4) ?_
   have ea:arr S.m.calls=arrowsOf (runOf p inp):=by rw[ec];rfl
   rw[upd_same,List.length_map,List.length_map,List.length_map,hal,hal3,ea,ef]
   rfl
end
end Fv
end
section
namespace Fv
open PySem PySem.Spec PyProof.Rows L2
open Mth (RN RS MS nsOf sz Prg)
open Vacfaa (runOf madeOf textOf kindOf toldNats callsOf flowsOf toldAbs isApp)
theorem lc_nest {P:Program} {w:World} {sh:List Bool} {d:Addr} {xs:List (List NItem×Addr×Value)} {ep:Nat} {g:TG} {tt:TT} {te:TE} {vs:List Nat} {σ:L2.St} {H1:Hp} {D:Addr} {Qd:Hp->Prop} (Pv:Nat->Hp->Prop) (h0:Pv 0 (upd H1 D (.lst [])))
  (hl:∀i H,i<=xs.length->Pv i H->H d=some (nestO P w sh d xs ep)/\∀x∈xs,NKeyAt H x.1 x.2.1)
  (hs:∀i k q u H,xs[i]?=some (k,q,u)->Pv i H->g (.ref q) (wipe σ vs) H fun σ2 H2=>wipe σ2 vs=wipe σ vs/\tt σ2 H2 fun b H3=>
   if b=true then te σ2 H3 fun y H4=>∃acc,H4 D=some (.lst acc)/\acc.length<sizeLine/\Pv (i+1) (upd H4 D (.lst (acc++[y])))else Pv (i+1) H3) (hd:∀H,Pv xs.length H->Qd H) :
  ∃W:Nat->Nat->Hp->Prop,(∃m,W 0 m (upd H1 D (.lst [])))/\∀i m H,W i m H ->
   ((Itn P w sh d xs ep).stop i H/\Qd H)\/((Itn P w sh d xs ep).go i H/\∃Nx:Hp->Prop,(∀H',Nx H'->∃m',m'<m/\W (i+1) m' H')/\∀x H',(Itn P w sh d xs ep).yld i H x H'->g x (wipe σ vs) H' fun σ2 H2=>wipe σ2 vs=wipe σ vs/\tt σ2 H2 fun b H3=>
    if b=true then te σ2 H3 fun y H4=>∃acc,H4 D=some (.lst acc)/\acc.length<sizeLine/\Nx (upd H4 D (.lst (acc++[y])))else Nx H3):=by
 refine⟨fun i m H=>m=xs.length-i/\i<=xs.length/\Pv i H,⟨xs.length,by simp,Nat.zero_le _,h0⟩,?_⟩
 rintro i m H ⟨rfl,hi,p⟩
 obtain⟨q1,q2⟩:=hl i H hi p
 by_cases hlt:i<xs.length
 ·refine .inr ⟨⟨q1,q2,hlt⟩,Pv (i+1),fun H' p'=>⟨xs.length-(i+1),by omega,rfl,hlt,p'⟩,fun x H' y=>?_⟩
  obtain⟨e,k,q,u,y,rfl⟩:=y
  subst e
  exact hs i k q u _ y p
 ·have e:i=xs.length:=by omega
  subst e
  exact .inl ⟨⟨q1,q2,Nat.le_refl _⟩,hd H p⟩
theorem flat_lenM {α:Type} {f:α->List Nat} {n:Nat}:∀(l:List α),(∀x∈l,(f x).length<=n)->(l.flatMap f).length<=n*l.length
 |[],_=>by simp
 |a::l,h=>by
  have h1:=flat_lenM l fun c hc=>h c (List.mem_cons_of_mem _ hc)
  have h2:=h a (List.mem_cons_self ..)
  rw[List.flatMap_cons,List.length_append,List.length_cons,Nat.mul_succ]
  omega
section
variable {P:Program} {w:World} {K:PySem.W.Frag} {mg:Str->Option Value} {base:Heap} {A:Ad}
theorem filt_take {α:Type} {f:α->Bool} {l:List α} {i:Nat} {x:α} (h:l[i]?=some x):(l.take (i+1)).filter f=(l.take i).filter f++(if f x=true then[x]else[]):=by
 rw[take_more h,List.filter_append,List.filter_cons,List.filter_nil]
theorem keep_key {H H':Hp} {k:List NItem} {q:Addr} (h:NKeyAt H k q) (s:Same H H'):NKeyAt H' k q:=h.keeps fun b ys e=>s _ _ e
def toldC (cs:List Vacfaa.Call):List Nat:=cs.length::cs.flatMap fun c=>c.fn::toldNats c.ctx
def spCalls (A:Ad):Sp:=fun vs H Q _=>∃(dk:Addr) (p:Ex) (inp:Nat) (l:Int),vs=[.ref dk,.int l]/\DeskAt A H dk p inp/\(¬(0<=l/\l<sz p)->Tells H Q [-3]) /\
 (∀e,0<=l->(Vacfaa.nodesOf p)[l.toNat]?=some e->(isApp e=false->Tells H Q [-5])/\(isApp e=true->Tells H Q (natI (toldC ((callsOf (runOf p inp)).filter fun c=>c.site==l.toNat)))))
theorem scCalls:FnScope ["self","label","calls","answer","call","string"] ["self","label"] (defScope (inClass (top 65) 9)):=⟨rfl,rfl,rfl,by decide +kernel,rfl,by decide +kernel,by decide +kernel⟩
theorem app_kind (e:Ex):isApp e=decide (kindOf e=3):=by cases e<;>rfl
theorem dI (a b:Nat):decide (V.int (a:Int)=V.int (b:Int))=decide (a=b):=by
 by_cases e:a=b
 ·rw[e];simp
 ·rw[decide_eq_false e,decide_eq_false fun z=>e (by injection z with z;omega)]
theorem ok_calls {f:Addr} {fd:FuncData} (T:Txt K w mg A) (F:Fun K "tell_calls" "Desk.tell_calls" (inClass (top 65) 9) f fd) (gHa:MOk P w K mg base CX0 1 A.cDk "has_node" ["self","label"] (spHas A)) (gRu:MOk P w K mg base CX0 8 A.cDk "run" ["self"] (spRun P w A)):FnOk P w K mg base CX0 9 f fd ["self","label"] (spCalls A):=by
 refine F.ok scCalls (fun vs H Q E h=>?_) (fun cdv AA outer s H vs Q E hr h=>?_)
 ·obtain⟨dk,p,inp,l,rfl,_⟩:=h
  rfl
 ·obtain⟨dk,p,inp,l,rfl,D,q1,q2⟩:=h
  obtain⟨PR,hT,lt,ln,⟨dx,hd⟩,ht,hn⟩:=id D
  refine⟨_,pss_cons (ps_if (pt_not (pt_val (pe_mm gHa T.kDk hr (by decide) pass0 (pv 0) (pa_cons (pv 1) pa_nil)))) (pss_one (ps_ret (pe_lst (pa_cons (gi T (-3)) pa_nil)))) pss_nil)
   (pss_cons (ps_if (pt_cmpR op_ne (pf (pe_ix ix_list (pf (pv 0)) (pv 1) (fun _ _=>rfl))) (gi T 3) (nomark _)) (pss_one (ps_ret (pe_lst (pa_cons (gi T (-5)) pa_nil)))) pss_nil)
   (pss_cons (ps_setLc (i:=2) (own:=[("call",4)]) (g:=gName 4) (tt:=tTest (tOp rEq (tOp (rIxT K) (tVar 4) (tC (.int 0))) (tVar 1))) (te:=tVar 4) rfl scCalls.nd rfl rfl (sw_true rfl rfl rfl rfl) (pi_nkeys (sh:=shC) (pf (pe_mm0 gRu T.kDk hr (by decide) pass0 (pv 0)))) (blkOk_by rfl)
    (fun s H C cl fp=>pg_name (i:=4) scCalls.nd rfl (Or.inl rfl)) (fun s H C cl fp=>pts_one (pt_cmpR op_eq (pe_ix ix_tup (pv 4) pe_int (fun _ _=>rfl)) (pv 1) (nomark _))) (fun s H C cl fp=>pv 4))
   (pss_cons (ps_set (i:=3) scCalls.nd rfl (Or.inl rfl) (pe_lst (pa_cons (pe_callB call_len_seq (by rfl) (T.bl "len") bt_len (pa_cons (pv 2) pa_nil)) pa_nil)))
   (pss_cons (ps_for PassesOwn.never rfl (pi_list (pv 2)) (pg_name (i:=4) scCalls.nd rfl (Or.inl rfl))
    (pss_cons (ps_set (i:=5) scCalls.nd rfl (Or.inl rfl) (pe_ix ix_tup (pv 4) pe_int (fun _ _=>rfl)))
    (pss_cons (ps_expr (pe_bm PySem.F.plainAttrs_list PySem.F.slot_list_extend PySem.F.type_list_extend mt_extend (pv 3) (pa_cons (pe_lst (pa_cons (pe_ix ix_tup (pv 4) pe_int (fun _ _=>rfl)) (pa_cons (pe_callB call_len_seq (by rfl) (T.bl "len") bt_len (pa_cons (pv 5) pa_nil)) pa_nil))) pa_nil)))
    (pss_one (ps_expr (pe_bm PySem.F.plainAttrs_list PySem.F.slot_list_extend PySem.F.type_list_extend mt_extendT (pv 3) (pa_cons (pv 5) pa_nil)))))))
   (pss_one (ps_ret (pv 3))))))),?_⟩
  refine⟨_,rfl,dk,_,_,rfl,hd,rfl,_,rfl,dk,p,inp,l,rfl,D,_,rfl,?_⟩
  by_cases e:0<=l/\l<sz p
  ·rw[decide_eq_true e]
   refine iteF ?_
   obtain⟨j,rfl⟩:∃j:Nat,l=(j:Int):=⟨l.toNat,by omega⟩
   have hj:j<sz p:=by omega
   obtain⟨a,ha⟩:=Mth.some_at (l:=Mth.ann [] 0 0 p) (i:=j) (by rw[Mth.ann_len];exact hj)
   have hns:(nsOf p)[j]?=some (Mth.rnOf a):=by unfold nsOf;rw[List.getElem?_map,ha];rfl
   obtain⟨as,h1,h2,h3⟩:=hn.ex
   obtain⟨an,lp,k1,⟨dxn,k2⟩,k3⟩:=h3 j _ hns
   obtain⟨qa,qb⟩:=q2 a.e (by omega) (by rw[Int.toNat_natCast];exact node_ann ha)
   rw[Int.toNat_natCast,app_kind]at qb
   rw[app_kind]at qa
   refine rdU ?_
   refine rdF rfl ⟨dx,hd⟩ T.kDk T.nDk rfl ?_
   refine⟨_,rfl,ln,_,_,.ref an,rfl,rfl,SqL.of h1,atI_nat (by rw[List.getElem?_map,k1];rfl),an,A.cNd,dxn,_,_,rfl,k2,T.kNd,T.nNd,rfl,rfl,_,rfl,?_⟩
   show if(!decide (V.int ((kindOf a.e:Nat):Int)=V.int ((3:Nat):Int)))=true then _ else _
   rw[dI]
   by_cases hk:kindOf a.e=3
   ·rw[decide_eq_true hk]
    refine iteF ?_
    have q:=qb (decide_eq_true hk)
    refine rdU ?_
    refine⟨_,rfl,dk,_,_,rfl,hd,rfl,dk,p,inp,rfl,D,fun H1 r ln' L S R e1 e2 hb=>?_⟩
    obtain⟨ec,ef⟩:=calls_er e1
    obtain⟨xs,ep,hx1,hx2,hx3⟩:=R.calls
    refine⟨r,A.cRn,_,_,_,rfl,R.run,T.kRn,T.nRn,rfl,L.dc,xs,ep,rfl,hx1,hx3,fun D2 hD=>?_⟩
    have hlen:xs.length=S.m.calls.length:=by
     have:=congrArg List.length hx2
     simpa using this
    refine lc_nest (P:=P) (w:=w) (sh:=shC) (d:=L.dc) (xs:=xs) (ep:=ep) (fun i H'=>Same H1 H'/\∃qs:List Addr,H' D2=some (.lst (qs.map V.ref))/\Paired (fun q c=>NKeyAt H1 (callK c) q) qs ((S.m.calls.take i).filter fun c=>c.site==j)) ⟨same_new hD,[],upd_same,.nil⟩ ?_ ?_ ?_
    ·rintro i H' _ ⟨s2,_⟩
     exact⟨s2 _ _ hx1,fun x hx=>keep_key (hx3 x hx) s2⟩
    ·rintro i k qk u H2 hxi ⟨s2,qs,hD2,hpr⟩
     obtain⟨c,hc,rfl⟩:=xs_at hx2 hxi
     have hkey1:=hx3 _ (List.mem_of_getElem? hxi)
     obtain⟨b,hq,hbb⟩:=call_key (keep_key hkey1 s2)
     refine⟨rfl,_,rfl,qk,_,0,.int (c.site:Nat),rfl,rfl,SqT.of hq,atI_nat (j:=0) rfl,_,rfl,rfl,_,rfl,?_⟩
     show if decide (V.int ((c.site:Nat):Int)=V.int ((j:Nat):Int))=true then _ else _
     rw[dI,filt_take hc]
     by_cases hs:c.site=j
     ·rw[decide_eq_true hs]
      refine iteT ?_
      refine⟨_,rfl,_,hD2,?_,?_,?_⟩
      ·rw[List.length_map,Paired.length hpr]
       refine Nat.lt_of_le_of_lt (List.length_filter_le _ _) ?_
       rw[List.length_take]
       exact Nat.lt_of_le_of_lt (Nat.le_trans (Nat.min_le_right _ _) hb.2.1) (by decide)
      ·exact fun b o e=>by rw[upd_ne (ne_of_none e hD)];exact s2 b o e
      ·refine⟨qs++[qk],?_,?_⟩
       ·rw[upd_same,List.map_append]
        rfl
       ·rw[if_pos (beq_iff_eq.mpr hs)]
        exact hpr.snoc hkey1
     ·rw[decide_eq_false hs]
      refine iteF ?_
      refine⟨s2,qs,hD2,?_⟩
      rw[if_neg fun z=>hs (beq_iff_eq.mp z),List.append_nil]
      exact hpr
    ·rintro H2 ⟨s2,qs,hD2,hpr⟩
     rw[hlen,List.take_length,ec]at hpr
     have hcs:∀c∈(callsOf (runOf p inp)).filter fun c=>c.site==j,c.ctx.length<=3:=fun c hc=>hb.2.2.2.1 c (by rw[ec];exact(List.mem_filter.mp hc).1)
     have hcn:((callsOf (runOf p inp)).filter fun c=>c.site==j).length<=301:=by
      refine Nat.le_trans (List.length_filter_le _ _) ?_
      rw[<-ec]
      exact hb.2.1
     generalize (callsOf (runOf p inp)).filter (fun c=>c.site==j)=cs at *
     have hql:=Paired.length hpr
     refine⟨_,rfl,D2,_,rfl,.inl (SqL.of hD2),(by show 1<=sizeLine;decide),fun l2 g2=>?_⟩
     rw[List.length_map,hql]
     refine⟨_,rfl,D2,rfl,⟨_,SqL.of (same_new g2 _ _ hD2)⟩,for_list (K:=K) (a:=D2) (xs:=qs.map V.ref) (fun i σ H'=>(∃v v2,σ=[some (.ref dk),some (.int j),some (.ref D2),some (.ref l2),v,v2])/\Same H2 H'/\H' l2=some (.lst (natV (cs.length::(cs.take i).flatMap fun c=>c.fn::toldNats c.ctx)))) ⟨⟨none,none,rfl⟩,same_new g2,upd_same⟩ (fun i σ H' _ z=>SqL.of (z.2.1 _ _ hD2)) ?_ ?_⟩
     ·rintro i x σ H' hx ⟨⟨v,v2,rfl⟩,s3,h3'⟩
      rw[List.getElem?_map]at hx
      cases hqa:qs[i]? with
      |none=>rw[hqa]at hx;cases hx
      |some qk=>
       rw[hqa]at hx
       have hx:V.ref qk=x:=Option.some.inj hx
       subst hx
       obtain⟨c,hc⟩:=Mth.some_at (l:=cs) (i:=i) (by rw[<-hql];exact(List.getElem?_eq_some_iff.mp hqa).1)
       have hkey:NKeyAt H1 (callK c) qk:=by
        obtain⟨c',g1,g2⟩:=paired_get hpr hqa
        rw[hc]at g1
        cases g1
        exact g2
       obtain⟨b,hq,hbb⟩:=call_key (keep_key hkey (s2.trans s3))
       have hcl:=hcs c (List.mem_of_getElem? hc)
       refine⟨_,rfl,qk,_,2,.ref b,rfl,rfl,SqT.of hq,atI_nat (j:=2) rfl,?_⟩
       refine⟨_,rfl,.inl ⟨rfl,_,SqL.of h3'⟩,_,rfl,qk,_,1,.int (c.fn:Nat),rfl,rfl,SqT.of hq,atI_nat (j:=1) rfl,_,rfl,b,_,rfl,.inr (SqT.of hbb),(by show 2<=sizeLine;decide),fun l3 g3=>?_⟩
       have s4:Same H' (upd H' l3 (.lst [.int (c.fn:Nat),.int (natV c.ctx).length])):=same_new g3
       have bnd:(cs.length::(cs.take i).flatMap fun c=>c.fn::toldNats c.ctx).length<=1+5*301:=by
        rw[List.length_cons]
        have:((cs.take i).flatMap fun c=>c.fn::toldNats c.ctx).length<=5*(cs.take i).length:=flat_lenM _ fun c hc'=>by
         have:=hcs c (List.mem_of_mem_take hc')
         simp only[toldNats,List.length_cons]
         omega
        rw[List.length_take]at this
        omega
       have big:1+5*301+10<=sizeLine:=by decide
       refine⟨l2,l3,_,_,rfl,rfl,s4 _ _ h3',upd_same,(by rw[natV_len];simp only[List.length_cons,List.length_nil]at bnd ⊢;omega),?_⟩
       have nb:b≠l2:=ne_of hbb h3' (by intro z;cases z)
       have hb5:(upd (upd H' l3 (.lst [.int (c.fn:Nat),.int (natV c.ctx).length])) l2 (.lst (natV (cs.length::(cs.take i).flatMap fun c=>c.fn::toldNats c.ctx)++[.int (c.fn:Nat),.int (natV c.ctx).length]))) b=some (.tup (natV c.ctx)):=by
        rw[upd_ne nb]
        exact s4 _ _ hbb
       refine⟨_,rfl,.inl ⟨rfl,_,SqL.of upd_same⟩,_,rfl,l2,b,_,_,rfl,rfl,upd_same,hb5,?_,⟨_,_,rfl⟩,?_,?_⟩
       ·rw[List.length_append,natV_len,natV_len]
        simp only[List.length_cons,List.length_nil]at bnd ⊢
        omega
       ·exact fun b' o e=>by rw[upd_ne (ne_of_none e g2),upd_ne (ne_of_none e g2)];exact s4 _ _ (s3 b' o e)
       ·rw[upd_same,flat_take hc,natV_len]
        simp[natV,natI,toldNats]
     ·rintro σ H' ⟨⟨v,v2,rfl⟩,s3,h3'⟩
      rw[List.length_map,hql,List.take_length]at h3'
      exact⟨_,rfl,q H' l2 ((R.same.trans s2).trans s3) ((R.same.trans s2).free g2) h3'⟩
   ·rw[decide_eq_false hk]
    refine iteT ?_
    refine⟨(by show 1<=sizeLine;decide),fun l1 g1=>?_⟩
    exact qa (decide_eq_false hk) _ l1 (same_new g1) g1 upd_same
  ·rw[decide_eq_false e]
   refine iteT ?_
   refine⟨(by show 1<=sizeLine;decide),fun l1 g1=>?_⟩
   exact q1 e _ l1 (same_new g1) g1 upd_same
end
end Fv
end
section
namespace Fv
open PySem PySem.Spec PyProof.Rows L2
open Mth (RN RS MS nsOf sz Prg)
open Vacfaa (runOf madeOf textOf kindOf toldNats callsOf flowsOf toldAbs isApp valuesAt Abs)
theorem told_two (a:Abs):∃k l:Nat,toldAbs a=[k,l]:=by cases a<;>exact⟨_,_,rfl⟩
section
variable {P:Program} {w:World} {K:PySem.W.Frag} {mg:Str->Option Value} {base:Heap} {A:Ad}
def toldF (fs:List Vacfaa.Flow):List Nat:=fs.length::fs.flatMap fun x=>toldAbs x.abs++toldNats x.ctx
def spFlows (A:Ad):Sp:=fun vs H Q _=>∃(dk:Addr) (p:Ex) (inp:Nat) (l:Int),vs=[.ref dk,.int l]/\DeskAt A H dk p inp/\(¬(0<=l/\l<sz p)->Tells H Q [-3])/\((0<=l/\l<sz p)->Tells H Q (natI (toldF ((flowsOf (runOf p inp)).filter fun c=>c.label==l.toNat))))
theorem scFlows:FnScope ["self","label","flows","answer","flow","string"] ["self","label"] (defScope (inClass (top 65) 11)):=⟨rfl,rfl,rfl,by decide +kernel,rfl,by decide +kernel,by decide +kernel⟩
theorem ok_flows {f:Addr} {fd:FuncData} (T:Txt K w mg A) (F:Fun K "tell_flows" "Desk.tell_flows" (inClass (top 65) 11) f fd) (gHa:MOk P w K mg base CX0 1 A.cDk "has_node" ["self","label"] (spHas A)) (gRu:MOk P w K mg base CX0 8 A.cDk "run" ["self"] (spRun P w A)):FnOk P w K mg base CX0 9 f fd ["self","label"] (spFlows A):=by
 refine F.ok scFlows (fun vs H Q E h=>?_) (fun cdv AA outer s H vs Q E hr h=>?_)
 ·obtain⟨dk,p,inp,l,rfl,_⟩:=h
  rfl
 ·obtain⟨dk,p,inp,l,rfl,D,q1,q2⟩:=h
  obtain⟨PR,hT,lt,ln,⟨dx,hd⟩,ht,hn⟩:=id D
  refine⟨_,pss_cons (ps_if (pt_not (pt_val (pe_mm gHa T.kDk hr (by decide) pass0 (pv 0) (pa_cons (pv 1) pa_nil)))) (pss_one (ps_ret (pe_lst (pa_cons (gi T (-3)) pa_nil)))) pss_nil)
   (pss_cons (ps_setLc (i:=2) (own:=[("flow",4)]) (g:=gName 4) (tt:=tTest (tOp rEq (tOp (rIxT K) (tVar 4) (tC (.int 0))) (tVar 1))) (te:=tVar 4) rfl scFlows.nd rfl rfl (sw_true rfl rfl rfl rfl) (pi_nkeys (sh:=shF) (pf (pe_mm0 gRu T.kDk hr (by decide) pass0 (pv 0)))) (blkOk_by rfl)
    (fun s H C cl fp=>pg_name (i:=4) scFlows.nd rfl (Or.inl rfl)) (fun s H C cl fp=>pts_one (pt_cmpR op_eq (pe_ix ix_tup (pv 4) pe_int (fun _ _=>rfl)) (pv 1) (nomark _))) (fun s H C cl fp=>pv 4))
   (pss_cons (ps_set (i:=3) scFlows.nd rfl (Or.inl rfl) (pe_lst (pa_cons (pe_callB call_len_seq (by rfl) (T.bl "len") bt_len (pa_cons (pv 2) pa_nil)) pa_nil)))
   (pss_cons (ps_for PassesOwn.never rfl (pi_list (pv 2)) (pg_name (i:=4) scFlows.nd rfl (Or.inl rfl))
    (pss_cons (ps_set (i:=5) scFlows.nd rfl (Or.inl rfl) (pe_ix ix_tup (pv 4) pe_int (fun _ _=>rfl)))
    (pss_cons (ps_expr (pe_bm PySem.F.plainAttrs_list PySem.F.slot_list_extend PySem.F.type_list_extend mt_extendT (pv 3) (pa_cons (pe_ix ix_tup (pv 4) pe_int (fun _ _=>rfl)) pa_nil)))
    (pss_cons (ps_expr (pe_bm PySem.F.plainAttrs_list PySem.F.slot_list_append PySem.F.type_list_append mt_append (pv 3) (pa_cons (pe_callB call_len_seq (by rfl) (T.bl "len") bt_len (pa_cons (pv 5) pa_nil)) pa_nil)))
    (pss_one (ps_expr (pe_bm PySem.F.plainAttrs_list PySem.F.slot_list_extend PySem.F.type_list_extend mt_extendT (pv 3) (pa_cons (pv 5) pa_nil))))))))
   (pss_one (ps_ret (pv 3)))))),?_⟩
  refine⟨_,rfl,dk,_,_,rfl,hd,rfl,_,rfl,dk,p,inp,l,rfl,D,_,rfl,?_⟩
  by_cases e:0<=l/\l<sz p
  ·rw[decide_eq_true e]
   refine iteF ?_
   have q:=q2 e
   obtain⟨j,rfl⟩:∃j:Nat,l=(j:Int):=⟨l.toNat,by omega⟩
   rw[Int.toNat_natCast]at q
   refine rdU ?_
   refine⟨_,rfl,dk,_,_,rfl,hd,rfl,dk,p,inp,rfl,D,fun H1 r ln' L S R e1 e2 hb=>?_⟩
   obtain⟨ec,ef⟩:=calls_er e1
   obtain⟨xs,ep,hx1,hx2,hx3⟩:=R.flows
   refine⟨r,A.cRn,_,_,_,rfl,R.run,T.kRn,T.nRn,rfl,L.df,xs,ep,rfl,hx1,hx3,fun D2 hD=>?_⟩
   have hlen:xs.length=S.m.flows.length:=by
    have:=congrArg List.length hx2
    simpa using this
   refine lc_nest (P:=P) (w:=w) (sh:=shF) (d:=L.df) (xs:=xs) (ep:=ep) (fun i H'=>Same H1 H'/\∃qs:List Addr,H' D2=some (.lst (qs.map V.ref))/\Paired (fun q c=>NKeyAt H1 (flowK c) q) qs ((S.m.flows.take i).filter fun c=>c.label==j)) ⟨same_new hD,[],upd_same,.nil⟩ ?_ ?_ ?_
   ·rintro i H' _ ⟨s2,_⟩
    exact⟨s2 _ _ hx1,fun x hx=>keep_key (hx3 x hx) s2⟩
   ·rintro i k qk u H2 hxi ⟨s2,qs,hD2,hpr⟩
    obtain⟨c,hc,rfl⟩:=xs_at hx2 hxi
    have hkey1:=hx3 _ (List.mem_of_getElem? hxi)
    obtain⟨b,b2,hq,hbb,hbb2⟩:=flow_key (keep_key hkey1 s2)
    refine⟨rfl,_,rfl,qk,_,0,.int (c.label:Nat),rfl,rfl,SqT.of hq,atI_nat (j:=0) rfl,_,rfl,rfl,_,rfl,?_⟩
    show if decide (V.int ((c.label:Nat):Int)=V.int ((j:Nat):Int))=true then _ else _
    rw[dI,filt_take hc]
    by_cases hs:c.label=j
    ·rw[decide_eq_true hs]
     refine iteT ?_
     refine⟨_,rfl,_,hD2,?_,?_,?_⟩
     ·rw[List.length_map,Paired.length hpr]
      refine Nat.lt_of_le_of_lt (List.length_filter_le _ _) ?_
      rw[List.length_take]
      exact Nat.lt_of_le_of_lt (Nat.le_trans (Nat.min_le_right _ _) hb.2.2.1) (by decide)
     ·exact fun b o e=>by rw[upd_ne (ne_of_none e hD)];exact s2 b o e
     ·refine⟨qs++[qk],?_,?_⟩
      ·rw[upd_same,List.map_append]
       rfl
      ·rw[if_pos (beq_iff_eq.mpr hs)]
       exact hpr.snoc hkey1
    ·rw[decide_eq_false hs]
     refine iteF ?_
     refine⟨s2,qs,hD2,?_⟩
     rw[if_neg fun z=>hs (beq_iff_eq.mp z),List.append_nil]
     exact hpr
   ·rintro H2 ⟨s2,qs,hD2,hpr⟩
    rw[hlen,List.take_length,ef]at hpr
    have hcs:∀c∈(flowsOf (runOf p inp)).filter fun c=>c.label==j,c.ctx.length<=3:=fun c hc=>hb.2.2.2.2 c (by rw[ef];exact(List.mem_filter.mp hc).1)
    have hcn:((flowsOf (runOf p inp)).filter fun c=>c.label==j).length<=301:=by
     refine Nat.le_trans (List.length_filter_le _ _) ?_
     rw[<-ef]
     exact Nat.le_trans hb.2.2.1 (by decide)
    generalize (flowsOf (runOf p inp)).filter (fun c=>c.label==j)=cs at *
    have hql:=Paired.length hpr
    refine⟨_,rfl,D2,_,rfl,.inl (SqL.of hD2),(by show 1<=sizeLine;decide),fun l2 g2=>?_⟩
    rw[List.length_map,hql]
    refine⟨_,rfl,D2,rfl,⟨_,SqL.of (same_new g2 _ _ hD2)⟩,for_list (K:=K) (a:=D2) (xs:=qs.map V.ref) (fun i σ H'=>(∃v v2,σ=[some (.ref dk),some (.int j),some (.ref D2),some (.ref l2),v,v2])/\Same H2 H'/\H' l2=some (.lst (natV (cs.length::(cs.take i).flatMap fun x=>toldAbs x.abs++toldNats x.ctx)))) ⟨⟨none,none,rfl⟩,same_new g2,upd_same⟩ (fun i σ H' _ z=>SqL.of (z.2.1 _ _ hD2)) ?_ ?_⟩
    ·rintro i x σ H' hx ⟨⟨v,v2,rfl⟩,s3,h3'⟩
     rw[List.getElem?_map]at hx
     cases hqa:qs[i]? with
     |none=>rw[hqa]at hx;cases hx
     |some qk=>
      rw[hqa]at hx
      have hx:V.ref qk=x:=Option.some.inj hx
      subst hx
      obtain⟨c,hc,hkey⟩:=paired_get hpr hqa
      obtain⟨b,b2,hq,hbb,hbb2⟩:=flow_key (keep_key hkey (s2.trans s3))
      have hcl:=hcs c (List.mem_of_getElem? hc)
      obtain⟨ka,la,hta⟩:=told_two c.abs
      refine⟨_,rfl,qk,_,1,.ref b,rfl,rfl,SqT.of hq,atI_nat (j:=1) rfl,?_⟩
      have bnd:(cs.length::(cs.take i).flatMap fun x=>toldAbs x.abs++toldNats x.ctx).length<=1+6*301:=by
       rw[List.length_cons]
       have:((cs.take i).flatMap fun x=>toldAbs x.abs++toldNats x.ctx).length<=6*(cs.take i).length:=flat_lenM _ fun c hc'=>by
        have:=hcs c (List.mem_of_mem_take hc')
        obtain⟨k',l',h'⟩:=told_two c.abs
        rw[h']
        simp only[toldNats,List.length_append,List.length_cons,List.length_nil]
        omega
       rw[List.length_take]at this
       omega
      have big:1+6*301+20<=sizeLine:=by decide
      have nb:b≠l2:=ne_of hbb h3' (by intro z;cases z)
      have nb2:b2≠l2:=ne_of hbb2 h3' (by intro z;cases z)
      refine⟨_,rfl,.inl ⟨rfl,_,SqL.of h3'⟩,_,rfl,qk,_,2,.ref b2,rfl,rfl,SqT.of hq,atI_nat (j:=2) rfl,l2,b2,_,_,rfl,rfl,h3',hbb2,(by rw[natV_len,natV_len,hta];simp only[List.length_cons,List.length_nil]at bnd ⊢;omega),?_⟩
      have hb5:(upd H' l2 (.lst (natV (cs.length::(cs.take i).flatMap fun x=>toldAbs x.abs++toldNats x.ctx)++natV (toldAbs c.abs)))) b=some (.tup (natV c.ctx)):=by rw[upd_ne nb];exact hbb
      refine⟨_,rfl,.inl ⟨rfl,_,SqL.of upd_same⟩,_,rfl,b,_,rfl,.inr (SqT.of hb5),l2,_,_,rfl,rfl,upd_same,(by rw[List.length_append,natV_len,natV_len,hta];simp only[List.length_cons,List.length_nil]at bnd ⊢;omega),?_⟩
      rw[upd_upd]
      have hb6:(upd H' l2 (.lst (natV (cs.length::(cs.take i).flatMap fun x=>toldAbs x.abs++toldNats x.ctx)++natV (toldAbs c.abs)++[.int (natV c.ctx).length]))) b=some (.tup (natV c.ctx)):=by rw[upd_ne nb];exact hbb
      refine⟨_,rfl,.inl ⟨rfl,_,SqL.of upd_same⟩,_,rfl,l2,b,_,_,rfl,rfl,upd_same,hb6,?_,⟨_,_,rfl⟩,?_,?_⟩
      ·rw[List.length_append,List.length_append,natV_len,natV_len,natV_len,hta]
       simp only[List.length_cons,List.length_nil]at bnd ⊢
       omega
      ·exact fun b' o e=>by rw[upd_ne (ne_of_none e g2),upd_ne (ne_of_none e g2)];exact s3 b' o e
      ·rw[upd_same,flat_take hc,natV_len]
       simp[natV,natI,toldNats]
    ·rintro σ H' ⟨⟨v,v2,rfl⟩,s3,h3'⟩
     rw[List.length_map,hql,List.take_length]at h3'
     exact⟨_,rfl,q H' l2 ((R.same.trans s2).trans s3) ((R.same.trans s2).free g2) h3'⟩
  ·rw[decide_eq_false e]
   refine iteT ?_
   refine⟨(by show 1<=sizeLine;decide),fun l1 g1=>?_⟩
   exact q1 e _ l1 (same_new g1) g1 upd_same
abbrev shV:List Bool:=[false,false]
def vK (a:Abs):List NItem:=(natI (toldAbs a)).map Sum.inl
theorem vK_inj (a b:Abs) (h:vK a=vK b):a=b:=by
 refine told_inj (natI_inj ?_)
 exact(List.map_inj_right (fun x y e=>Sum.inl.inj e)).mp h
theorem vK_sh (a:Abs):(vK a).map isTupItem=shV:=by
 obtain⟨k,l,h⟩:=told_two a
 unfold vK
 rw[h]
 rfl
theorem vK_key {H:Hp} {a:Abs} {b:Addr} (h:H b=some (.tup (natV (toldAbs a)))):NKeyAt H (vK a) b:=by
 refine⟨_,h,?_⟩
 obtain⟨k,l,e⟩:=told_two a
 unfold vK
 rw[e]
 exact .int (.int .nil)
theorem vK_of {H:Hp} {a:Abs} {b:Addr} (h:NKeyAt H (vK a) b):H b=some (.tup (natV (toldAbs a))):=by
 obtain⟨vs,h1,h2⟩:=h
 obtain⟨k,l,e⟩:=told_two a
 unfold vK at h2
 rw[e]at h2 ⊢
 cases h2 with
 |int h2=>
  cases h2 with
  |int h2=>
   cases h2
   exact h1
def toldV (vs:List Abs):List Nat:=vs.length::vs.flatMap toldAbs
def spVals (A:Ad):Sp:=fun vs H Q _=>∃(dk:Addr) (p:Ex) (inp:Nat) (l:Int),vs=[.ref dk,.int l]/\DeskAt A H dk p inp/\(¬(0<=l/\l<sz p)->Tells H Q [-3])/\((0<=l/\l<sz p)->Tells H Q (natI (toldV (valuesAt (runOf p inp) l.toNat))))
theorem scVals:FnScope ["self","label","told","flow","answer","what"] ["self","label"] (defScope (inClass (top 65) 10)):=⟨rfl,rfl,rfl,by decide +kernel,rfl,by decide +kernel,by decide +kernel⟩
def valsOf (fl:List Vacfaa.Flow) (j:Nat):List Abs:=((fl.filter fun x=>x.label==j).map fun x=>x.abs).eraseDups
theorem vals_snoc (fl:List Vacfaa.Flow) (c:Vacfaa.Flow) (j:Nat):valsOf (fl++[c]) j=if c.label=j then Vacfaa.addTo (valsOf fl j) c.abs else valsOf fl j:=by
 unfold valsOf
 rw[List.filter_append,List.filter_cons,List.filter_nil]
 by_cases h:c.label=j
 ·rw[if_pos h,if_pos (beq_iff_eq.mpr h),List.map_append,List.map_singleton,ed_snoc]
  unfold Vacfaa.addTo
  by_cases hm:c.abs∈(fl.filter fun x=>x.label==j).map fun x=>x.abs
  ·rw[if_pos hm,if_pos (List.contains_iff_mem.mpr (List.mem_eraseDups.mpr hm))]
  ·rw[if_neg hm,if_neg fun z=>hm (List.mem_eraseDups.mp (List.contains_iff_mem.mp z))]
 ·rw[if_neg h,if_neg fun z=>h (beq_iff_eq.mp z),List.append_nil]
theorem vals_len (fl:List Vacfaa.Flow) (j:Nat):(valsOf fl j).length<=fl.length:=by
 unfold valsOf
 refine Nat.le_trans (ed_len _) ?_
 rw[List.length_map]
 exact List.length_filter_le _ _
theorem ok_vals {f:Addr} {fd:FuncData} (T:Txt K w mg A) (F:Fun K "tell_values" "Desk.tell_values" (inClass (top 65) 10) f fd) (gHa:MOk P w K mg base CX0 1 A.cDk "has_node" ["self","label"] (spHas A)) (gRu:MOk P w K mg base CX0 8 A.cDk "run" ["self"] (spRun P w A)):FnOk P w K mg base CX0 9 f fd ["self","label"] (spVals A):=by
 refine F.ok scVals (fun vs H Q E h=>?_) (fun cdv AA outer s H vs Q E hr h=>?_)
 ·obtain⟨dk,p,inp,l,rfl,_⟩:=h
  rfl
 ·obtain⟨dk,p,inp,l,rfl,D,q1,q2⟩:=h
  obtain⟨PR,hT,lt,ln,⟨dx,hd⟩,ht,hn⟩:=id D
  have hu:(AA.deeper (envOfC "Desk.tell_values" (defScope (inClass (top 65) 10)) s.heap.objs.size f cdv)).units+65<cLine:=by have:=hr.un;omega
  refine⟨_,pss_cons (ps_if (pt_not (pt_val (pe_mm gHa T.kDk hr (by decide) pass0 (pv 0) (pa_cons (pv 1) pa_nil)))) (pss_one (ps_ret (pe_lst (pa_cons (gi T (-3)) pa_nil)))) pss_nil)
   (pss_cons (ps_set (i:=2) scVals.nd rfl (Or.inl rfl) (pe_dnewN (sh:=shV)))
   (pss_cons (ps_for PassesOwn.never rfl (pi_nkeys (sh:=shF) (pf (pe_mm0 gRu T.kDk hr (by decide) pass0 (pv 0)))) (pg_name (i:=3) scVals.nd rfl (Or.inl rfl))
    (pss_one (ps_if (pt_cmpR op_eq (pe_ix ix_tup (pv 3) pe_int (fun _ _=>rfl)) (pv 1) (nomark _)) (pss_one (ps_nput (sh:=shV) hu (pv 2) (pe_ix ix_tup (pv 3) pe_int (fun _ _=>rfl)) pe_bl rfl)) pss_nil)))
   (pss_cons (ps_set (i:=4) scVals.nd rfl (Or.inl rfl) (pe_lst (pa_cons (pe_callB (call_lenN (sh:=shV)) (by rfl) (T.bl "len") bt_len (pa_cons (pv 2) pa_nil)) pa_nil)))
   (pss_cons (ps_for PassesOwn.never rfl (pi_nkeys (sh:=shV) (pv 2)) (pg_name (i:=5) scVals.nd rfl (Or.inl rfl)) (pss_one (ps_expr (pe_bm PySem.F.plainAttrs_list PySem.F.slot_list_extend PySem.F.type_list_extend mt_extendT (pv 4) (pa_cons (pv 5) pa_nil)))))
   (pss_one (ps_ret (pv 4))))))),?_⟩
  refine⟨_,rfl,dk,_,_,rfl,hd,rfl,_,rfl,dk,p,inp,l,rfl,D,_,rfl,?_⟩
  by_cases e:0<=l/\l<sz p
  ·rw[decide_eq_true e]
   refine iteF ?_
   have q:=q2 e
   obtain⟨j,rfl⟩:∃j:Nat,l=(j:Int):=⟨l.toNat,by omega⟩
   rw[Int.toNat_natCast]at q
   intro dv ov gv Nv
   have s0:Same H (upd H dv ov):=same_new gv
   have D0:=D.same s0
   refine rdU ?_
   refine⟨_,rfl,dk,_,_,rfl,s0 _ _ hd,rfl,dk,p,inp,rfl,D0,fun H1 r ln' L S R e1 e2 hb=>?_⟩
   obtain⟨ec,ef⟩:=calls_er e1
   obtain⟨xs,ep,hx1,hx2,hx3⟩:=R.flows
   have N1:NestAt P w shV H1 dv []:=nest_same Nv R.same
   have ndv:L.df≠dv:=fun z=>by
    obtain⟨_,_,ee,_⟩:=Nv
    have:=R.fd.2
    rw[z,ee]at this
    cases this
   refine⟨r,A.cRn,_,_,_,rfl,R.run,T.kRn,T.nRn,rfl,L.df,xs,ep,rfl,hx1,hx3,?_⟩
   have hlen:xs.length=S.m.flows.length:=by
    have:=congrArg List.length hx2
    simpa using this
   refine for_nest (P:=P) (w:=w) (sh:=shF) (d:=L.df) (xs:=xs) (ep:=ep) (fun i σ H'=>(∃v,σ=[some (.ref dk),some (.int j),some (.ref dv),v,none,none])/\But dv H1 H'/\NestAt P w shV H' dv ((valsOf (S.m.flows.take i) j).map vK)) ⟨⟨none,rfl⟩,But.refl,N1⟩ ?_ ?_ ?_
   ·rintro i σ H' _ ⟨_,b2,_⟩
    refine⟨b2 _ _ hx1 ndv,fun x hx=>(hx3 x hx).keeps fun c ys ec'=>b2 c _ ec' fun z=>?_⟩
    obtain⟨_,_,ee,_⟩:=N1
    rw[z,ee]at ec'
    cases ec'
   ·rintro i k qk u σ H' hxi ⟨⟨v,rfl⟩,b2,N2⟩
    obtain⟨c,hc,rfl⟩:=xs_at hx2 hxi
    have hkey1:NKeyAt H' (flowK c) qk:=(hx3 _ (List.mem_of_getElem? hxi)).keeps fun c ys ec'=>b2 c _ ec' fun z=>by
     obtain⟨_,_,ee,_⟩:=N1
     rw[z,ee]at ec'
     cases ec'
    obtain⟨b,b2',hq,hbb,hbb2⟩:=flow_key hkey1
    refine⟨_,rfl,qk,_,0,.int (c.label:Nat),rfl,rfl,SqT.of hq,atI_nat (j:=0) rfl,_,rfl,rfl,_,rfl,?_⟩
    show if decide (V.int ((c.label:Nat):Int)=V.int ((j:Nat):Int))=true then _ else _
    rw[dI,take_more hc,vals_snoc]
    by_cases hs:c.label=j
    ·rw[decide_eq_true hs]
     refine iteT ?_
     refine⟨_,rfl,_,rfl,qk,_,2,.ref b2',rfl,rfl,SqT.of hq,atI_nat (j:=2) rfl,dv,b2',_,vK c.abs,rfl,rfl,N2,vK_key hbb2,vK_sh _,?_,fun o hN=>?_⟩
     ·rw[List.length_map]
      refine Nat.lt_of_le_of_lt (vals_len _ _) ?_
      rw[List.length_take]
      exact Nat.lt_of_le_of_lt (Nat.le_trans (Nat.min_le_right _ _) hb.2.2.1) (by decide)
     ·rw[addN_map vK_inj]at hN
      refine⟨⟨_,rfl⟩,b2.trans But.put,?_⟩
      rw[if_pos hs]
      exact hN
    ·rw[decide_eq_false hs]
     refine iteF ?_
     refine⟨⟨_,rfl⟩,b2,?_⟩
     rw[if_neg hs]
     exact N2
   ·rintro σ H' ⟨⟨v,rfl⟩,b2,N2⟩
    rw[hlen,List.take_length,ef]at N2
    have ev:valsOf (flowsOf (runOf p inp)) j=valuesAt (runOf p inp) j:=rfl
    rw[ev]at N2
    have hvn:(valuesAt (runOf p inp) j).length<=300:=by
     rw[<-ev]
     refine Nat.le_trans (vals_len _ _) ?_
     rw[<-ef]
     exact hb.2.2.1
    have sH:Same H H':=fun b o z=>by
     refine b2 b o (R.same _ _ (s0 b o z)) (ne_of_none z gv)
    generalize valuesAt (runOf p inp) j=vl at *
    refine⟨_,rfl,dv,_,rfl,N2,(by show 1<=sizeLine;decide),fun l2 g2=>?_⟩
    rw[List.length_map]
    have N3:NestAt P w shV (upd H' l2 (.lst [.int vl.length])) dv (vl.map vK):=nest_same N2 (same_new g2)
    obtain⟨ys,ep2,hy1,hy2,hy3⟩:=N3
    refine⟨_,rfl,dv,ys,ep2,rfl,hy1,hy3,?_⟩
    have hyl:ys.length=vl.length:=by
     have:=congrArg List.length hy2
     simpa using this
    have nl2:dv≠l2:=fun z=>by rw[z,upd_same]at hy1;cases hy1
    have hH':∀(b:Addr) (zs:List V),(upd H' l2 (.lst [.int vl.length])) b=some (.tup zs)->H' b=some (.tup zs):=fun b zs ez=>by
     have nb:b≠l2:=fun z=>by rw[z,upd_same]at ez;cases ez
     rw[upd_ne nb]at ez
     exact ez
    have hy1':H' dv=some (nestO P w shV dv ys ep2):=by rw[upd_ne nl2]at hy1;exact hy1
    refine for_nest (P:=P) (w:=w) (sh:=shV) (d:=dv) (xs:=ys) (ep:=ep2) (fun i σ H3=>(∃v2,σ=[some (.ref dk),some (.int j),some (.ref dv),v,some (.ref l2),v2])/\Same H' H3/\H3 l2=some (.lst (natV (vl.length::(vl.take i).flatMap toldAbs)))) ⟨⟨none,rfl⟩,same_new g2,upd_same⟩ ?_ ?_ ?_
    ·rintro i σ H3 _ ⟨_,s3,_⟩
     exact⟨s3 _ _ hy1',fun x hx=>(hy3 x hx).keeps fun b zs ez=>s3 _ _ (hH' b zs ez)⟩
    ·rintro i k qk u σ H3 hyi ⟨⟨v2,rfl⟩,s3,h3'⟩
     obtain⟨c,hc,rfl⟩:=xs_at hy2 hyi
     have hq:H3 qk=some (.tup (natV (toldAbs c))):=vK_of ((hy3 _ (List.mem_of_getElem? hyi)).keeps fun b zs ez=>s3 _ _ (hH' b zs ez))
     obtain⟨ka,la,hta⟩:=told_two c
     have bnd:((vl.take i).flatMap toldAbs).length<=2*(vl.take i).length:=flat_len (fun x=>by obtain⟨k',l',h'⟩:=told_two x;rw[h'];exact Nat.le_refl _) _
     rw[List.length_take]at bnd
     have big:1+2*300+2<=sizeLine:=by decide
     refine⟨_,rfl,.inl ⟨rfl,_,SqL.of h3'⟩,_,rfl,l2,qk,_,_,rfl,rfl,h3',hq,?_,⟨_,rfl⟩,?_,?_⟩
     ·rw[natV_len,natV_len,hta]
      simp only[List.length_cons,List.length_nil]
      omega
     ·exact fun b o ez=>by rw[upd_ne (ne_of_none ez g2)];exact s3 b o ez
     ·rw[upd_same,flat_take hc]
      simp[natV,natI]
    ·rintro σ H3 ⟨⟨v2,rfl⟩,s3,h3'⟩
     rw[hyl,List.take_length]at h3'
     exact⟨_,rfl,q H3 l2 (sH.trans s3) (sH.free g2) h3'⟩
  ·rw[decide_eq_false e]
   refine iteT ?_
   refine⟨(by show 1<=sizeLine;decide),fun l1 g1=>?_⟩
   exact q1 e _ l1 (same_new g1) g1 upd_same
end
end Fv
end
section
namespace Fv
open PySem PySem.Spec PyProof.Rows L2
open Mth (RN RS MS nsOf sz Prg)
open Vacfaa (runOf madeOf textOf programOf)
theorem prog_is {t:Tx} {p:Ex} (h:programOf t=some p):Prg p/\textOf p=t:=by
 obtain⟨h1,h2⟩:=(Mth.programOf_iff t p).mp h
 exact⟨Mth.prg_of h1,h2⟩
section
variable {P:Program} {w:World} {K:PySem.W.Frag} {mg:Str->Option Value} {base:Heap} {A:Ad}
theorem pass1 {X:Cx} {C:Addr}:Passes (CX1 P w C) X E0:=fun _ _ _ _ _ _ _ h=>by
 obtain⟨a,a0,B,H',h1,h2,h3,h4,h5,h6,h7,h8,h9,hE⟩:=h
 exact hE.elim
def p0:Ex:=.num 0 0
theorem p0_is:programOf [48]=some p0:=by decide +kernel
def spDkI (A:Ad):Sp:=fun vs H Q _=>∃(p dx:Addr),vs=[.ref p]/\H p=some (.ins A.cDk dx [])/\∀H',DeskAt A H' p p0 0->But p H H'->Q .non H'
theorem scDk:FnScope ["self"] ["self"] (defScope (inClass (top 65) 0)):=⟨rfl,rfl,rfl,by decide +kernel,rfl,by decide +kernel,by decide +kernel⟩
theorem ft_in (A:Ad):(("FIRST_TEXT",A.ft,[48]):Str×Addr×List Int)∈glTups A:=by simp[glTups]
theorem ok_Dk {f:Addr} {fd:FuncData} (T:Txt K w mg A) (F:Fun K "__init__" "Desk.__init__" (inClass (top 65) 0) f fd) (gRe:DOk P w K mg base (CX1 P w A.cNp) 9 "read_nodes" ["text"] (spRead A)):FnOk P w K mg base CX0 10 f fd ["self"] (spDkI A):=by
 refine F.ok scDk (fun vs H Q E h=>?_) (fun cdv AA outer s H vs Q E hr h=>?_)
 ·obtain⟨p,dx,rfl,_⟩:=h
  rfl
 ·obtain⟨p,dx,rfl,hp,q⟩:=h
  refine⟨_,pss_cons (ps_fld (pv 0) (pe_callTy call_list_of (by rfl) (T.bl "list") bt_list (pa_cons (gt T A.ft [48] (ft_in A)) pa_nil)) rfl)
   (pss_cons (ps_fld (pv 0) (pe_dd gRe hr (by decide) rfl pass1 (pa_cons (pf (pv 0)) pa_nil)) rfl) (pss_one (ps_fld (pv 0) pe_int rfl))),?_⟩
  refine⟨A.ft,_,rfl,.inr (T.sq (ft_in A) _),fun lt hlt=>?_⟩
  have s1:Same H (upd H lt (.lst (([48]:List Int).map V.int))):=same_new hlt
  refine⟨_,rfl,p,_,dx,[],rfl,s1 _ _ hp,T.kDk,T.nDk,by decide,?_⟩
  have nlt:lt≠p:=fun z=>by rw[z,hp]at hlt;cases hlt
  have b1:But p H (upd (upd H lt (.lst (([48]:List Int).map V.int))) p (.ins A.cDk dx (putF "text" (.ref lt) []))):=(But.new hlt).trans But.put
  have hlt1:(upd (upd H lt (.lst (([48]:List Int).map V.int))) p (.ins A.cDk dx (putF "text" (.ref lt) []))) lt=some (.lst (txV [48])):=by rw[upd_ne nlt];exact upd_same
  have hp1:(upd (upd H lt (.lst (([48]:List Int).map V.int))) p (.ins A.cDk dx (putF "text" (.ref lt) []))) p=some (.ins A.cDk dx (putF "text" (.ref lt) [])):=upd_same
  generalize upd (upd H lt (.lst (([48]:List Int).map V.int))) p (.ins A.cDk dx (putF "text" (.ref lt) []))=H1 at b1 hlt1 hp1 ⊢
  refine rdF rfl ⟨dx,hp1⟩ T.kDk T.nDk rfl ?_
  refine⟨lt,[48],rfl,hlt1,by decide,fun pp hpp H2 ln s2 N2=>?_,fun hn=>by rw[p0_is]at hn;cases hn⟩
  rw[p0_is]at hpp
  cases hpp
  refine⟨_,rfl,p,_,dx,_,rfl,s2 _ _ hp1,T.kDk,T.nDk,(by show 1<1000;decide),?_⟩
  refine⟨_,rfl,p,_,dx,_,rfl,upd_same,T.kDk,T.nDk,(by show 2<1000;decide),?_⟩
  rw[upd_upd]
  have b2:But p H2 (upd H2 p (.ins A.cDk dx (putF "given" (.int 0) (putF "nodes" (.ref ln) (putF "text" (.ref lt) []))))):=But.put
  refine q _ ⟨(prog_is p0_is).1,by decide,lt,ln,⟨dx,upd_same⟩,?_,nodes_but T.nd N2.at (s2 _ _ hp1) b2⟩ ((b1.trans fun b o e _=>s2 b o e).trans b2)
  exact b2 _ _ (s2 _ _ hlt1) nlt
inductive spProg (A:Ad) (vs:List V) (H:Hp) (Q:VK) (E:XK):Prop
 |mk (X:Addr->Prop) (dk lt:Addr) (p:Ex) (inp:Nat) (t:Tx) (_:vs=[.ref dk,.ref lt]) (_:DeskX A X H dk p inp) (_:H lt=some (.lst (txV t))) (_:¬X lt) (_:∀x,X x->H x≠none) (_:t.length<=2000) (_:∀p',programOf t=some p'->Ans A X dk H Q p' inp [(sz p':Int)]) (_:programOf t=none->Ans A X dk H Q p inp [-1])
theorem scProg:FnScope ["self","text","nodes"] ["self","text"] (defScope (inClass (top 65) 4)):=⟨rfl,rfl,rfl,by decide +kernel,rfl,by decide +kernel,by decide +kernel⟩
theorem ok_prog {f:Addr} {fd:FuncData} (T:Txt K w mg A) (TE:TxE K mg A) (F:Fun K "take_program" "Desk.take_program" (inClass (top 65) 4) f fd) (gRe:DOk P w K mg base (CX1 P w A.cNp) 9 "read_nodes" ["text"] (spRead A)):FnOk P w K mg base CX0 10 f fd ["self","text"] (spProg A):=by
 refine F.ok scProg (fun vs H Q E h=>?_) (fun cdv AA outer s H vs Q E hr h=>?_)
 ·obtain⟨X,dk,lt,p,inp,t,rfl,_⟩:=h
  rfl
 ·obtain⟨X,dk,lt,p,inp,t,rfl,D,ht,hxl,hX,htl,q1,q2⟩:=h
  obtain⟨PR,hT,lt0,ln0,⟨dx,hd⟩,ht0,hx0,hn0⟩:=id D
  obtain⟨fr,fdr,FR,br,mr,kr⟩:=gRe.ex
  refine⟨_,pss_cons (ps_tryCall (i:=2) (C:=A.cNp) rfl rfl rfl rfl FR (hr.mono (by decide)) rfl mr kr br (pa_cons (pv 1) pa_nil) scProg.nd rfl (Or.inl rfl) rfl TE.np TE.npk (fun ev=>pss_one (ps_ret (pe_lst (pa_cons (gi T (-1)) pa_nil)))))
   (pss_cons (ps_fld (pv 0) (pv 1) rfl) (pss_cons (ps_fld (pv 0) (pv 2) rfl) (pss_one (ps_ret (pe_lst (pa_cons (pe_callB call_len_seq (by rfl) (T.bl "len") bt_len (pa_cons (pv 2) pa_nil)) pa_nil)))))),?_⟩
  refine⟨_,rfl,lt,t,rfl,ht,htl,fun pp hpp H1 ln s1 N1=>?_,fun hn H1 s1=>?_⟩
  ·obtain⟨PR',eT⟩:=prog_is hpp
   refine⟨_,rfl,_,rfl,dk,A.cDk,dx,_,rfl,s1 _ _ hd,T.kDk,T.nDk,(by show 3<1000;decide),?_⟩
   refine⟨_,rfl,_,rfl,dk,A.cDk,dx,_,rfl,upd_same,T.kDk,T.nDk,(by show 3<1000;decide),?_⟩
   rw[upd_upd]
   have b2:But dk H1 (upd H1 dk (.ins A.cDk dx (putF "nodes" (.ref ln) (putF "text" (.ref lt) (fDk lt0 ln0 inp))))):=But.put
   have D2:DeskX A X (upd H1 dk (.ins A.cDk dx (putF "nodes" (.ref ln) (putF "text" (.ref lt) (fDk lt0 ln0 inp))))) dk pp inp:=⟨PR',by rw[eT];exact htl,lt,ln,⟨dx,upd_same⟩,by rw[eT];exact b2 _ _ (s1 _ _ ht) (ne_of (s1 _ _ ht) (s1 _ _ hd) (by intro z;cases z)),hxl,nodesX_but T.nd (N1.imp hX) (s1 _ _ hd) b2⟩
   have N2:=nodes_but T.nd N1.at (s1 _ _ hd) b2
   obtain⟨as,h1,h2⟩:=nodes_len N2
   refine⟨_,rfl,ln,_,rfl,.inl (SqL.of h1),(by show 1<=sizeLine;decide),fun l hl=>?_⟩
   refine q1 pp hpp _ l (D2.same (same_new hl)) (fun b o e nb=>same_new hl _ _ (b2 b o (s1 b o e) nb)) (s1.free (but_free b2 upd_same hl)) ?_
   rw[upd_same,List.length_map]
   have e:as.length=sz pp:=by rw[h2];exact Mth.ns_len pp
   rw[e]
   rfl
  ·refine⟨(by show 1<=sizeLine;decide),fun l hl=>?_⟩
   exact(q2 hn).tells D _ l (s1.trans (same_new hl)) (s1.free hl) upd_same
end
end Fv
end
section
namespace Fv
open PySem PySem.Spec PyProof.Rows L2
open Mth (RN RS MS nsOf sz Prg AskIs lenC)
open Vacfaa (runOf madeOf textOf programOf funsOf sitesOf nodeAt)
section
variable {P:Program} {w:World} {K:PySem.W.Frag} {mg:Str->Option Value} {base:Heap} {A:Ad}
inductive spLenC (K:PySem.W.Frag) (vs:List V) (H:Hp) (Q:VK) (E:XK):Prop
 |mk (a:Addr) (pl:Nat) (ns:List Int) (p:Int) (r:List Int) (_:vs=[.ref a,.int pl]) (_:SqL K H a (ns.map V.int)) (_:ns.drop pl=p::r) (_:p=0->∃y,r[0]?=some y) (_:∀H',Same H H'->Q (.int (lenC (p::r))) H')
theorem scLenC:FnScope ["calls","place"] ["calls","place"] (defScope (top 81)):=⟨rfl,rfl,rfl,by decide +kernel,rfl,by decide +kernel,by decide +kernel⟩
theorem drop_at {l:List Int} {i:Nat} {p:Int} {r:List Int} (h:l.drop i=p::r) (j:Nat):(l.map V.int)[i+j]?=((p::r)[j]?).map V.int:=by
 rw[List.getElem?_map,<-h,List.getElem?_drop]
theorem in5 (p:Int):inV (.int p) [.int 2,.int 5,.int 6,.int 7,.int 8]=decide (p=2\/p=5\/p=6\/p=7\/p=8):=by
 simp only[inV,List.any_cons,List.any_nil,eqV,Bool.or_false]
 rw[Bool.eq_iff_iff]
 simp only[Bool.or_eq_true,beq_iff_eq,decide_eq_true_eq]
 constructor
 ·rintro(h|h|h|h|h)<;>subst h<;>simp
 ·rintro(h|h|h|h|h)<;>subst h<;>simp
theorem ok_lenC {f:Addr} {fd:FuncData} (T:Txt K w mg A) (F:Fun K "length_of_call" "length_of_call" (top 81) f fd):FnOk P w K mg base CX0 1 f fd ["calls","place"] (spLenC K):=by
 refine F.ok scLenC (fun vs H Q E h=>?_) (fun cdv AA outer s H vs Q E hr h=>?_)
 ·obtain⟨a,pl,ns,p,r,rfl,_⟩:=h
  rfl
 ·obtain⟨a,pl,ns,p,r,rfl,hs,hd,h0,q⟩:=h
  have at0:(ns.map V.int)[pl]?=some (.int p):=drop_at hd 0
  refine⟨_,pss_cons (ps_if (pt_cmpR op_eq (pe_ix ix_list (pv 0) (pv 1) (fun _ _=>rfl)) (gi T 0) (nomark _)) (pss_one (ps_ret (pe_op op_add pe_int (pe_ix ix_list (pv 0) (pe_op op_add (pv 1) pe_int) (fun _ _=>rfl))))) pss_nil)
   (pss_cons (ps_if (pt_cmpR op_in_seq (pe_ix ix_list (pv 0) (pv 1) (fun _ _=>rfl)) (pe_tup (pa_cons (gi T 2) (pa_cons (gi T 5) (pa_cons (gi T 6) (pa_cons (gi T 7) (pa_cons (gi T 8) pa_nil)))))) rfl) (pss_one (ps_ret pe_int)) pss_nil)
   (pss_one (ps_ret pe_int))),?_⟩
  refine⟨_,rfl,_,rfl,a,_,_,.int p,rfl,rfl,hs,atI_nat at0,rfl,_,rfl,?_⟩
  by_cases e0:p=0
  ·have d:decide (V.int p=V.int 0)=true:=by rw[e0];rfl
   rw[d]
   refine iteT ?_
   obtain⟨y,hy⟩:=h0 e0
   have at1:(ns.map V.int)[pl+1]?=some (.int y):=by rw[drop_at hd 1];show(r[0]?).map V.int=_;rw[hy];rfl
   refine⟨_,rfl,_,rfl,_,_,rfl,rfl,a,_,_,.int y,rfl,rfl,hs,atI_nat at1,_,_,rfl,rfl,?_⟩
   have e:lenC (p::r)=2+y:=by
    rw[e0]
    show 2+r.headD 0=2+y
    cases r with
    |nil=>cases hy
    |cons z r=>cases hy;rfl
   rw[e]at q
   exact q H same_refl
  ·have d:decide (V.int p=V.int 0)=false:=decide_eq_false fun z=>e0 (by injection z)
   rw[d]
   refine iteF ?_
   refine⟨_,rfl,_,rfl,a,_,_,.int p,rfl,rfl,hs,atI_nat at0,(by show 5<=sizeLine;decide),fun t g=>?_⟩
   refine⟨t,_,rfl,.inr (SqT.of upd_same),rfl,rfl,_,rfl,?_⟩
   have e5:(if false=true then !inV (.int p) [.int 2,.int 5,.int 6,.int 7,.int 8]else inV (.int p) [.int 2,.int 5,.int 6,.int 7,.int 8])=decide (p=2\/p=5\/p=6\/p=7\/p=8):=in5 p
   rw[e5]
   by_cases h5:p=2\/p=5\/p=6\/p=7\/p=8
   ·rw[decide_eq_true h5]
    refine iteT ?_
    have e:lenC (p::r)=2:=by simp[lenC,e0,h5]
    rw[e]at q
    exact q _ (same_new g)
   ·rw[decide_eq_false h5]
    refine iteF ?_
    have e:lenC (p::r)=1:=by simp[lenC,e0,h5]
    rw[e]at q
    exact q _ (same_new g)
theorem eqT {σ:L2.St} {H:Hp} {i:Nat} {n m:Int} {t u:TS} {D:Ends} (h:n=m) (hσ:σ[i]?=some (some (.int n))) (q:t D σ H):tIfS (tTest (tOp rEq (tVar i) (tC (.int m)))) t u D σ H:=by
 refine⟨_,hσ,rfl,_,rfl,?_⟩
 rw[show decide (V.int n=V.int m)=true by rw[h];simp]
 exact iteT q
theorem eqF {σ:L2.St} {H:Hp} {i:Nat} {n m:Int} {t u:TS} {D:Ends} (h:n≠m) (hσ:σ[i]?=some (some (.int n))) (q:u D σ H):tIfS (tTest (tOp rEq (tVar i) (tC (.int m)))) t u D σ H:=by
 refine⟨_,hσ,rfl,_,rfl,?_⟩
 rw[show decide (V.int n=V.int m)=false from decide_eq_false fun z=>h (by injection z)]
 exact iteF q
theorem Ans.mono {X:Addr->Prop} {dk:Addr} {H H1:Hp} {Q:VK} {p:Ex} {inp:Nat} {ans:List Int} (h:Ans A X dk H Q p inp ans) (s:Same H H1):Ans A X dk H1 Q p inp ans:=fun H' l D b f e=>h H' l D (fun c o z n=>b c o (s c o z) n) (s.free f) e
abbrev stepA (p:Ex) (inp:Nat) (k:Vacfaa.Ask):Vacfaa.State×Vacfaa.Answer:=Vacfaa.step ⟨p,inp⟩ k
inductive spAC (A:Ad) (vs:List V) (H:Hp) (Q:VK) (E:XK):Prop
 |mk (X:Addr->Prop) (dk lc:Addr) (p:Ex) (inp:Nat) (cl:List Int) (k:Vacfaa.Ask) (_:vs=[.ref dk,.ref lc]) (_:DeskX A X H dk p inp) (_:∀x,X x->H x≠none) (_:H lc=some (.lst (cl.map V.int))) (_:AskIs cl k) (_:Ans A X dk H Q (stepA p inp k).1.prog (stepA p inp k).1.input (VacfaaNeutral.encode (stepA p inp k).2))
theorem scAC:FnScope ["desk","call","number"] ["desk","call"] (defScope (top 82)):=⟨rfl,rfl,rfl,by decide +kernel,rfl,by decide +kernel,by decide +kernel⟩
theorem node_at {p:Ex} (PR:Prg p) {l:Int} (h:0<=l/\l<sz p):∃e,(Vacfaa.nodesOf p)[l.toNat]?=some e/\nodeAt p l.toNat=some e/\Vacfaa.labelOf e=l.toNat:=by
 obtain⟨a,ha⟩:=Mth.some_at (l:=Mth.ann [] 0 0 p) (i:=l.toNat) (by rw[Mth.ann_len];omega)
 have h1:=node_ann ha
 exact⟨a.e,h1,by rw[Mth.nodeAt_get PR];exact h1,(Mth.rows_prg PR _ a ha).lab⟩
theorem node_no {p:Ex} (PR:Prg p) {l:Int} (h:¬(0<=l/\l<sz p)) (f:Vacfaa.Expr->Vacfaa.Out_) (inp:Nat):Vacfaa.onNode ⟨p,inp⟩ l f=.error 3:=by
 unfold Vacfaa.onNode
 by_cases h0:l<0
 ·rw[if_pos h0]
 ·rw[if_neg h0]
  have e:nodeAt p l.toNat=none:=by
   rw[Mth.nodeAt_get PR]
   refine List.getElem?_eq_none ?_
   show(Vacfaa.nodesOf p).length<=l.toNat
   have:(Vacfaa.nodesOf p).length=sz p:=rfl
   omega
  show Vacfaa.given (nodeAt p l.toNat) 3 f=_
  rw[e]
  rfl
theorem node_yes {p:Ex} {l:Int} (h:0<=l) {e:Vacfaa.Expr} (he:nodeAt p l.toNat=some e) (f:Vacfaa.Expr->Vacfaa.Out_) (inp:Nat):Vacfaa.onNode ⟨p,inp⟩ l f=f e:=by
 unfold Vacfaa.onNode
 rw[if_neg (by omega)]
 show Vacfaa.given (nodeAt p l.toNat) 3 f=_
 rw[he]
 rfl
theorem step_err {p:Ex} {inp n:Nat} {k:Vacfaa.Ask} (h:Vacfaa.does ⟨p,inp⟩ k=.error n):stepA p inp k=(⟨p,inp⟩,.refused n):=by
 unfold stepA Vacfaa.step
 rw[h]
theorem step_ok {p:Ex} {inp:Nat} {st:Vacfaa.State} {l:List Nat} {k:Vacfaa.Ask} (h:Vacfaa.does ⟨p,inp⟩ k=.ok (st,l)):stepA p inp k=(st,.told l):=by
 unfold stepA Vacfaa.step
 rw[h]
theorem step_tell {p:Ex} {inp:Nat} {l:List Nat} {k:Vacfaa.Ask} (h:Vacfaa.does ⟨p,inp⟩ k=.ok (⟨p,inp⟩,l)):stepA p inp k=(⟨p,inp⟩,.told l):=by
 unfold stepA Vacfaa.step
 rw[h]
theorem ok_ac {f:Addr} {fd:FuncData} (T:Txt K w mg A) (F:Fun K "answer_of_call" "answer_of_call" (top 82) f fd)
  (g0:MOk P w K mg base CX0 10 A.cDk "take_program" ["self","text"] (spProg A))
  (g1:MOk P w K mg base CX0 1 A.cDk "tell_text" ["self"] (spText A))
  (g2:MOk P w K mg base CX0 1 A.cDk "take_given" ["self","given"] (spGiven A))
  (g3:MOk P w K mg base CX0 9 A.cDk "tell_run" ["self"] (spTRun A))
  (g4:MOk P w K mg base CX0 9 A.cDk "tell_arrows" ["self"] (spTArr A))
  (g5:MOk P w K mg base CX0 9 A.cDk "tell_calls" ["self","label"] (spCalls A))
  (g6:MOk P w K mg base CX0 9 A.cDk "tell_values" ["self","label"] (spVals A))
  (g7:MOk P w K mg base CX0 9 A.cDk "tell_flows" ["self","label"] (spFlows A))
  (g8:MOk P w K mg base CX0 2 A.cDk "tell_node" ["self","label"] (spNode A))
  (g9:MOk P w K mg base CX0 2 A.cDk "tell_funs" ["self"] (spLab A funsOf))
  (g10:MOk P w K mg base CX0 2 A.cDk "tell_sites" ["self"] (spLab A sitesOf))
  (g11:MOk P w K mg base CX0 9 A.cDk "tell_heap" ["self"] (spHeap A))
  (g12:MOk P w K mg base CX0 9 A.cDk "tell_size" ["self"] (spSize A))
  : FnOk P w K mg base CX0 11 f fd ["desk","call"] (spAC A):=by
 refine F.ok scAC (fun vs H Q E h=>?_) (fun cdv AA outer s H vs Q E hr h=>?_)
 ·obtain⟨X,dk,lc,p,inp,cl,k,rfl,_⟩:=h
  rfl
 ·obtain⟨X,dk,lc,p,inp,cl,k,rfl,D,hX,hc,hk,q⟩:=h
  obtain⟨PR,hT,lt,ln,⟨dx,hd⟩,ht,hxt,hn⟩:=id D
  refine⟨_,pss_cons (ps_set (i:=2) scAC.nd rfl (Or.inl rfl) (pe_ix ix_list (pv 1) pe_int (fun _ _=>rfl)))
   (pss_cons (ps_if (pt_cmpR op_eq (pv 2) (gi T 0) (nomark _)) (pss_one (ps_ret (pe_mm g0 T.kDk hr (by decide) pass0 (pv 0) (pa_cons (pe_slice sl_list (pv 1) (po_some pe_int) po_none) pa_nil)))) pss_nil)
   (pss_cons (ps_if (pt_cmpR op_eq (pv 2) (gi T 1) (nomark _)) (pss_one (ps_ret (pe_mm0 g1 T.kDk hr (by decide) pass0 (pv 0)))) pss_nil)
   (pss_cons (ps_if (pt_cmpR op_eq (pv 2) (gi T 2) (nomark _)) (pss_one (ps_ret (pe_mm g2 T.kDk hr (by decide) pass0 (pv 0) (pa_cons (pe_ix ix_list (pv 1) pe_int (fun _ _=>rfl)) pa_nil)))) pss_nil)
   (pss_cons (ps_if (pt_cmpR op_eq (pv 2) (gi T 3) (nomark _)) (pss_one (ps_ret (pe_mm0 g3 T.kDk hr (by decide) pass0 (pv 0)))) pss_nil)
   (pss_cons (ps_if (pt_cmpR op_eq (pv 2) (gi T 4) (nomark _)) (pss_one (ps_ret (pe_mm0 g4 T.kDk hr (by decide) pass0 (pv 0)))) pss_nil)
   (pss_cons (ps_if (pt_cmpR op_eq (pv 2) (gi T 5) (nomark _)) (pss_one (ps_ret (pe_mm g5 T.kDk hr (by decide) pass0 (pv 0) (pa_cons (pe_ix ix_list (pv 1) pe_int (fun _ _=>rfl)) pa_nil)))) pss_nil)
   (pss_cons (ps_if (pt_cmpR op_eq (pv 2) (gi T 6) (nomark _)) (pss_one (ps_ret (pe_mm g6 T.kDk hr (by decide) pass0 (pv 0) (pa_cons (pe_ix ix_list (pv 1) pe_int (fun _ _=>rfl)) pa_nil)))) pss_nil)
   (pss_cons (ps_if (pt_cmpR op_eq (pv 2) (gi T 7) (nomark _)) (pss_one (ps_ret (pe_mm g7 T.kDk hr (by decide) pass0 (pv 0) (pa_cons (pe_ix ix_list (pv 1) pe_int (fun _ _=>rfl)) pa_nil)))) pss_nil)
   (pss_cons (ps_if (pt_cmpR op_eq (pv 2) (gi T 8) (nomark _)) (pss_one (ps_ret (pe_mm g8 T.kDk hr (by decide) pass0 (pv 0) (pa_cons (pe_ix ix_list (pv 1) pe_int (fun _ _=>rfl)) pa_nil)))) pss_nil)
   (pss_cons (ps_if (pt_cmpR op_eq (pv 2) (gi T 9) (nomark _)) (pss_one (ps_ret (pe_mm0 g9 T.kDk hr (by decide) pass0 (pv 0)))) pss_nil)
   (pss_cons (ps_if (pt_cmpR op_eq (pv 2) (gi T 10) (nomark _)) (pss_one (ps_ret (pe_mm0 g10 T.kDk hr (by decide) pass0 (pv 0)))) pss_nil)
   (pss_cons (ps_if (pt_cmpR op_eq (pv 2) (gi T 11) (nomark _)) (pss_one (ps_ret (pe_mm0 g11 T.kDk hr (by decide) pass0 (pv 0)))) pss_nil)
   (pss_one (ps_ret (pe_mm0 g12 T.kDk hr (by decide) pass0 (pv 0)))))))))))))))),?_⟩
  cases hk with
  |program n t htl=>
   refine⟨_,rfl,lc,_,0,.int 0,rfl,rfl,SqL.of hc,atI_nat (j:=0) rfl,?_⟩
   refine eqT rfl rfl ?_
   have ecut:cutV ((0::n::t.map fun b=>((b.toNat:Nat):Int)).map V.int) (some 2) none=txV t:=by
    unfold cutV
    have e2:HT.sIx ((0::n::t.map fun b=>((b.toNat:Nat):Int)).map V.int).length 0 (some (2:Int))=2:=by
     have:=HT.sIx_nat ((0::n::t.map fun b=>((b.toNat:Nat):Int)).map V.int).length 0 2
     rw[show((2:Nat):Int)=2 from rfl]at this
     rw[this]
     simp
    rw[e2,HT.sIx_none]
    simp[txV,natV,natI,List.take_of_length_le]
   refine⟨_,rfl,dk,_,_,rfl,hd,rfl,_,rfl,2,rfl,lc,_,rfl,SqL.of hc,fun l1 g1=>?_⟩
   rw[ecut]
   have s1:Same H (upd H l1 (.lst (txV t))):=same_new g1
   refine⟨X,dk,l1,p,inp,t,rfl,D.same s1,upd_same,(fun z=>hX l1 z g1),(fun x z=>by cases e:H x with|none=>exact absurd e (hX x z)|some o=>rw[s1 _ _ e];simp),htl,fun p' hp'=>?_,fun hno=>?_⟩
   ·have e:stepA p inp (.program t)=(⟨p',inp⟩,.told [(Vacfaa.labelsOf p').length]):=step_ok (by
     show Vacfaa.given (programOf t) 1 _=_
     rw[hp']
     rfl)
    rw[e]at q
    have q:Ans A X dk H Q p' inp [((Vacfaa.labelsOf p').length:Int)]:=q
    rw[Mth.len_labels]at q
    exact q.mono s1
   ·have e:stepA p inp (.program t)=(⟨p,inp⟩,.refused 1):=step_err (by
     show Vacfaa.given (programOf t) 1 _=_
     rw[hno]
     rfl)
    rw[e]at q
    exact Ans.mono q s1
  |input x=>
   refine⟨_,rfl,lc,_,0,.int 2,rfl,rfl,SqL.of hc,atI_nat (j:=0) rfl,?_⟩
   iterate 2 refine eqF (by decide) rfl ?_
   refine eqT rfl rfl ?_
   refine⟨_,rfl,dk,_,_,rfl,hd,rfl,_,rfl,lc,_,1,.int x,rfl,rfl,SqL.of hc,atI_nat (j:=1) rfl,X,dk,p,inp,x,rfl,D,fun hx=>?_,fun hx=>?_⟩
   ·have e:stepA p inp (.input x)=(⟨p,inp⟩,.refused 2):=step_err (by
     show(if x<0\/(Vacfaa.INPUTS:Int)<=x then _ else _)=_
     rw[if_pos (show x<0\/(Vacfaa.INPUTS:Int)<=x from hx)])
    rw[e]at q
    exact q
   ·have e:stepA p inp (.input x)=(⟨p,x.toNat⟩,.told [inp]):=step_ok (by
     show(if x<0\/(Vacfaa.INPUTS:Int)<=x then _ else _)=_
     rw[if_neg (show ¬(x<0\/(Vacfaa.INPUTS:Int)<=x)from hx)])
    rw[e]at q
    exact q
  |show_=>
   refine⟨_,rfl,lc,_,0,.int 1,rfl,rfl,SqL.of hc,atI_nat (j:=0) rfl,?_⟩
   refine eqF (by decide) rfl ?_
   refine eqT rfl rfl ?_
   refine⟨_,rfl,dk,_,_,rfl,hd,rfl,dk,p,inp,rfl,D.at,?_⟩
   exact Ans.tells (p:=p) (inp:=inp) q D
  |run=>
   refine⟨_,rfl,lc,_,0,.int 3,rfl,rfl,SqL.of hc,atI_nat (j:=0) rfl,?_⟩
   iterate 3 refine eqF (by decide) rfl ?_
   refine eqT rfl rfl ?_
   refine⟨_,rfl,dk,_,_,rfl,hd,rfl,dk,p,inp,rfl,D.at,?_⟩
   exact Ans.tells (p:=p) (inp:=inp) q D
  |arrows=>
   refine⟨_,rfl,lc,_,0,.int 4,rfl,rfl,SqL.of hc,atI_nat (j:=0) rfl,?_⟩
   iterate 4 refine eqF (by decide) rfl ?_
   refine eqT rfl rfl ?_
   refine⟨_,rfl,dk,_,_,rfl,hd,rfl,dk,p,inp,rfl,D.at,?_⟩
   exact Ans.tells (p:=p) (inp:=inp) q D
  |calls x=>
   refine⟨_,rfl,lc,_,0,.int 5,rfl,rfl,SqL.of hc,atI_nat (j:=0) rfl,?_⟩
   iterate 5 refine eqF (by decide) rfl ?_
   refine eqT rfl rfl ?_
   refine⟨_,rfl,dk,_,_,rfl,hd,rfl,_,rfl,lc,_,1,.int x,rfl,rfl,SqL.of hc,atI_nat (j:=1) rfl,dk,p,inp,x,rfl,D.at,fun hx=>?_,?_⟩
   ·have e:stepA p inp (.calls x)=(⟨p,inp⟩,.refused 3):=step_err (node_no PR hx _ inp)
    rw[e]at q
    exact Ans.tells (p:=p) (inp:=inp) q D
   ·intro e0 h0 he0
    have hin:0<=x/\x<sz p:=⟨h0,by have h9:x.toNat<(Vacfaa.nodesOf p).length:=(List.getElem?_eq_some_iff.mp he0).1;have h8:(Vacfaa.nodesOf p).length=sz p:=rfl;omega⟩
    obtain⟨e1,h1,h2,h3⟩:=node_at PR hin
    rw[he0]at h1
    cases h1
    refine⟨fun ha=>?_,fun ha=>?_⟩
    ·have e:stepA p inp (.calls x)=(⟨p,inp⟩,.refused 5):=step_err (by
      show Vacfaa.onNode ⟨p,inp⟩ x _=_
      rw[node_yes h0 h2,if_pos ha])
     rw[e]at q
     exact Ans.tells (p:=p) (inp:=inp) q D
    ·have e:stepA p inp (.calls x)=(⟨p,inp⟩,.told (toldC ((Vacfaa.callsOf (runOf p inp)).filter fun c=>c.site==x.toNat))):=step_tell (by
      show Vacfaa.onNode ⟨p,inp⟩ x _=_
      rw[node_yes h0 h2,if_neg (by rw[ha];simp),h3]
      rfl)
     rw[e]at q
     exact Ans.tells (p:=p) (inp:=inp) q D
  |values x=>
   refine⟨_,rfl,lc,_,0,.int 6,rfl,rfl,SqL.of hc,atI_nat (j:=0) rfl,?_⟩
   iterate 6 refine eqF (by decide) rfl ?_
   refine eqT rfl rfl ?_
   refine⟨_,rfl,dk,_,_,rfl,hd,rfl,_,rfl,lc,_,1,.int x,rfl,rfl,SqL.of hc,atI_nat (j:=1) rfl,dk,p,inp,x,rfl,D.at,fun hx=>?_,?_⟩
   ·have e:stepA p inp (.values x)=(⟨p,inp⟩,.refused 3):=step_err (node_no PR hx _ inp)
    rw[e]at q
    exact Ans.tells (p:=p) (inp:=inp) q D
   ·intro hin
    obtain⟨e1,h1,h2,h3⟩:=node_at PR hin
    have e:stepA p inp (.values x)=(⟨p,inp⟩,.told (toldV (Vacfaa.valuesAt (runOf p inp) x.toNat))):=step_tell (by
     show Vacfaa.onNode ⟨p,inp⟩ x _=_
     rw[node_yes hin.1 h2,h3]
     rfl)
    rw[e]at q
    exact Ans.tells (p:=p) (inp:=inp) q D
  |flows x=>
   refine⟨_,rfl,lc,_,0,.int 7,rfl,rfl,SqL.of hc,atI_nat (j:=0) rfl,?_⟩
   iterate 7 refine eqF (by decide) rfl ?_
   refine eqT rfl rfl ?_
   refine⟨_,rfl,dk,_,_,rfl,hd,rfl,_,rfl,lc,_,1,.int x,rfl,rfl,SqL.of hc,atI_nat (j:=1) rfl,dk,p,inp,x,rfl,D.at,fun hx=>?_,?_⟩
   ·have e:stepA p inp (.flows x)=(⟨p,inp⟩,.refused 3):=step_err (node_no PR hx _ inp)
    rw[e]at q
    exact Ans.tells (p:=p) (inp:=inp) q D
   ·intro hin
    obtain⟨e1,h1,h2,h3⟩:=node_at PR hin
    have e:stepA p inp (.flows x)=(⟨p,inp⟩,.told (toldF ((Vacfaa.flowsOf (runOf p inp)).filter fun c=>c.label==x.toNat))):=step_tell (by
     show Vacfaa.onNode ⟨p,inp⟩ x _=_
     rw[node_yes hin.1 h2,h3]
     rfl)
    rw[e]at q
    exact Ans.tells (p:=p) (inp:=inp) q D
  |node x=>
   refine⟨_,rfl,lc,_,0,.int 8,rfl,rfl,SqL.of hc,atI_nat (j:=0) rfl,?_⟩
   iterate 8 refine eqF (by decide) rfl ?_
   refine eqT rfl rfl ?_
   refine⟨_,rfl,dk,_,_,rfl,hd,rfl,_,rfl,lc,_,1,.int x,rfl,rfl,SqL.of hc,atI_nat (j:=1) rfl,dk,p,inp,x,rfl,D.at,fun hx=>?_,?_⟩
   ·have e:stepA p inp (.node x)=(⟨p,inp⟩,.refused 3):=step_err (node_no PR hx _ inp)
    rw[e]at q
    exact Ans.tells (p:=p) (inp:=inp) q D
   ·intro e0 h0 he0
    have hin:0<=x/\x<sz p:=⟨h0,by have h9:x.toNat<(Vacfaa.nodesOf p).length:=(List.getElem?_eq_some_iff.mp he0).1;have h8:(Vacfaa.nodesOf p).length=sz p:=rfl;omega⟩
    obtain⟨e1,h1,h2,h3⟩:=node_at PR hin
    rw[he0]at h1
    cases h1
    have e:stepA p inp (.node x)=(⟨p,inp⟩,.told (Vacfaa.kindOf e0::(Vacfaa.toldText (textOf e0)++[Vacfaa.toldOpt (Vacfaa.binderOf p x.toNat)]))):=step_tell (by
     show Vacfaa.onNode ⟨p,inp⟩ x _=_
     rw[node_yes h0 h2,h3]
     rfl)
    rw[e]at q
    exact Ans.tells (p:=p) (inp:=inp) q D
  |funs=>
   refine⟨_,rfl,lc,_,0,.int 9,rfl,rfl,SqL.of hc,atI_nat (j:=0) rfl,?_⟩
   iterate 9 refine eqF (by decide) rfl ?_
   refine eqT rfl rfl ?_
   refine⟨_,rfl,dk,_,_,rfl,hd,rfl,dk,p,inp,rfl,D.at,?_⟩
   exact Ans.tells (p:=p) (inp:=inp) q D
  |sites=>
   refine⟨_,rfl,lc,_,0,.int 10,rfl,rfl,SqL.of hc,atI_nat (j:=0) rfl,?_⟩
   iterate 10 refine eqF (by decide) rfl ?_
   refine eqT rfl rfl ?_
   refine⟨_,rfl,dk,_,_,rfl,hd,rfl,dk,p,inp,rfl,D.at,?_⟩
   exact Ans.tells (p:=p) (inp:=inp) q D
  |heap=>
   refine⟨_,rfl,lc,_,0,.int 11,rfl,rfl,SqL.of hc,atI_nat (j:=0) rfl,?_⟩
   iterate 11 refine eqF (by decide) rfl ?_
   refine eqT rfl rfl ?_
   refine⟨_,rfl,dk,_,_,rfl,hd,rfl,dk,p,inp,rfl,D.at,?_⟩
   exact Ans.tells (p:=p) (inp:=inp) q D
  |size=>
   refine⟨_,rfl,lc,_,0,.int 12,rfl,rfl,SqL.of hc,atI_nat (j:=0) rfl,?_⟩
   iterate 12 refine eqF (by decide) rfl ?_
   refine⟨_,rfl,dk,_,_,rfl,hd,rfl,dk,p,inp,rfl,D.at,?_⟩
   have q:Ans A X dk H Q p inp (natI [(Vacfaa.labelsOf p).length,Vacfaa.deepOf p,(Vacfaa.arrowsOf (runOf p inp)).length,(Vacfaa.flowsOf (runOf p inp)).length]):=q
   rw[Mth.len_labels]at q
   exact q.tells D
end
end Fv
end
section
namespace Fv
open PySem PySem.Spec PyProof.Rows L2
open Mth (RN RS MS nsOf sz Prg AskIs lenC)
section
variable {P:Program} {w:World} {K:PySem.W.Frag} {mg:Str->Option Value} {base:Heap} {A:Ad}
abbrev toldR (st:Vacfaa.State) (raws:List (List (List Int))):List Int:=PyFlat.told (PyFlat.played VacfaaNeutral.step st (raws.map PyVacfaa.whole))
def spAnswers (K:PySem.W.Frag):Sp:=fun vs H Q _=>∃(a:Addr) (ns:List Int),vs=[.ref a]/\SqL K H a (ns.map V.int)/\PyVacfaa.answers_asked ns=true/\∀H' l,H' l=some (.lst ((PyVacfaa.answers ns).map V.int))->Q (.ref l) H'
theorem scAns:FnScope ["calls","desk","told","place","behind","answer"] ["calls"] (defScope (top 80)):=⟨rfl,rfl,rfl,by decide +kernel,rfl,by decide +kernel,by decide +kernel⟩
theorem told_cons (st:Vacfaa.State) (c:List (List Int)) (raws:List (List (List Int))) {k:Vacfaa.Ask} (h:VacfaaNeutral.callOf (PyVacfaa.whole c)=some k) :
  toldR st (c::raws)=((VacfaaNeutral.encode (Vacfaa.step st k).2).length:Int)::VacfaaNeutral.encode (Vacfaa.step st k).2++toldR (Vacfaa.step st k).1 raws:=by
 have e:VacfaaNeutral.step st (PyVacfaa.whole c)=((Vacfaa.step st k).1,VacfaaNeutral.encode (Vacfaa.step st k).2):=by unfold VacfaaNeutral.step;rw[h]
 have e2:PyFlat.played VacfaaNeutral.step st (PyVacfaa.whole c::raws.map PyVacfaa.whole)=(VacfaaNeutral.step st (PyVacfaa.whole c)).2::PyFlat.played VacfaaNeutral.step (VacfaaNeutral.step st (PyVacfaa.whole c)).1 (raws.map PyVacfaa.whole):=rfl
 unfold toldR
 rw[List.map_cons,e2,e]
 unfold PyFlat.told
 rw[List.flatMap_cons]
theorem ok_answers {f:Addr} {fd:FuncData} (T:Txt K w mg A) (F:Fun K "answers" "answers" (top 80) f fd) (gDk:KOk P w K mg base CX0 10 A.cDk "Desk" ["self"] (spDkI A)) (gLe:DOk P w K mg base CX0 1 "length_of_call" ["calls","place"] (spLenC K)) (gAC:DOk P w K mg base CX0 11 "answer_of_call" ["desk","call"] (spAC A)) :
  FnOk P w K mg base CX0 12 f fd ["calls"] (spAnswers K):=by
 refine F.ok scAns (fun vs H Q E h=>?_) (fun cdv AA outer s H vs Q E hr h=>?_)
 ·obtain⟨a,ns,rfl,_⟩:=h
  rfl
 ·obtain⟨a,ns,rfl,hs,hask,q⟩:=h
  refine⟨_,pss_cons (ps_set (i:=1) scAns.nd rfl (Or.inl rfl) (pe_kk0 gDk hr (by decide) rfl pass0)) (pss_cons (ps_set (i:=2) scAns.nd rfl (Or.inl rfl) (pe_lst pa_nil)) (pss_cons (ps_set (i:=3) scAns.nd rfl (Or.inl rfl) pe_int)
   (pss_cons (ps_while PassesOwn.never (pt_cmpR op_lt (pv 3) (pe_callB call_len_seq (by rfl) (T.bl "len") bt_len (pa_cons (pv 0) pa_nil)) (nomark _))
    (pss_cons (ps_set (i:=4) scAns.nd rfl (Or.inl rfl) (pe_op op_add (pv 3) (pe_dd gLe hr (by decide) rfl pass0 (pa_cons (pv 0) (pa_cons (pv 3) pa_nil)))))
    (pss_cons (ps_set (i:=5) scAns.nd rfl (Or.inl rfl) (pe_dd gAC hr (by decide) rfl pass0 (pa_cons (pv 1) (pa_cons (pe_slice sl_list (pv 0) (po_some (pv 3)) (po_some (pv 4))) pa_nil))))
    (pss_cons (ps_expr (pe_bm PySem.F.plainAttrs_list PySem.F.slot_list_append PySem.F.type_list_append mt_append (pv 2) (pa_cons (pe_callB call_len_seq (by rfl) (T.bl "len") bt_len (pa_cons (pv 5) pa_nil)) pa_nil)))
    (pss_cons (ps_expr (pe_bm PySem.F.plainAttrs_list PySem.F.slot_list_extend PySem.F.type_list_extend mt_extend (pv 2) (pa_cons (pv 5) pa_nil)))
    (pss_one (ps_set (i:=3) scAns.nd rfl (Or.inl rfl) (pv 4))))))))
   (pss_one (ps_ret (pv 2)))))),?_⟩
  unfold PyVacfaa.answers_asked at hask
  cases hraw:PyFlat.calls PyVacfaa.shape ns.length ns with
  |none=>rw[hraw]at hask;cases hask
  |some raw=>
   rw[hraw]at hask
   simp only[Bool.and_eq_true]at hask
   obtain⟨⟨⟨⟨_,_⟩,hin⟩,_⟩,hshort⟩:=hask
   have hshort:(PyVacfaa.answers ns).length<=10000000:=of_decide_eq_true hshort
   have hans:PyVacfaa.answers ns=toldR VacfaaNeutral.start raw:=by
    unfold PyVacfaa.answers PyVacfaa.calls
    rw[hraw]
   have hline:10000000<=sizeLine:=by decide
   intro dk dx ndk ndx nex
   refine⟨dk,dx,rfl,upd_same,fun H1 D1 b1=>⟨rfl,?_⟩⟩
   have s1:Same H H1:=But.made ndk ndx b1
   refine⟨Nat.zero_le _,fun lt glt=>?_⟩
   have hlt0:H lt=none:=s1.free glt
   have s2:Same H (upd H1 lt (.lst [])):=s1.trans (same_new glt)
   have D1x:DeskX A (fun x=>x=lt) H1 dk p0 0:=by
    obtain⟨PR1,hT1,l1,n1,hd1,ht1,hn1⟩:=D1
    obtain⟨as,k1,k2,k3⟩:=hn1.ex
    refine⟨PR1,hT1,l1,n1,hd1,ht1,ne_of_none ht1 glt,ne_of_none k1 glt,as,k1,k2,fun i n hn=>?_⟩
    obtain⟨a',lp,m1,m2,m3⟩:=k3 i n hn
    exact⟨a',lp,m1,m2,m3,ne_of_none m3 glt⟩
   refine⟨fun m σ H'=>∃(pl:Nat) (v4 v5:Option V) (raws:List (List (List Int))) (fu:Nat) (st:Vacfaa.State) (tl:List Int),σ=[some (.ref a),some (.ref dk),some (.ref lt),some (.int pl),v4,v5]/\Same H H'/\DeskX A (fun x=>x=lt) H' dk st.prog st.input/\H' lt=some (.lst (tl.map V.int))/\pl<=ns.length /\
    PyFlat.calls PyVacfaa.shape fu (ns.drop pl)=some raws/\raws.all (PyInside.call PyVacfaa.bound)=true/\tl++toldR st raws=PyVacfaa.answers ns/\m=ns.length-pl,
    ⟨_,0,none,none,raw,ns.length,VacfaaNeutral.start,[],rfl,s2,D1x.same (same_new glt),upd_same,Nat.zero_le _,hraw,hin,hans.symm,rfl⟩,?_⟩
   rintro m σ H2 ⟨pl,v4,v5,raws,fu,st,tl,rfl,sH,D2,hlt2,hpl,hcs,hins,htl,rfl⟩
   refine⟨_,rfl,_,rfl,a,_,rfl,.inl (sH.seq hs),_,_,rfl,rfl,_,rfl,?_⟩
   rw[List.length_map]
   by_cases hlt':pl<ns.length
   ·have d:decide ((pl:Int)<(ns.length:Int))=true:=decide_eq_true (by omega)
    rw[d]
    refine iteT ?_
    cases hdr:ns.drop pl with
    |nil=>
     have:=congrArg List.length hdr
     rw[List.length_drop]at this
     simp at this
     omega
    |cons p r=>
     rw[hdr]at hcs
     obtain⟨f',c,t,rest,rfl,hcall,hrest⟩:=Mth.calls_split hcs
     rw[List.all_cons,Bool.and_eq_true]at hins
     obtain⟨n,k,n0,nle,ht,hask,hcof,hlen,hp0⟩:=Mth.call_split hcall hins.1
     have hdl:(p::r).length=ns.length-pl:=by rw[<-hdr,List.length_drop]
     refine⟨fun σ' H'=>∃(v5:Option V),σ'=[some (.ref a),some (.ref dk),some (.ref lt),some (.int ((pl+n:Nat):Int)),some (.int ((pl+n:Nat):Int)),v5]/\Same H H'/\DeskX A (fun x=>x=lt) H' dk (Vacfaa.step st k).1.prog (Vacfaa.step st k).1.input/\H' lt=some (.lst ((tl++(((VacfaaNeutral.encode (Vacfaa.step st k).2).length:Int)::VacfaaNeutral.encode (Vacfaa.step st k).2)).map V.int)),?_,?_⟩
     ·rintro σ' H' ⟨v5,rfl,sH',D',hlt''⟩
      refine⟨ns.length-(pl+n),by omega,pl+n,_,v5,rest,f',(Vacfaa.step st k).1,_,rfl,sH',D',hlt'',by omega,?_,hins.2,?_,rfl⟩
      ·rw[<-List.drop_drop,hdr,<-ht]
       exact hrest
      ·rw[<-htl,told_cons st c rest hcof,List.append_assoc]
     ·
      refine⟨_,rfl,_,rfl,_,rfl,a,pl,ns,p,r,rfl,sH.seq hs,hdr,hp0,fun H3 s3=>?_⟩
      rw[hlen]
      refine⟨_,_,rfl,rfl,?_⟩
      have e1:((pl:Int)+(n:Int))=((pl+n:Nat):Int):=by omega
      refine⟨_,rfl,_,rfl,_,rfl,_,rfl,_,rfl,_,rfl,a,_,rfl,(sH.trans s3).seq hs,fun lc glc=>?_⟩
      have ecut:cutV (ns.map V.int) (some (pl:Int)) (some ((pl:Int)+(n:Int)))=((p::r).take n).map V.int:=by
       rw[e1]
       unfold cutV
       rw[HT.sIx_nat,HT.sIx_nat,List.length_map,Nat.min_eq_left hpl,Nat.min_eq_left (by omega),Nat.add_sub_cancel_left,<-List.map_drop,hdr,List.map_take]
      rw[ecut]
      have s4:Same H3 (upd H3 lc (.lst (((p::r).take n).map V.int))):=same_new glc
      refine⟨fun x=>x=lt,dk,lc,st.prog,st.input,(p::r).take n,k,rfl,D2.same (s3.trans s4),(fun x z=>by rw[z,s4 _ _ (s3 _ _ hlt2)];simp),upd_same,hask,fun H5 la D5 b5 fla ela=>?_⟩
      have hlt4:(upd H3 lc (.lst (((p::r).take n).map V.int))) lt=some (.lst (tl.map V.int)):=s4 _ _ (s3 _ _ hlt2)
      obtain⟨_,_,ltx,lnx,⟨dxd,hdd⟩,_,_,_⟩:=D2.same (s3.trans s4)
      have nltdk:lt≠dk:=ne_of hlt4 hdd (by intro z;cases z)
      have hlt5:H5 lt=some (.lst (tl.map V.int)):=b5 _ _ hlt4 nltdk
      have nla:la≠lt:=fun z=>by rw[z,hlt4]at fla;cases fla
      have sH5:Same H H5:=fun b o e=>b5 b o (s4 _ _ (s3 _ _ (sH b o e))) (ne_of_none e ndk)
      have hbig:tl.length+(1+(VacfaaNeutral.encode (Vacfaa.step st k).2).length)<=10000000:=by
       have:=congrArg List.length htl
       rw[told_cons st c rest hcof,List.length_append,List.length_append,List.length_cons]at this
       omega
      have hst:stepA st.prog st.input k=Vacfaa.step st k:=rfl
      rw[hst]at ela D5
      generalize VacfaaNeutral.encode (Vacfaa.step st k).2=ans at *
      refine⟨_,rfl,.inl ⟨rfl,_,SqL.of hlt5⟩,_,rfl,la,_,rfl,.inl (SqL.of ela),lt,_,_,rfl,rfl,hlt5,(by rw[List.length_map];omega),?_⟩
      have ela6:(upd H5 lt (.lst (tl.map V.int++[.int (ans.map V.int).length]))) la=some (.lst (ans.map V.int)):=by rw[upd_ne nla];exact ela
      refine⟨_,rfl,.inl ⟨rfl,_,SqL.of upd_same⟩,_,rfl,lt,la,_,_,rfl,rfl,upd_same,ela6,(by simp only[List.length_append,List.length_map,List.length_cons,List.length_nil];omega),?_⟩
      rw[upd_upd]
      refine⟨_,rfl,?_⟩
      refine⟨some (.ref la),?_,fun b o e=>by rw[upd_ne (ne_of_none e hlt0)];exact sH5 b o e,?_,?_⟩
      ·show([some (.ref a),some (.ref dk),some (.ref lt),some (.int ((pl:Int)+(n:Int))),some (.int ((pl:Int)+(n:Int))),some (.ref la)]:L2.St)=_
       rw[e1]
      ·obtain⟨PR5,hT5,l5,n5,hd5,ht5,hx5,hy5,as,k1,k2,k3⟩:=D5
       have b6:But lt H5 (upd H5 lt (.lst (tl.map V.int++[.int (ans.map V.int).length]++ans.map V.int))):=But.put
       refine⟨PR5,hT5,l5,n5,b6.ins hlt5 (by intro _ z;cases z) hd5,b6 _ _ ht5 hx5,hx5,hy5,as,b6 _ _ k1 hy5,k2,fun i n hn=>?_⟩
       obtain⟨a',lp,m1,m2,m3,m4⟩:=k3 i n hn
       exact⟨a',lp,m1,b6.ins hlt5 (by intro _ z;cases z) m2,b6 _ _ m3 m4,m4⟩
      ·rw[upd_same]
       simp
   ·have d:decide ((pl:Int)<(ns.length:Int))=false:=decide_eq_false (by omega)
    rw[d]
    refine iteF ?_
    have epl:pl=ns.length:=by omega
    have hr0:raws=[]:=by
     rw[epl,List.drop_length]at hcs
     cases fu<;>(simp[PyFlat.calls]at hcs;exact hcs)
    subst hr0
    have:tl=PyVacfaa.answers ns:=by
     rw[<-htl]
     simp[toldR,PyFlat.played,PyFlat.told]
    subst this
    exact⟨_,rfl,q H2 lt hlt2⟩
end
end Fv
end
section
namespace Fv
open PySem PySem.Spec PyProof.Rows L2
def MF (K:PySem.W.Frag) (C:Addr) (m qual:Str) (st:Stmt):Prop:=∃f fd,Fun K m qual st f fd/\Meth K C m f
def DF (K:PySem.W.Frag) (x:Str) (st:Stmt):Prop:=∃f fd,Fun K x x st f fd/\PySem.W.nsIn K mainGlobals x=some (some (.ref f))
structure CF (K:PySem.W.Frag) (x:Str) (C:Addr):Prop where
 at_:PySem.W.nsIn K mainGlobals x=some (some (.ref C))
 cl:Cls K C
 mkk:PySem.W.makesIn K C=true
 kp:PySem.W.keepIn K (.ref C)=true
def TF (K:PySem.W.Frag) (x:Str) (a:Addr) (ns:List Int):Prop:=PySem.W.nsIn K mainGlobals x=some (some (.ref a))/\∃(o:Obj) (its:Array Value) (n:Nat),K.lookup a=some o/\o.cls=.type "tuple"/\o.data=.seq its n/\its.size<=sizeLine/\Vals (ns.map V.int) its.toList
section
variable {K:PySem.W.Frag} {C f a:Addr} {m qual x:Str} {st:Stmt} {oc:Value} {od an:Option Addr} {osl:Array (Option Value)} {kV doc pm cdv ct:Value}
theorem mf (a:PySem.W.findIn K (.ref C) m=some (some (.ref f)):=by k_is) (i:PySem.W.isFn K (.ref f)=true:=by k_is) (l:K.lookup f=some ⟨oc,od,.func (PySem.W.fnOf m qual (defArgs st) (defBody st) (defScope st) .none kV doc pm an cdv ct),osl⟩:=by k_is)
  (c:PySem.W.codeIn K cdv qual=true:=by k_is) (k:PySem.W.keepIn K (.ref f)=true:=by k_is):MF K C m qual st:=⟨f,_,fun_mk l c k,a,i,k⟩
theorem df (a:PySem.W.nsIn K mainGlobals x=some (some (.ref f)):=by k_is) (l:K.lookup f=some ⟨oc,od,.func (PySem.W.fnOf x x (defArgs st) (defBody st) (defScope st) .none kV doc pm an cdv ct),osl⟩:=by k_is)
  (c:PySem.W.codeIn K cdv x=true:=by k_is) (k:PySem.W.keepIn K (.ref f)=true:=by k_is):DF K x st:=⟨f,_,fun_mk l c k,a⟩
theorem cf (a:PySem.W.nsIn K mainGlobals x=some (some (.ref C)):=by k_is) (pg:PySem.W.plainGet K C Str.empty=true:=by k_is) (hd:PySem.W.hasDictIn K C=true:=by k_is) (po:PySem.W.plainOver K C=true:=by k_is) (sa:PySem.W.findIn K (.ref C) "__setattr__"=some (some (.builtin "object.__setattr__")):=by k_is) (mk:PySem.W.makesIn K C=true:=by k_is) (kp:PySem.W.keepIn K (.ref C)=true:=by k_is):CF K x C:=⟨a,⟨pg,hd,po,sa⟩,mk,kp⟩
theorem tf {ns:List Int} {cl:Value} {dc:Option Addr} {its:Array Value} {n:Nat} (h:PySem.W.nsIn K mainGlobals x=some (some (.ref a))) (l:K.lookup a=some ⟨cl,dc,.seq its n,osl⟩) (hc:cl=.type "tuple") (hz:its.size<=sizeLine) (hv:Vals (ns.map V.int) its.toList):TF K x a ns:=⟨h,_,its,n,l,hc,rfl,hz,hv⟩
theorem na_nil:∀g∈([]:List Str),NoAttr K C g:=fun _ h=>nomatch h
theorem na_cons {g:Str} {l:List Str} (h:PySem.W.findIn K (.ref C) g=some none) (t:∀g∈l,NoAttr K C g):∀z∈g::l,NoAttr K C z:=fun z hz=>by
 rcases List.mem_cons.mp hz with rfl|hz
 ·exact h
 ·exact t z hz
theorem bl_nil:∀g∈([]:List Str),PySem.W.nsIn K mainGlobals g=some none:=fun _ h=>nomatch h
theorem bl_cons {g:Str} {l:List Str} (h:PySem.W.nsIn K mainGlobals g=some none) (t:∀g∈l,PySem.W.nsIn K mainGlobals g=some none):∀z∈g::l,PySem.W.nsIn K mainGlobals z=some none:=fun z hz=>by
 rcases List.mem_cons.mp hz with rfl|hz
 ·exact h
 ·exact t z hz
def GI (K:PySem.W.Frag) (l:List (Str×Int)):Prop:=∀p∈l,∃t,PySem.W.nsIn K mainGlobals p.1=some (some (.int p.2 t))
theorem gi_nil:GI K []:=fun _ h=>nomatch h
theorem gi_cons {y:String} {n:Int} {t:Nat} {l:List (String×Int)} (h:PySem.W.nsIn K mainGlobals (Str.ofString y)=some (some (.int n t))) (r:GI K (l.map fun p=>(Str.ofString p.1,p.2))):GI K (((y,n)::l).map fun p=>(Str.ofString p.1,p.2)):=fun z hz=>by
 rcases List.mem_cons.mp hz with rfl|hz
 ·exact⟨t,h⟩
 ·exact r z hz
inductive KwE:List (Str×Int)->List DictEntry->Prop
 |nil:KwE [] []
 |cons {x:Str} {n:Int} {l:List (Str×Int)} {e:DictEntry} {es:List DictEntry} (h:∃t,e.key=.str x t) (g:∃u,e.val=.int n u) (r:KwE l es):KwE ((x,n)::l) (e::es)
theorem kw_rel {l:List (Str×Int)} {es:List DictEntry} (h:KwE l es) (x:Str):RelO ((l.lookup x).map V.int) ((es.find? fun e=>Value.isStrOf x e.key).map (·.val)):=by
 induction h with
 |nil=>exact True.intro
 |@cons y n l e es h g r ih=>
  obtain⟨t,hk⟩:=h
  obtain⟨u,hv⟩:=g
  rw[List.find?_cons,List.lookup_cons,hk]
  by_cases q:x=y
  ·subst q
   have e1:(x==x)=true:=beq_self_eq_true x
   have e2:Value.isStrOf x (.str x t)=true:=e1
   rw[e1,e2]
   show RelO (some (V.int n)) (some e.val)
   rw[hv]
   exact⟨u,rfl⟩
  ·have e1:(x==y)=false:=beq_eq_false_iff_ne.mpr q
   have e2:Value.isStrOf x (.str y t)=false:=beq_eq_false_iff_ne.mpr fun z=>q z.symm
   rw[e1,e2]
   exact ih
theorem mdict_mk {w:World} {es:Array DictEntry} {n:Nat} {l:List (Str×Int)} (h:(a==sysModules)=false) (hl:K.lookup a=some ⟨.type "dict",none,.dict es n,#[]⟩) (hk:PySem.W.KeysLit w.params es.toList) (he:KwE l es.toList):MDict K w a (fun x=>(l.lookup x).map V.int):=
 ⟨h,es,n,hl,hk,fun x=>by
  have:=kw_rel he x
  unfold findBy
  rw[<-Array.find?_toList]
  exact this⟩
end
section
variable {P:Program} {w:World} {K:PySem.W.Frag} {mg:Str->Option Value} {base h:Heap} {CX:CXT} {k:Nat} {C:Addr} {m qual x:Str} {st:Stmt} {ps:List Str} {sp:Sp}
theorem mok (M:MF K C m qual st)
  (ok:∀f fd,Fun K m qual st f fd->FnOk P w K mg base CX k f fd ps sp) (hb:∀(kV doc pm:Value) (an:Option Addr) (cdv ct:Value) (us:List Value),us.length=ps.length->bindArgs (PySem.W.fnOf m qual (defArgs st) (defBody st) (defScope st) .none kV doc pm an cdv ct) ⟨us,[]⟩=pure (ps.zip us):=by intro _ _ _ _ _ _ us hl;first|exact(match us,hl with|[_],_=>rfl)|exact(match us,hl with|[_,_],_=>rfl)|exact(match us,hl with|[_,_,_],_=>rfl)|exact(match us,hl with|[_,_,_,_],_=>rfl)):MOk P w K mg base CX k C m ps sp:=by
 obtain⟨f,fd,F,hm⟩:=M
 exact⟨f,fd,ok f fd F,F.binds hb,hm⟩
theorem kok (X:K.In h) (G:h.Ns mainGlobals mg) (c:CF K x C) (M:MF K C "__init__" qual st)
  (ok:∀f fd,Fun K "__init__" qual st f fd->FnOk P w K mg base CX k f fd ps sp) (hb:∀(kV doc pm:Value) (an:Option Addr) (cdv ct:Value) (us:List Value),us.length=ps.length->bindArgs (PySem.W.fnOf "__init__" qual (defArgs st) (defBody st) (defScope st) .none kV doc pm an cdv ct) ⟨us,[]⟩=pure (ps.zip us):=by intro _ _ _ _ _ _ us hl;first|exact(match us,hl with|[_],_=>rfl)|exact(match us,hl with|[_,_],_=>rfl)|exact(match us,hl with|[_,_,_],_=>rfl)|exact(match us,hl with|[_,_,_,_],_=>rfl)):KOk P w K mg base CX k C x ps sp:=by
 obtain⟨f,fd,F,hm⟩:=M
 exact⟨f,fd,ok f fd F,F.binds hb,⟨c.mkk,hm.at_,hm.fn,c.kp⟩,PySem.W.mg_of X G c.at_⟩
theorem dok (X:K.In h) (G:h.Ns mainGlobals mg) (M:DF K x st)
  (ok:∀f fd,Fun K x x st f fd->FnOk P w K mg base CX k f fd ps sp) (hb:∀(kV doc pm:Value) (an:Option Addr) (cdv ct:Value) (us:List Value),us.length=ps.length->bindArgs (PySem.W.fnOf x x (defArgs st) (defBody st) (defScope st) .none kV doc pm an cdv ct) ⟨us,[]⟩=pure (ps.zip us):=by intro _ _ _ _ _ _ us hl;first|exact(match us,hl with|[_],_=>rfl)|exact(match us,hl with|[_,_],_=>rfl)|exact(match us,hl with|[_,_,_],_=>rfl)|exact(match us,hl with|[_,_,_,_],_=>rfl)):DOk P w K mg base CX k x ps sp:=by
 obtain⟨f,fd,F,hm⟩:=M
 exact⟨f,fd,ok f fd F,F.binds hb,PySem.W.mg_of X G hm,F.kp⟩
end
section
variable {P:Program} {w:World} {K:PySem.W.Frag} {h:Heap} {mg:Str->Option Value} {cNd cFn cPr cRf cVs cRn cNp cRd cDk kw pk pf mks ft:Addr}
def kit4 (K:PySem.W.Frag) (a b c d:Value):Prop:=∀i j,i<4->j<4->PySem.W.kitOne K (match i with|0=>a|1=>b|2=>c|_=>d) (match j with|0=>a|1=>b|2=>c|_=>d)=some (decide (i=j))
theorem kit_mk {a b c d:Value} (k00:PySem.W.kitOne K a a=some true) (k01:PySem.W.kitOne K a b=some false) (k02:PySem.W.kitOne K a c=some false) (k03:PySem.W.kitOne K a d=some false) (k10:PySem.W.kitOne K b a=some false) (k11:PySem.W.kitOne K b b=some true) (k12:PySem.W.kitOne K b c=some false) (k13:PySem.W.kitOne K b d=some false) (k20:PySem.W.kitOne K c a=some false) (k21:PySem.W.kitOne K c b=some false) (k22:PySem.W.kitOne K c c=some true) (k23:PySem.W.kitOne K c d=some false) (k30:PySem.W.kitOne K d a=some false) (k31:PySem.W.kitOne K d b=some false) (k32:PySem.W.kitOne K d c=some false) (k33:PySem.W.kitOne K d d=some true):kit4 K a b c d:=fun i j hi hj=>
 match i,j,hi,hj with
 |0,0,_,_=>k00
 |0,1,_,_=>k01
 |0,2,_,_=>k02
 |0,3,_,_=>k03
 |1,0,_,_=>k10
 |1,1,_,_=>k11
 |1,2,_,_=>k12
 |1,3,_,_=>k13
 |2,0,_,_=>k20
 |2,1,_,_=>k21
 |2,2,_,_=>k22
 |2,3,_,_=>k23
 |3,0,_,_=>k30
 |3,1,_,_=>k31
 |3,2,_,_=>k32
 |3,3,_,_=>k33
 |i+4,_,hi,_=>absurd hi (by omega)
 |0,j+4,_,hj=>absurd hj (by omega)
 |1,j+4,_,hj=>absurd hj (by omega)
 |2,j+4,_,hj=>absurd hj (by omega)
 |3,j+4,_,hj=>absurd hj (by omega)
theorem txt_mk (X:K.In h) (G:h.Ns mainGlobals mg) (cNode:CF K "Node" cNd) (cFunction:CF K "Function" cFn) (cPair:CF K "Pair" cPr) (cReference:CF K "Reference" cRf) (cVisit:CF K "Visit" cVs) (cRun:CF K "Run" cRn) (cReader:CF K "Reader" cRd) (cDesk:CF K "Desk" cDk) (hnd:[cNd,cFn,cPr,cRf,cVs,cRn,cRd,cDk].Nodup) (aNode:∀g∈(["kind","depth","begin","behind","number","name","binder","parts"]:List Str),NoAttr K cNd g) (aFunction:∀g∈(["label","bound"]:List Str),NoAttr K cFn g) (aPair:∀g∈(["label","first","second"]:List Str),NoAttr K cPr g) (aReference:∀g∈(["label","inside"]:List Str),NoAttr K cRf g) (aVisit:∀g∈(["label","string","bound","results"]:List Str),NoAttr K cVs g) (aRun:∀g∈(["nodes","given","steps","visits","calls","flows","made","ending"]:List Str),NoAttr K cRn g) (aReader:∀g∈(["text","place","nodes","around"]:List Str),NoAttr K cRd g) (aDesk:∀g∈(["text","nodes","given"]:List Str),NoAttr K cDk g) (hgi:GI K glInts) (t_pk:TF K "PARTS_OF_KIND" pk [0,0,1,2,2,3,2,1,1,1,1,2,2]) (t_pf:TF K "PARTS_RUN_FIRST" pf [0,0,0,2,1,1,2,1,1,1,1,2,2]) (t_mks:TF K "MAKING_KINDS" mks [2,6,9]) (t_ft:TF K "FIRST_TEXT" ft [48]) (hkw:PySem.W.nsIn K mainGlobals "KIND_OF_WORD"=some (some (.ref kw))) (hkd:MDict K w kw kwF) (hle:∃t,PySem.W.nsIn K mainGlobals "LETTERS"=some (some (.str "abcdefghijklmnopqrstuvwxyz" t))) (hin:∃t,PySem.W.nsIn K mainGlobals "INPUT_NAME"=some (some (.str "in" t))) (hbl:∀x∈(["len","isinstance","list","dict","int","reversed","enumerate","max","set"]:List Str),PySem.W.nsIn K mainGlobals x=some none) (hkit:kit4 K (.type "int") (.ref cFn) (.ref cPr) (.ref cRf)) (o_cFn:Own K cFn) (o_cPr:Own K cPr) (o_cRf:Own K cRf) (hog:PySem.W.specialIn K (.builtin "object.__class__") "__get__"=some (some (.builtin "getset_descriptor.__get__"))) (hot:PySem.W.takesIn K (.builtin "object.__class__")=some true):Txt K w mg ⟨cNd,cFn,cPr,cRf,cVs,cRn,cNp,cRd,cDk,kw,pk,pf,mks,ft⟩ where
 nd:=hnd
 cl:=fun c hc=>by
  simp only[Ad.cls,List.mem_cons,List.not_mem_nil,or_false]at hc
  rcases hc with rfl|rfl|rfl|rfl|rfl|rfl|rfl|rfl
  ·exact cNode.cl
  ·exact cFunction.cl
  ·exact cPair.cl
  ·exact cReference.cl
  ·exact cVisit.cl
  ·exact cRun.cl
  ·exact cReader.cl
  ·exact cDesk.cl
 at_:=fun p hp=>by
  simp only[attrs,List.mem_cons,List.not_mem_nil,or_false]at hp
  rcases hp with rfl|rfl|rfl|rfl|rfl|rfl|rfl|rfl
  ·exact aNode
  ·exact aFunction
  ·exact aPair
  ·exact aReference
  ·exact aVisit
  ·exact aRun
  ·exact aReader
  ·exact aDesk
 gin:=fun p hp=>by
  obtain⟨t,e⟩:=hgi p hp
  exact⟨t,PySem.W.mg_of X G e⟩
 tups:=fun p hp=>by
  simp only[glTups,List.mem_cons,List.not_mem_nil,or_false]at hp
  rcases hp with rfl|rfl|rfl|rfl
  ·exact⟨PySem.W.mg_of X G t_pk.1,t_pk.2⟩
  ·exact⟨PySem.W.mg_of X G t_pf.1,t_pf.2⟩
  ·exact⟨PySem.W.mg_of X G t_mks.1,t_mks.2⟩
  ·exact⟨PySem.W.mg_of X G t_ft.1,t_ft.2⟩
 kw:=⟨PySem.W.mg_of X G hkw,hkd⟩
 lets:=by
  obtain⟨t,e⟩:=hle
  exact⟨t,PySem.W.mg_of X G e⟩
 inn:=by
  obtain⟨t,e⟩:=hin
  exact⟨t,PySem.W.mg_of X G e⟩
 blt:=fun x hx=>PySem.W.mg_none_of X G (hbl x hx)
 kit:=fun i j hi hj=>by
  have q:=hkit i j hi hj
  match i,j,hi,hj,q with
  |0,0,_,_,q=>exact q
  |0,1,_,_,q=>exact q
  |0,2,_,_,q=>exact q
  |0,3,_,_,q=>exact q
  |1,0,_,_,q=>exact q
  |1,1,_,_,q=>exact q
  |1,2,_,_,q=>exact q
  |1,3,_,_,q=>exact q
  |2,0,_,_,q=>exact q
  |2,1,_,_,q=>exact q
  |2,2,_,_,q=>exact q
  |2,3,_,_,q=>exact q
  |3,0,_,_,q=>exact q
  |3,1,_,_,q=>exact q
  |3,2,_,_,q=>exact q
  |3,3,_,_,q=>exact q
  |i+4,_,hi,_,_=>exact absurd hi (by omega)
  |0,j+4,_,hj,_=>exact absurd hj (by omega)
  |1,j+4,_,hj,_=>exact absurd hj (by omega)
  |2,j+4,_,hj,_=>exact absurd hj (by omega)
  |3,j+4,_,hj,_=>exact absurd hj (by omega)
 own:=fun c hc=>by
  simp only[List.mem_cons,List.not_mem_nil,or_false]at hc
  rcases hc with rfl|rfl|rfl
  ·exact o_cFn
  ·exact o_cPr
  ·exact o_cRf
 ocg:=hog
 oct:=hot
 mcl:=⟨PySem.W.mg_of X G cFunction.at_,PySem.W.mg_of X G cPair.at_,PySem.W.mg_of X G cReference.at_⟩
end
theorem all_mk {P:Program} {w:World} {K:PySem.W.Frag} {h:Heap} {mg:Str->Option Value} {fa cNd cFn cPr cRf cVs cRn cNp cRd cDk kw pk pf mks ft:Addr} (X:K.In h) (G:h.Ns mainGlobals mg) (hfa:mg "answers"=some (.ref fa))
  (cNode:CF K "Node" cNd)
  (cFunction:CF K "Function" cFn)
  (cPair:CF K "Pair" cPr)
  (cReference:CF K "Reference" cRf)
  (cVisit:CF K "Visit" cVs)
  (cRun:CF K "Run" cRn)
  (cReader:CF K "Reader" cRd)
  (cDesk:CF K "Desk" cDk)
  (T:Txt K w mg ⟨cNd,cFn,cPr,cRf,cVs,cRn,cNp,cRd,cDk,kw,pk,pf,mks,ft⟩)
  (np:PySem.W.nsIn K mainGlobals "NoProgram"=some (some (.ref cNp)))
  (npx:PySem.W.excIn K cNp [.type "ValueError",.type "Exception",.type "BaseException",.type "object"] "ValueError.__new__"=true)
  (npk:PySem.W.ktsIn K cNp "BaseException"=true)
  (p0:MF K cFn "__init__" "Function.__init__" (inClass (top 28) 0))
  (p1:MF K cPr "__init__" "Pair.__init__" (inClass (top 29) 0))
  (p2:MF K cRf "__init__" "Reference.__init__" (inClass (top 30) 0))
  (p3:MF K cVs "__init__" "Visit.__init__" (inClass (top 31) 0))
  (p4:MF K cRn "__init__" "Run.__init__" (inClass (top 32) 0))
  (p5:MF K cNd "__init__" "Node.__init__" (inClass (top 20) 0))
  (p6:MF K cRd "__init__" "Reader.__init__" (inClass (top 55) 0))
  (p7:DF K "what_is" (top 34))
  (p8:DF K "bind" (top 35))
  (p9:DF K "longer_string" (top 36))
  (p10:DF K "value_of_itself" (top 37))
  (p11:DF K "value_of_one" (top 38))
  (p12:DF K "value_of_two" (top 39))
  (p13:MF K cRn "come_to" "Run.come_to" (inClass (top 32) 2))
  (p14:MF K cRn "go_wrong" "Run.go_wrong" (inClass (top 32) 8))
  (p15:MF K cRn "give" "Run.give" (inClass (top 32) 7))
  (p16:MF K cRn "call" "Run.call" (inClass (top 32) 4))
  (p17:MF K cRn "choose" "Run.choose" (inClass (top 32) 5))
  (p18:MF K cRn "finish" "Run.finish" (inClass (top 32) 6))
  (p19:MF K cRn "go_on" "Run.go_on" (inClass (top 32) 3))
  (p20:MF K cRn "go" "Run.go" (inClass (top 32) 1))
  (p21:DF K "run_program" (top 33))
  (p22:MF K cRd "byte_ahead" "Reader.byte_ahead" (inClass (top 55) 1))
  (p23:MF K cRd "take" "Reader.take" (inClass (top 55) 2))
  (p24:MF K cRd "take_row" "Reader.take_row" (inClass (top 55) 3))
  (p25:MF K cRd "take_letters" "Reader.take_letters" (inClass (top 55) 4))
  (p26:MF K cRd "take_name" "Reader.take_name" (inClass (top 55) 5))
  (p27:MF K cRd "take_binder_name" "Reader.take_binder_name" (inClass (top 55) 13))
  (p28:MF K cRd "take_number" "Reader.take_number" (inClass (top 55) 6))
  (p29:MF K cRd "add_node" "Reader.add_node" (inClass (top 55) 7))
  (p30:DF K "binds_last_part" (top 56))
  (p31:MF K cRd "binder_of" "Reader.binder_of" (inClass (top 55) 8))
  (p32:MF K cRd "read_number" "Reader.read_number" (inClass (top 55) 10))
  (p33:MF K cRd "read_name" "Reader.read_name" (inClass (top 55) 11))
  (p34:MF K cRd "begin_bracket" "Reader.begin_bracket" (inClass (top 55) 12))
  (p35:MF K cRd "begin_expression" "Reader.begin_expression" (inClass (top 55) 9))
  (p36:MF K cRd "go_on" "Reader.go_on" (inClass (top 55) 14))
  (p37:DF K "read_nodes" (top 57))
  (p38:MF K cDk "run" "Desk.run" (inClass (top 65) 1))
  (p39:MF K cDk "has_node" "Desk.has_node" (inClass (top 65) 2))
  (p40:MF K cDk "labels_of" "Desk.labels_of" (inClass (top 65) 3))
  (p41:DF K "arrows_of" (top 66))
  (p42:MF K cDk "take_program" "Desk.take_program" (inClass (top 65) 4))
  (p43:MF K cDk "tell_text" "Desk.tell_text" (inClass (top 65) 5))
  (p44:MF K cDk "take_given" "Desk.take_given" (inClass (top 65) 6))
  (p45:MF K cDk "tell_run" "Desk.tell_run" (inClass (top 65) 7))
  (p46:MF K cDk "tell_arrows" "Desk.tell_arrows" (inClass (top 65) 8))
  (p47:MF K cDk "tell_calls" "Desk.tell_calls" (inClass (top 65) 9))
  (p48:MF K cDk "tell_values" "Desk.tell_values" (inClass (top 65) 10))
  (p49:MF K cDk "tell_flows" "Desk.tell_flows" (inClass (top 65) 11))
  (p50:MF K cDk "tell_node" "Desk.tell_node" (inClass (top 65) 12))
  (p51:MF K cDk "tell_funs" "Desk.tell_funs" (inClass (top 65) 13))
  (p52:MF K cDk "tell_sites" "Desk.tell_sites" (inClass (top 65) 14))
  (p53:MF K cDk "tell_heap" "Desk.tell_heap" (inClass (top 65) 15))
  (p54:MF K cDk "tell_size" "Desk.tell_size" (inClass (top 65) 16))
  (p55:MF K cDk "__init__" "Desk.__init__" (inClass (top 65) 0))
  (p56:DF K "length_of_call" (top 81))
  (p57:DF K "answer_of_call" (top 82))
  (fans:DF K "answers" (top 80)) :
  ∃fd:FuncData,(∀(s:Shared) (us:List Value),us.length=(["calls"]:List Str).length->BindsTo s fd ⟨us,[]⟩ ((["calls"]:List Str).zip us))/\∀base:Heap,K.In base->base.Ns mainGlobals mg->FnOk P w K mg base CX0 12 fa fd ["calls"] (spAnswers K):=by
 generalize hA:(⟨cNd,cFn,cPr,cRf,cVs,cRn,cNp,cRd,cDk,kw,pk,pf,mks,ft⟩:Ad)=A at T
 have TE:TxE K mg A:=by subst hA;exact⟨PySem.W.mg_of X G np,npx,npk⟩
 obtain rfl:A.cNd=cNd:=by rw[<-hA]
 obtain rfl:A.cFn=cFn:=by rw[<-hA]
 obtain rfl:A.cPr=cPr:=by rw[<-hA]
 obtain rfl:A.cRf=cRf:=by rw[<-hA]
 obtain rfl:A.cVs=cVs:=by rw[<-hA]
 obtain rfl:A.cRn=cRn:=by rw[<-hA]
 obtain rfl:A.cRd=cRd:=by rw[<-hA]
 obtain rfl:A.cDk=cDk:=by rw[<-hA]
 obtain⟨fan,fdn,Fan,ean⟩:=fans
 have e:=hfa.symm.trans (PySem.W.mg_of X G ean)
 cases e
 refine⟨fdn,fun s us hu=>?_,fun base _ _=>?_⟩
 ·obtain⟨oc,od,kV,doc,pm,an,cdv,ct,osl,rfl,lk,hcd⟩:=Fan.ex
  exact match us,hu with|[_],_=>.of_eq rfl
 ·have q58:KOk P w K mg base CX0 1 A.cFn "Function" ["self","label","bound"] (spIni A.cFn iFn):=kok X G cFunction p0 (fun _ _ F=>ok_Fn T F)
  have q59:KOk P w K mg base CX0 1 A.cPr "Pair" ["self","label","first","second"] (spIni A.cPr iPr):=kok X G cPair p1 (fun _ _ F=>ok_Pr T F)
  have q60:KOk P w K mg base CX0 1 A.cRf "Reference" ["self","label","inside"] (spIni A.cRf iRf):=kok X G cReference p2 (fun _ _ F=>ok_Rf T F)
  have q61:KOk P w K mg base CX0 1 A.cVs "Visit" ["self","label","string","bound"] (spVsI A):=kok X G cVisit p3 (fun _ _ F=>ok_Vs T F)
  have q62:KOk P w K mg base CX0 1 A.cRn "Run" ["self","nodes","given"] (spRnI P w A):=kok X G cRun p4 (fun _ _ F=>ok_Rn T F)
  have q63:KOk P w K mg base CX0 1 A.cNd "Node" ["self","kind","depth","begin"] (spNdI A):=kok X G cNode p5 (fun _ _ F=>ok_Nd T F)
  have q64:KOk P w K mg base CX0 1 A.cRd "Reader" ["self","text"] (spRdI A):=kok X G cReader p6 (fun _ _ F=>ok_Rd T F)
  have q65:DOk P w K mg base CX0 1 "what_is" ["value"] (spWhat A):=dok X G p7 (fun _ _ F=>ok_what T F)
  have q66:DOk P w K mg base CX0 1 "bind" ["bound","binder","value"] (spBind):=dok X G p8 (fun _ _ F=>ok_bind T F)
  have q67:DOk P w K mg base CX0 1 "longer_string" ["site","string"] (spLong):=dok X G p9 (fun _ _ F=>ok_long T F)
  have q68:DOk P w K mg base CX0 3 "value_of_itself" ["node","visit","given"] (spVI A):=dok X G p10 (fun _ _ F=>ok_vi T F q58)
  have q69:DOk P w K mg base CX0 3 "value_of_one" ["node","visit"] (spV1 A):=dok X G p11 (fun _ _ F=>ok_v1 T F q60)
  have q70:DOk P w K mg base CX0 3 "value_of_two" ["node","visit"] (spV2 A):=dok X G p12 (fun _ _ F=>ok_v2 T F q59)
  have q71:MOk P w K mg base CX0 3 A.cRn "come_to" ["self","label","string","bound"] (spCome P w A):=mok p13 (fun _ _ F=>ok_come T F q61)
  have q72:MOk P w K mg base CX0 1 A.cRn "go_wrong" ["self","visit"] (spWrong P w A):=mok p14 (fun _ _ F=>ok_wrong T F)
  have q73:MOk P w K mg base CX0 3 A.cRn "give" ["self","value"] (spGive P w A):=mok p15 (fun _ _ F=>ok_give T F q65)
  have q74:MOk P w K mg base CX0 4 A.cRn "call" ["self","visit"] (spCallM P w A):=mok p16 (fun _ _ F=>ok_call T F q72 q71 q66 q67)
  have q75:MOk P w K mg base CX0 4 A.cRn "choose" ["self","node","visit"] (spChoose P w A):=mok p17 (fun _ _ F=>ok_choose T F q72 q71)
  have q76:MOk P w K mg base CX0 4 A.cRn "finish" ["self","node","visit"] (spFin P w A):=mok p18 (fun _ _ F=>ok_fin T F q72 q73 q68 q69 q70)
  have q77:MOk P w K mg base CX0 5 A.cRn "go_on" ["self","visit"] (spGoOn P w A):=mok p19 (fun _ _ F=>ok_goOn T F q71 q73 q74 q75 q76 q66)
  have q78:MOk P w K mg base CX0 6 A.cRn "go" ["self"] (spGo P w A):=mok p20 (fun _ _ F=>ok_go T F q71 q77)
  have q79:DOk P w K mg base CX0 7 "run_program" ["nodes","given"] (spRunP P w A):=dok X G p21 (fun _ _ F=>ok_runP T F q62 q78)
  have q80:MOk P w K mg base CX0 1 A.cRd "byte_ahead" ["self"] (spBA A):=mok p22 (fun _ _ F=>ok_ba T F)
  have q81:MOk P w K mg base (CX1 P w A.cNp) 2 A.cRd "take" ["self","byte"] (spTake A):=mok p23 (fun _ _ F=>ok_take T TE F q80)
  have q82:MOk P w K mg base CX0 2 A.cRd "take_row" ["self","lowest","highest"] (spRow A):=mok p24 (fun _ _ F=>ok_row T F q80)
  have q83:MOk P w K mg base CX0 3 A.cRd "take_letters" ["self"] (spLet A):=mok p25 (fun _ _ F=>ok_let T F q82)
  have q84:MOk P w K mg base (CX1 P w A.cNp) 4 A.cRd "take_name" ["self"] (spName A):=mok p26 (fun _ _ F=>ok_name T TE F q83)
  have q85:MOk P w K mg base (CX1 P w A.cNp) 5 A.cRd "take_binder_name" ["self"] (spBName A):=mok p27 (fun _ _ F=>ok_bname T TE F q84)
  have q86:MOk P w K mg base (CX1 P w A.cNp) 3 A.cRd "take_number" ["self"] (spNum A):=mok p28 (fun _ _ F=>ok_num T TE F q82)
  have q87:MOk P w K mg base (CX1 P w A.cNp) 3 A.cRd "add_node" ["self","kind","begin"] (spAdd A):=mok p29 (fun _ _ F=>ok_add T TE F q63)
  have q88:DOk P w K mg base CX0 1 "binds_last_part" ["node"] (spBinds A):=dok X G p30 (fun _ _ F=>ok_binds T F)
  have q89:MOk P w K mg base (CX1 P w A.cNp) 2 A.cRd "binder_of" ["self","name"] (spBinder A):=mok p31 (fun _ _ F=>ok_binder T TE F q88)
  have q90:MOk P w K mg base (CX1 P w A.cNp) 4 A.cRd "read_number" ["self"] (spWay A Mth.readNum):=mok p32 (fun _ _ F=>ok_rnum T F q87 q86)
  have q91:MOk P w K mg base (CX1 P w A.cNp) 5 A.cRd "read_name" ["self"] (spWay A Mth.readName):=mok p33 (fun _ _ F=>ok_rname T F q87 q84 q89)
  have q92:MOk P w K mg base (CX1 P w A.cNp) 6 A.cRd "begin_bracket" ["self"] (spWay A Mth.beginBr):=mok p34 (fun _ _ F=>ok_br T F q81 q83 q87 q85)
  have q93:MOk P w K mg base (CX1 P w A.cNp) 7 A.cRd "begin_expression" ["self"] (spWay A Mth.beginE):=mok p35 (fun _ _ F=>ok_be T F q80 q92 q90 q91)
  have q94:MOk P w K mg base (CX1 P w A.cNp) 8 A.cRd "go_on" ["self"] (spGoR A):=mok p36 (fun _ _ F=>ok_gr T F q81 q93)
  have q95:DOk P w K mg base (CX1 P w A.cNp) 9 "read_nodes" ["text"] (spRead A):=dok X G p37 (fun _ _ F=>ok_read T TE F q64 q93 q94)
  have q96:MOk P w K mg base CX0 8 A.cDk "run" ["self"] (spRun P w A):=mok p38 (fun _ _ F=>ok_run T F q79)
  have q97:MOk P w K mg base CX0 1 A.cDk "has_node" ["self","label"] (spHas A):=mok p39 (fun _ _ F=>ok_has T F)
  have q98:MOk P w K mg base CX0 1 A.cDk "labels_of" ["self","kind"] (spLabs A):=mok p40 (fun _ _ F=>ok_labs T F)
  have q99:DOk P w K mg base CX0 1 "arrows_of" ["run"] (spArr P w A):=dok X G p41 (fun _ _ F=>ok_arr T F)
  have q100:MOk P w K mg base CX0 10 A.cDk "take_program" ["self","text"] (spProg A):=mok p42 (fun _ _ F=>ok_prog T TE F q95)
  have q101:MOk P w K mg base CX0 1 A.cDk "tell_text" ["self"] (spText A):=mok p43 (fun _ _ F=>ok_text T F)
  have q102:MOk P w K mg base CX0 1 A.cDk "take_given" ["self","given"] (spGiven A):=mok p44 (fun _ _ F=>ok_given T F)
  have q103:MOk P w K mg base CX0 9 A.cDk "tell_run" ["self"] (spTRun A):=mok p45 (fun _ _ F=>ok_trun T F q96)
  have q104:MOk P w K mg base CX0 9 A.cDk "tell_arrows" ["self"] (spTArr A):=mok p46 (fun _ _ F=>ok_tarr T F q96 q99)
  have q105:MOk P w K mg base CX0 9 A.cDk "tell_calls" ["self","label"] (spCalls A):=mok p47 (fun _ _ F=>ok_calls T F q97 q96)
  have q106:MOk P w K mg base CX0 9 A.cDk "tell_values" ["self","label"] (spVals A):=mok p48 (fun _ _ F=>ok_vals T F q97 q96)
  have q107:MOk P w K mg base CX0 9 A.cDk "tell_flows" ["self","label"] (spFlows A):=mok p49 (fun _ _ F=>ok_flows T F q97 q96)
  have q108:MOk P w K mg base CX0 2 A.cDk "tell_node" ["self","label"] (spNode A):=mok p50 (fun _ _ F=>ok_node T F q97)
  have q109:MOk P w K mg base CX0 2 A.cDk "tell_funs" ["self"] (spLab A Vacfaa.funsOf):=mok p51 (fun _ _ F=>ok_funs T F q98)
  have q110:MOk P w K mg base CX0 2 A.cDk "tell_sites" ["self"] (spLab A Vacfaa.sitesOf):=mok p52 (fun _ _ F=>ok_sites T F q98)
  have q111:MOk P w K mg base CX0 9 A.cDk "tell_heap" ["self"] (spHeap A):=mok p53 (fun _ _ F=>ok_heap T F q96)
  have q112:MOk P w K mg base CX0 9 A.cDk "tell_size" ["self"] (spSize A):=mok p54 (fun _ _ F=>ok_size T F q96 q99)
  have q113:KOk P w K mg base CX0 10 A.cDk "Desk" ["self"] (spDkI A):=kok X G cDesk p55 (fun _ _ F=>ok_Dk T F q95)
  have q114:DOk P w K mg base CX0 1 "length_of_call" ["calls","place"] (spLenC K):=dok X G p56 (fun _ _ F=>ok_lenC T F)
  have q115:DOk P w K mg base CX0 11 "answer_of_call" ["desk","call"] (spAC A):=dok X G p57 (fun _ _ F=>ok_ac T F q100 q101 q102 q103 q104 q105 q106 q107 q108 q109 q110 q111 q112)
  exact ok_answers T Fan q113 q114 q115
end Fv
end
section
open PySem PySem.W PyProof.Rows Fv
namespace PySem.W.Fast
def tw11336184548024430931:=0
def tw7011409131212146780:=0
def tw13100113559538672438:=0
def tw6070825596497732724:=0
def tw1618636025265587566:=0
def tw17053985598006968126:=0
def tw9182762205653660854:=0
def tw17468516937686745715:=0
def tw4980236084326544812:=0
def tw10973332318774359768:=0
def tw12415799102719896115:=0
def tw14373097078036168146:=0
def tw1929855350056304178:=0
def tw454256801117994289:=0
def tw1697361125191334512:=0
def tw14267889211268632878:=0
def tw17677788239789046507:=0
def tw2686471093187714237:=0
def tw14237435587323240326:=0
def tw10232974591317279572:=0
def tw843103505771414749:=0
def tw10142446044421752889:=0
def tw4951159674176684661:=0
def tw16802229549050234906:=0
def tw5913409734696779057:=0
def tw829095312817344197:=0
def tw6892854215492941303:=0
def tw781806725306970517:=0
def tw1756402928412591786:=0
def tw8888312656910275951:=0
def tw6585897495680625893:=0
def tw9931556558716300471:=0
def tw18176426409704689383:=0
def tw11002982092406624709:=0
def tw6370986716560063207:=0
def tw14266359588580825848:=0
def tw187069739383120981:=0
def tw17046668552911907578:=0
def tw17494639125307684687:=0
def tw15102210629285054428:=0
def tw16978532888793795947:=0
def tw8734005903863018417:=0
def tw177111438787660419:=0
def tw16925813567364036584:=0
def tw13429394839378608936:=0
def tw4784942851160176670:=0
def tw15731803652175249592:=0
def tw7758251846879323816:=0
def tw4285716330434270898:=0
def tw13703728330144144022:=0
def tw14307656576420736031:=0
def tw9183359510952810616:=0
def tw18438973298333571639:=0
def tw9158528901582879876:=0
def tw8409778942988452192:=0
def tw5543676488402112474:=0
def tw6046341220589726068:=0
def tw16826906812931232285:=0
def tw2424997940820159483:=0
def tw18100362918366760924:=0
def tw7694667050194377787:=0
def tw3264857586560511137:=0
def tw14979717978062515658:=0
def tw15763755751755476074:=0
def tw13785064256922401808:=0
def tw14484893849516596291:=0
def tw12001813004438551683:=0
def tw11279406628471877922:=0
def tw10303220605852868099:=0
def tw9298891629311487648:=0
def tw9263173627259051104:=0
def tw234316931776972348:=0
def tw4781801386633099597:=0
def tw9723679619789235717:=0
def tw3478831261355330981:=0
def tw17436155803071597666:=0
def tw10622991999494640351:=0
def tw1547721284262312531:=0
def tw7864505062962329469:=0
def tw3905010292897727169:=0
def tw11395855510050015339:=0
def tw1211221192112102676:=0
def tw17941944166002834466:=0
def tw18001782502107352507:=0
def tw5366667986041940831:=0
def tw5001761018837350967:=0
def tw17596820802337051449:=0
def tw13370788893326591044:=0
def tw7116641429850667090:=0
def tw11373632114367565369:=0
def tw257852665798906411:=0
def tw3031456769301566384:=0
def tw13601274302309291150:=0
def tw1939864665745271267:=0
def tw3390000851384404261:=0
def tw6125090159074014916:=0
def tw5773870986500873326:=0
def tw10042474796865312867:=0
def tw14932639445679502369:=0
def tw14606074381340224993:=0
def tw7377653099540136909:=0
def tw925220116070990929:=0
def tw5758473124842111412:=0
def tw17078541452015245870:=0
def tw15127518580545895936:=0
def tw9140185615169442766:=0
def tw14460125108022173764:=0
def tw3912428135055582173:=0
def tw10340632934493741954:=0
def tw7084772447723033847:=0
def tw12499969846115790887:=0
def tw6397186573738635761:=0
def tw9879834825414573161:=0
def tw16529846995764643067:=0
def tw9355491608648998533:=0
def tw13519541070498451678:=0
def tw5446667538296471037:=0
def tw2045044813732549919:=0
def tw9392747662457353755:=0
def tw4017805680344885166:=0
def tw17503879017884675005:=0
def tw17265702154796529217:=0
def tw15951684469130151840:=0
def tw14093631489250428331:=0
def tw4937261239270811467:=0
def tw14713950135182234357:=0
def tw1790317646677570171:=0
def tw6006255812218177207:=0
def tw12177056163047202512:=0
def tw17525296698076890908:=0
def tw15139737112007410246:=0
def tw192551466359190336:=0
def tw9827155904711236554:=0
def tw13026042168069626957:=0
def tw14485318090787922693:=0
def tw4738744105175898623:=0
def tw17800905629541207166:=0
def tw402543079003835621:=0
def tw10887402510161167454:=0
def tw16957592910027957891:=0
def tw8317390327344773203:=0
def tw15044566905048853300:=0
def tw17243630139710875086:=0
def tw12532323332077896074:=0
def tw8498224943051294917:=0
def tw15368125405888079430:=0
def tw13523749662507982394:=0
def tw11781601289522263448:=0
def tw17020801450146865893:=0
def tw12622619536181672015:=0
def tw13739402423754879181:=0
def tw12149303837995962262:=0
def tw4070855519330334355:=0
def tw17776475609553777051:=0
def tw2437376538062075696:=0
def tw13204509982620547803:=0
def tw2650476677290471293:=0
def tw212032546138168933:=0
def tw17680771397539167423:=0
def tw7601405813280822643:=0
def tw5639511270915587013:=0
def tw10301564452017907465:=0
def tw61339562419952770:=0
def tw13628726719774168743:=0
def tw1120576895417560273:=0
def tw14001290811443550856:=0
def tw3939058455923791942:=0
def tw6022022407820902104:=0
end PySem.W.Fast
set_option maxHeartbeats 0 in
theorem PySem.Challenge.cw_funsasvalues_s01_answers_holds : PySem.Challenge.rw_funsasvalues_s01_answers.Holds := by
  w_on; k_headS; (case hw => exact ⟨[.list [.int 1]], by decide +kernel, by decide +kernel⟩)
  k_fillS
  refine L2.walk_specK (r := PySem.Challenge.rw_funsasvalues_s01_answers) (k := 12) (CX := L2.CX0) (ps := ["calls"]) (sp := spAnswers) (by decide +kernel) rfl rfl ⟨rfl, by decide, by decide⟩ (fun w h Y => PySem.W.kIn_of Y) ?F ?S (fun _ _ _ _ z => z)
  case F =>
    intro w mg fa h Y KX G hmg
    exact all_mk KX G hmg cf cf cf cf cf cf cf cf
      (txt_mk KX G cf cf cf cf cf cf cf cf (by decide)
      (by repeat (first | exact na_nil | refine na_cons (by k_is) ?_))
      (by repeat (first | exact na_nil | refine na_cons (by k_is) ?_))
      (by repeat (first | exact na_nil | refine na_cons (by k_is) ?_))
      (by repeat (first | exact na_nil | refine na_cons (by k_is) ?_))
      (by repeat (first | exact na_nil | refine na_cons (by k_is) ?_))
      (by repeat (first | exact na_nil | refine na_cons (by k_is) ?_))
      (by repeat (first | exact na_nil | refine na_cons (by k_is) ?_))
      (by repeat (first | exact na_nil | refine na_cons (by k_is) ?_))
      (by repeat (first | exact gi_nil | refine gi_cons (by k_is) ?_))
      (tf (by k_is) (by k_is) rfl (by decide) (by repeat (first | exact .nil | refine .cons ⟨_, rfl⟩ ?_)))
      (tf (by k_is) (by k_is) rfl (by decide) (by repeat (first | exact .nil | refine .cons ⟨_, rfl⟩ ?_)))
      (tf (by k_is) (by k_is) rfl (by decide) (by repeat (first | exact .nil | refine .cons ⟨_, rfl⟩ ?_)))
      (tf (by k_is) (by k_is) rfl (by decide) (by repeat (first | exact .nil | refine .cons ⟨_, rfl⟩ ?_)))
      (by k_is) (mdict_mk rfl (by k_is) (by k_keys) (by repeat (first | exact .nil | refine .cons ⟨_, rfl⟩ ⟨_, rfl⟩ ?_)))
      ⟨_, by k_is⟩ ⟨_, by k_is⟩
      (by repeat (first | exact bl_nil | refine bl_cons (by k_is) ?_))
      (kit_mk (by kit_is) (by kit_is) (by kit_is) (by kit_is) (by kit_is) (by kit_is) (by kit_is) (by kit_is) (by kit_is) (by kit_is) (by kit_is) (by kit_is) (by kit_is) (by kit_is) (by kit_is) (by kit_is))
      ⟨by k_is, by k_is⟩ ⟨by k_is, by k_is⟩ ⟨by k_is, by k_is⟩ (by k_is) (by k_is))
      (by k_is) (by k_exc) (by kts_isx)
      mf mf mf mf mf mf mf df df df df df df mf mf mf mf mf mf mf mf df mf mf mf mf mf mf mf mf df mf mf mf mf mf mf df mf mf mf df mf mf mf mf mf mf mf mf mf mf mf mf mf mf df df df
  case S =>
    intro K H xs a hO hwi hask hx
    cases hx with
    | cons h1 h2 =>
      cases h2
      cases h1 with
      | lst hs ha =>
        have e := L2.ints_dw a.1 _ ha
        subst e
        exact ⟨_, a.1, rfl, hs, hask, fun H' p hp => .lst (L2.SqL.of hp) (L2.dw_ints _)⟩
end
